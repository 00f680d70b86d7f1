import PyProof.Rows.All
import Wide.All
import OpenK.AllK
import Wide.FinOn
import Lean
import PyProof.EqAt
import PyProof.EqKinds
import PyProof.TupleCall
import PyProof.ExcInit
import PyProof.ExcClass2
import PyProof.InstStoreFacts
import OpenK.KOwn
import PyProof.RulesAs
import PyProof.ExcAttrAll.ValueError
import KE.KIsAll
import KE.KRevSl
import KE.KRevIter
import PyProof.Rows.SortRuns
import PySem.SetTable
import PySem.SetOps
import PyProof.TupleKey
import PyProof.SetKind
import PyProof.Rows.SetObj
import KE.KDictSum
import PyProof.WalkInts
import KE.KDictOf
import PyProof.AttrMissHeap
import PyProof.DictWalks
import KE.KDictLaws
import KE.KDictList
import PyProof.FString2
import PyProof.ReprRoads
import PyProof.ReprLen
import PyProof.Rows.CallKwBuiltin
import PySem.Challenge.RW_digbook_k63_whole_none_wider_none_fewer
set_option linter.all false
structure PySem.W.Fast:Prop where(tw3860719808237800271 tw18378541559979561712 tw1026583321440697571 tw13573529830997828780 tw17079170449948501397 tw17338045619017702896 tw18308801897889154853 tw6502084918433509588 tw5185028848685530563 tw3695764912424250831 tw8040579010536316773 tw13721222531864142064 tw7555499012517064254 tw4581214336322771776 tw12510282264187944413 tw6510641731706124042 tw6699147795306511308 tw10083271199914500024 tw12485792867680964348 tw9261766727146258373 tw11233419812816555511 tw1688583953486999023 tw3767631092409716092 tw18334883000029922983 tw502409635943856601 tw2017497177453507708 tw872366062305341931 tw14005808100116654203 tw7353776699217314472 tw13102517748915812688 tw3663036380916581060 tw13841559496568298493 tw15765139325123221324 tw585986876441406757 tw18147670857885941770 tw8252758786059483310 tw16265278302785820365 tw8304400980130155905 tw2416898874949362069 tw5172466153292757240 tw87655912510738777 tw3097995318629937743 tw16586341100235803046 tw7199692257023844636 tw13876979600654926299 tw11222632897112306831 tw9509886451803145980 tw1432219134989002708 tw13918865887805741215 tw2186230343480642660 tw18299038774900407050 tw508403950747439911 tw318488635605150897 tw1405063696943744261 tw17505754523899061117 tw10786990768103019647 tw9794173882556141684 tw7754645394593195722 tw5040399386562905804 tw6203402633559101752 tw11004306381075729695 tw12014115713738781432 tw7535091809160337223 tw10213991915343906064 tw5749696484106610648 tw1939463474385711813 tw4975653549849983402 tw8396922525575326941 tw14389648362257515737 tw5272753601318586310 tw18170698584531697669 tw16058747145023067417 tw4455006911328456510 tw16124992588863817382 tw17513143120145129826 tw18147604688752609181 tw2466735521231580490 tw1457390582192379797 tw14237933420374003534 tw16274714034996813260 tw870131647680302139 tw4373200790399965123 tw11451124032183615830 tw500930940736246615 tw1602911026948190501 tw7664189224923146346 tw17494191417295862132 tw16160698840819737369 tw9462472101192752966 tw16790325039125203662 tw15453297668689234788 tw6948625988359744260 tw16364423785765454704 tw4036115991927698122 tw15540617472874116973 tw8165935491694344658 tw14865090342208941131 tw11399653780637592945 tw15792974890030632585 tw11810304562689030649 tw5643602408938127560 tw14408587575537052128 tw9199592848581409295 tw16266050073274602233 tw14192138140913682485 tw9926485669283010522 tw6710290136968769296 tw13321762449691678407 tw6825107262927907742 tw6356051770847098685 tw8755142843985436531 tw3251361298040361264 tw11664796585032888329 tw6718318405990965923 tw4731463020806530402 tw7493040569352788909 tw13585503036408378886 tw11627448255555211303 tw794284251714941304 tw18091374378966772112 tw18385571999036586578 tw12570724627963196493 tw10153931315385404698 tw12564304555024182324 tw15127045169648319692 tw16037294702998233306 tw1976846341684147532 tw17758638261708472217 tw3588113101708791408 tw287643357053023704 tw18251567191581813902 tw16061866194461211427 tw5955200184374095971 tw2682369566383531765 tw8418964961837624826 tw16756634394463618168 tw6829939027583540037 tw12352915831058271527 tw5131004163610927884 tw4045545399169554922 tw16052750972296425962 tw14316979512975813105 tw3576255329354567122 tw13451156678707904146 tw11727913760960489497 tw12607740239401517374 tw2585372999834749968 tw2277581340263060981 tw9414381506425224305 tw17096531120578327807 tw14749142727655935077 tw14040041880330486110 tw7913996295663790761 tw4976964806871428688 tw18113289728943873762 tw10277610815504608387 tw8255597924896291026 tw7240867493750034680 tw10180176731669238102 tw14124727831697089318 tw17330247155617177573 tw5191551578177658416 tw15805374558921122824 tw2574424163840366985 tw11652801053591437200 tw632018731092710632 tw5277804276151031732 tw12488035541581025459 tw14321238401882307461 tw780013721967698499 tw2928207771688616232 tw11511564377968375937 tw13428677377221868550 tw9492025342420757116 tw4540259457322171679 tw411017716326450073 tw10257549743656868768 tw1326367604174382126 tw10476095624695669141 tw14010125669854161791 tw5266960661227915790 tw13129381727890685427 tw1235672898181779478 tw8265881586476110854 tw4955166073420114986 tw5998321697749705644 tw8977639909810273290 tw8684520879602284931 tw5449313132483804452 tw2541889408780079309 tw1987748133596772153 tw10810385656088795933 tw15377077728574456846 tw5077793075410018500 tw938526979713083820 tw7801059100838248769 tw14280529262713266328 tw946129081839348569 tw3738054013983187717 tw16260595623228425633 tw15095300528698620882 tw7409928027497582820 tw11646926368277602972 tw3769681602937270339 tw7464014265563196808 tw6894124349718709595 tw14943100441217508716 tw12851890636669485302 tw12628086792757998365 tw2154638439986541244 tw16254510812492744423 tw13434457337285905908 tw14835218519929227466 tw12651063173938145082 tw4906960068083116638 tw4383401741144631073 tw2358821943346471773 tw2317119392713622909 tw15165380376635772081 tw1340134105225266676 tw12556402114525575900 tw1010253718133451716 tw8278412298519292330 tw12753305214517152532 tw14602210802367469276 tw17437271848506941002 tw14672577053199934190 tw3786922906517447328 tw15106668856242298114 tw14468133356744731309 tw18053018356642191670 tw10683536187387849057 tw3551818638223350137 tw14840599505273528981 tw12774657012906861922 tw11349909378932419756 tw8505535421752874518 tw5725602326178945061 tw15722681232666750420 tw279194737107965275 tw18125601642275489654 tw2433175453042256989 tw18184512386991101127 tw17708008825075427474 tw17609853655841363342 tw16816106538483207603 tw12761266991988289460 tw7787938818654938799 tw5137092765444915389 tw4603798996612138352 tw3302615777921475243 tw5433895818765923317 tw526173607454709159 tw5139344447995789015 tw4733193400927639102 tw1844281588035551435 tw17551028411560927868 tw17052998083756405104 tw14583022658514121883 tw13723726769684876846 tw13925356968961701938 tw960238221618310109 tw9216540900908299914 tw9141312903042344581 tw7617264486370143618 tw7440420275707112774 tw7086790999878851891 tw6718884657858512128 tw658148908430161479 tw5892623045180781356 tw4667276543205491718 tw4496298612097586734 tw3939992150977774256 tw3057511038158616494 tw279843914479963235 tw2706677889340886983 tw2594653712337022751 tw2301513828812321920 tw2243043493593210362 tw2185457238868230125 tw2142348757930585894 tw2123974818853216366 tw18314268463295022925 tw18057796317879928052 tw17837797313425233918 tw17357343189420764205 tw17300521104342450716 tw17033765742445468391 tw16499502559731341310 tw15524411046815641555 tw15448511975259669952 tw15434549507006447798 tw15273566942407590789 tw14934042748881763570 tw14803444318207268032 tw14358005051147755801 tw13382269293841190191 tw11134797659581009815 tw1094910981549177058 tw10943939625938044248 tw10504441018982988924 tw14274008651440027893 tw9508420552146892016 tw9045201219176882532 tw12418923966166212473 tw16442150515731079888 tw7079643515685028313 tw12910375082101833374 tw8923956567790800704 tw4983299954159738223 tw376839001192513364 tw2027715268066907803 tw15010403304794739044 tw14457369630184005006 tw1432576792420588383 tw11482962252114785056 tw606243033393179269 tw17589457150433731007 tw1376282150951436668 tw11012757649724091571 tw4089064097005409664 tw3684158561933574734 tw2791501070150765038 tw12009975650776003805 tw15931075133277440907 tw3493726536174708131 tw15947299776473332702 tw10494801603462621419 tw10271541999020467286 tw18075069935830665426 tw7367385200398410041 tw5340153564695766764 tw4703399626283641574 tw18369572236090451714 tw16628526772689685998 tw16484188489317215335 tw13130368961799488027 tw1289274451066200731 tw10738751446985310080 tw10286746903126756749 tw4365816987717503795 tw6509375304670315618 tw8235658796068579413 tw6625394778596160509 tw2627947601994970023 tw15336749083969863522 tw6179530081698546937 tw1846524076134541490 tw1358424758140494899 tw3979683938258612780 tw2215431155447909351 tw11120728782001253775 tw8694051322700094120 tw8482442160697201606 tw7982138714545383095 tw17352346485613169693 tw1595162248130304622 tw13130073870471586163 tw10202272158487294302 tw10080185877649456730 tw6508430606427977043 tw6015601784257327644 tw3587537807222110978 tw3525851355899784699 tw14195870249956006403 tw9966278046029006183 tw9924803132957314478 tw9810834089557397812 tw9594140855583121660 tw9339749330938145292:0=0)
theorem Z0{c:Sort _}{b:Prop}{a:c}:a=a∨b:=Or.inl rfl
theorem Z1{c:Sort _}{b:Prop}{a:c}:b∨a=a:=Or.inr rfl
def Z2:=@PySem.wpAny_bind
def Z3:=@PySem.wpAny_pure
def Z4:=@List.getElem?_eq_getElem
def Z5:=@List.length_map
def Z6:=@PySem.Heap.get?_push_of_some
def Z7:=@List.mem_of_getElem?
def Z8:=@List.length_append
def Z9:=@Option.some.inj
def Za:=@Array.length_toList
def Zb:=@List.getD_eq_getElem?_getD
def Zc:=@List.map_append
def Zd:=@List.append_assoc
def Ze:=@decide_eq_true
def Zf:=@Nat.lt_of_lt_of_le
def Zg:=@decide_eq_false
def Zh:=@Nat.le_refl
def Zi:=@PySem.Heap.get?_push_size
def Zj:=@List.mem_cons_of_mem
def Zk:=@List.getElem?_map
def Zl:=@List.mem_cons_self
def Zm:=@List.take_of_length_le
def Zn:=@of_decide_eq_true
def Zo:=@List.size_toArray
def Zp:=@PySem.Heap.size_push
def Zq:=@List.length_cons
def Zr:=@Nat.ne_of_lt
def Zs:=@Bool.false_ne_true
def Zt:=@PySem.Heap.lt_size
def Zu:=@Bool.and_eq_true
def Zv:=@List.any_cons
def Zw:=@List.append_nil
def Zx:=@Bool.false_eq_true
def Zy:=@List.filterMap_cons
def Zz:=@List.filter_append
def Y0:=@List.filter_cons_of_neg
def Y1:=@List.filter_cons_of_pos
def Y2:=@List.filter_nil
def Y3:=@List.getElem?_append_left
def Y4:=@List.getElem?_append_right
def Y5:=@List.getElem?_take_of_lt
def Y6:=@Array.getElem?_toList
def Y7:=@List.getElem_mem
def Y8:=@Nat.le_succ
def Y9:=@Nat.le_trans
def Ya:=@List.length_drop
def Yb:=@List.length_filter_le
def Yc:=@List.length_range
def Yd:=@List.length_singleton
def Ye:=@List.length_take
def Yf:=@List.lookup_cons
def Yg:=@Nat.lt_succ_of_lt
def Yh:=@Nat.lt_succ_self
def Yi:=@List.map_congr_left
def Yj:=@List.map_cons
def Yk:=@List.map_map
def Yl:=@List.mem_append
def Ym:=@List.mem_append_left
def Yn:=@List.mem_append_right
def Yo:=@List.mem_cons
def Yp:=@List.mem_of_mem_take
def Yq:=@List.mem_singleton
def Yr:=@Nat.ne_of_gt
def Ys:=@List.nodup_append
def Yt:=@List.nodup_iff_pairwise_ne
def Yu:=@List.nodup_nil
def Yv:=@Nat.not_lt_zero
def Yw:=@List.not_mem_nil
def Yx:=@Bool.or_eq_false_iff
def Yy:=@List.pairwise_map
def Yz:=@List.take_add_one
def X0:=@List.take_append_drop
def X1:=@Nat.zero_le
def X2:=@List.getElem?_of_mem
def X3:=@List.Pairwise.imp_of_mem
def X4:=@Int.eq_ofNat_of_zero_le
def X5:=@Nat.lt_irrefl
def X6:=@List.getElem?_eq_none
theorem X7{b:Type _}{l:List b}{i:Nat}{a:b}(h:l[i]?=some a):∃h:i<l.length,l[i]=a:=List.getElem?_eq_some_iff.mp h
theorem X8{b:Type _}{a:b}{s t:List b}(h:a∈s++t):a∈s∨a∈t:=List.mem_append.mp h
theorem X9{c:Type _}{a b:c}(h:a∈[b]):a=b:=List.mem_singleton.mp h
theorem Xa{c d:Type _}{f:c->d}{l:List c}{b:d}(h:b∈l.map f):∃a,a∈l/\f a=b:=List.mem_map.mp h
theorem Xb{c d:Type _}{f:c->d}{l:List c}{b:d}(h:∃a,a∈l/\f a=b):b∈l.map f:=List.mem_map.mpr h
open Array (forIn_toList getElem?_toList length_toList mem_toList_iff size_append size_map toList_append toList_extract toList_push)
open Bool (and_eq_true false_eq_true or_eq_false_iff or_eq_true)
open List (all_eq_true all_map any_cons any_map append_nil countP_cons ext_getElem filterMap_cons filter_append filter_cons filter_cons_of_neg filter_cons_of_pos filter_nil flatMap_append foldl_cons forIn_cons getD_eq_getElem?_getD getElem?_append_left getElem?_append_right getElem?_drop getElem?_map getElem?_take_of_lt getElem_mem getElem_of_mem length_append length_cons length_drop length_eq_zero_iff length_filter_le length_map length_nil length_range length_singleton length_take length_zip lookup_cons map_append map_congr_left map_cons map_id map_map map_nil mem_append mem_append_left mem_append_right mem_cons mem_cons_of_mem mem_cons_self mem_filterMap mem_flatMap mem_map mem_of_mem_take mem_range mem_singleton nodup_append nodup_cons nodup_iff_pairwise_ne nodup_nil nodup_range not_mem_nil of_mem_zip pairwise_map range_succ size_toArray take_add_one take_append_drop take_of_length_le)
open Nat (add_mod add_zero le_add_right le_of_lt le_refl le_succ le_trans le_zero lt_of_lt_of_le lt_succ_of_lt lt_succ_self mod_lt ne_of_gt ne_of_lt not_lt_zero pow_succ sub_self succ_pos zero_add zero_le)
open Option (getD_none isSome_iff_exists isSome_map map_eq_some_iff)
open PyProof.Rows (boot_abs boot_all boot_int boot_isinstance boot_list boot_min boot_set boot_sorted boot_str boot_tuple)
open PySem.F (called_set plainAttrs_dict plainAttrs_list plainAttrs_str slot_dict_get slot_str_join type_dict_get type_str_join)
open PySem.Heap (ExtBut SameBut get?_push_of_some get?_push_size get?_update_other get?_update_self lt_size)
open PySem.W (KatTups Looks callWith_K cellsFrom_some codeIn emptyDict findIn fnOf handedIn hasDictIn instObj isFn kat_cons kat_kind kat_lt kat_no kat_yes keepIn kia_one kitOne kitx_dict kitx_list lookIn makesIn mg_none_of mg_of nsIn plainGet plainGet_of plainOver takerIn)
set_option maxHeartbeats 0
set_option Elab.async false
set_option compiler.extract_closed false
set_option maxRecDepth 100000
section
open PySem
local macro_rules|`(⋯)=>`(by lia)|`(∅)=>`(by simp)
local macro_rules|`(⇑$s:ident)=>`(Shared.heap $s|>.objs.size)
local macro_rules|`(~~~$x:ident)=>`(wpAny (model ($x).prog ($x).w) ($x).A)
local macro_rules|`($s:ident>>>$e)=>`({$s with heap:=$e})
local macro_rules|`(%[$x,*|$y])=>`(⟨$x,*,$y⟩)
set_option hygiene false in
local macro_rules|`(↥$a:ident)=>`(wpAny (model prog w) $a)
set_option hygiene false in
local macro_rules|`(command|#where)=>`(variable{prog:Program}{w:World}{A:Around}{E:ZD}{s:Shared})
set_option hygiene false in
local macro_rules|`(command|#version)=>`(variable{X:Cx}{pins:ZE}{σ:St}{H:Hp}{s:Shared})
abbrev ZA:=PySem.W.Frag
abbrev ZB:=List PySem.Str
abbrev ZC:=PySem.Str->Option PySem.Value
abbrev ZD:=PySem.Value->PySem.Shared->Prop
abbrev ZE:=List (PySem.Addr×PySem.Obj)
abbrev ZF:=List PySem.Value
abbrev ZG:=List (PySem.Addr×List PySem.Str)
abbrev ZH:=Option PySem.Addr
abbrev ZI:=Array PySem.Value
abbrev ZJ:=Array (Option PySem.Value)
abbrev ZK:=List Int
set_option genSizeOf false
set_option genInjectivity false
set_option bootstrap.genMatcherCode false
namespace L2
open PySem PySem.Spec PyProof.Rows
noncomputable abbrev Key:=Sum Int Str
noncomputable def jf:Key->Value->Bool
 | .inl k,v=>Value.isInt k v
 | .inr x,v=>Value.isStrOf x v
noncomputable def keyH(w:World):Key->Int
 | .inl k=>hashInt k
 | .inr x=>hashStr w x
theorem aU:∀{k:Key} {v:Value},jf k v=true->(∃i t,k=Sum.inl i/\v=Value.int i t)\/(∃x t,k=Sum.inr x/\v=Value.str x t)
 | .inl i,v,h=>by
   obtain⟨t,e⟩:=Value.isInt_shape h;exact .inl %[i,t,rfl|e]
 | .inr x,v,h=>by
   obtain⟨t,e⟩:=Value.isStrOf_shape h;exact .inr %[x,t,rfl|e]
theorem vX(i:Int)(t:Tok):jf (.inl i) (.int i t)=true:=by simp[jf,Value.isInt]
theorem dv(x:Str)(t:Tok):jf (.inr x) (.str x t)=true:=by simp[jf,Value.isStrOf]
theorem C6(a b:Int):decide ((Sum.inl a:Key)=Sum.inl b)=(a==b):=by
 by_cases e:a=b
 .subst e;simp
 simp_all
theorem C7(a b:Str):decide ((Sum.inr a:Key)=Sum.inr b)=decide (a=b):=by
 simp
noncomputable def aM(prog:Program)(w:World):PySem.KeyKind prog w Key where
 is:=jf
 hash:=keyH w
 inj:=λv a b ha hb=>by
  rcases aU ha with⟨i,t,rfl,rfl⟩|⟨x,t,rfl,rfl⟩
  .rcases aU hb with⟨j,u,rfl,e⟩|⟨y,u,rfl,e⟩
   .injection e with e1 _;rw[e1]
   .exact nomatch e
  .rcases aU hb with⟨j,u,rfl,e⟩|⟨y,u,rfl,e⟩
   .exact nomatch e
   .injection e with e1 _;rw[e1]
 byValue:=λk v h=>by
  rcases aU h with⟨i,t,rfl,rfl⟩|⟨x,t,rfl,rfl⟩<;> rfl
 pyHash:=λhv h=>by
  rcases aU hv with⟨i,t,rfl,rfl⟩|⟨x,t,rfl,rfl⟩
  .exact wpAny_pyHash_int h
  .exact wpAny_pyHash_str h
 eqBool:=λhu hv h=>by
  rcases aU hu with⟨i,t,rfl,rfl⟩|⟨x,t,rfl,rfl⟩
  .rcases aU hv with⟨j,u,rfl,rfl⟩|⟨y,u,rfl,rfl⟩
   .rw[C6]at h;exact wpAny_eqBool_int h
   .exact SeqAt.EqAt.int_str i t y u _ _ _ _ h
  .rcases aU hv with⟨j,u,rfl,rfl⟩|⟨y,u,rfl,rfl⟩
   .exact SeqAt.EqAt.str_int x t j u _ _ _ _ h
   .rw[C7]at h;exact wpAny_eqBool_str h
 «strs»:=λk x t v h=>by
  rcases aU h with⟨i,u,rfl,e⟩|⟨y,u,rfl,e⟩
  .exact nomatch e
  .injection e with e1 _
   subst e1;cases v<;> rfl
theorem rC(prog:Program)(w:World)(i:Int)(t:Tok):(aM prog w).is (.inl i) (.int i t)=true:=vX i t
theorem rD(prog:Program)(w:World)(x:Str)(t:Tok):(aM prog w).is (.inr x) (.str x t)=true:=dv x t
set_option genInjectivity true in
inductive V where
 | non|bl (b:Bool)|int (i:Int)|str (x:Str)|byt (b:Array UInt8)|flt (b:UInt64)|ref (a:Addr)|ty (n:String)
 deriving DecidableEq
def aN:V->Value->Prop
 | .non,u=>u=Value.none
 | .bl b,u=>u=Value.bool b
 | .int i,u=>∃t,u=Value.int i t
 | .str x,u=>∃t,u=Value.str x t
 | .byt b,u=>∃t,u=Value.bytes b t
 | .flt b,u=>∃t,u=Value.float b t
 | .ref a,u=>u=Value.ref a
 | .ty n,u=>u=Value.type n
abbrev aH:List V->ZF->Prop:=Paired aN
theorem aH.length{xs:List V}{us:ZF}(r:aH xs us):xs.length=us.length:=Paired.length r
theorem aH.get:∀{xs:List V} {us:ZF} {i:Nat} {x:V},aH xs us->xs[i]? =some x->∃u,us[i]? =some u/\aN x u
 | _,_,_,_,.nil,e=>by simp at e
 | _,_,0,_,.cons r _,e=>by simp at e;subst e;exact%[_,rfl|r]
 | _,_,i+1,x,.cons _ t,e=>by
   obtain⟨u,a,b⟩:=aH.get t (e);exact%[u,a|b]
theorem aH.append:∀{xs ys:List V} {us ws:ZF},aH xs us->aH ys ws->aH (xs++ys) (us++ws)
 | _,_,_,_,.nil,s=>s
 | _,_,_,_,.cons r t,s=> .cons r (aH.append t s)
theorem aH.take:∀{xs:List V} {us:ZF} n,aH xs us->aH (xs.take n) (us.take n)
 | _,_,0,_=> .nil
 | _,_,_+1,.nil=> .nil
 | _,_,n+1,.cons r t=> .cons r (aH.take n t)
theorem aH.drop:∀{xs:List V} {us:ZF} n,aH xs us->aH (xs.drop n) (us.drop n)
 | _,_,0,r=>r
 | _,_,_+1,.nil=> .nil
 | _,_,n+1,.cons _ t=>aH.drop n t
def fV:Option V->Option Value->Prop
 | some v,some u=>aN v u
 | none,none=>True
 | _,_=>False
noncomputable def KV{a:Type}:List (a×V)->List (a×Value)->Prop:=Paired λp q=>p.1=q.1/\aN p.2 q.2
noncomputable def kV:Key->V
 | .inl i=> .int i
 | .inr x=> .str x
set_option genInjectivity true in
inductive HO where
 | lst (xs:List V)
 | tup (xs:List V)
 | dK (kvs:List (Key×V))|dT (kvs:List (List Key×V))
 | set (S:Int->Bool) (n:Nat)
 | ins (C dx:Addr) (fs:List (Str×V))
 | own (x:Addr)
 | xd (fs:List (Str×V))
 | met (f x:Addr)
 | rng (lo hi:Int)
 | frz (o:Obj) (u:HO)
 | tbl (ps:ZI)
 | ext (φ:Heap->Prop)
noncomputable abbrev Hp:=Addr->Option HO
noncomputable def upd(H:Hp)(a:Addr)(o:HO):Hp:=λb=>if b=a then some o else H b
theorem aa:upd H a o a=some o:=by unfold upd;rw[if_pos rfl]
theorem am{H:Hp}{a b:Addr}{o:HO}(h:b≠a):upd H a o b=H b:=by unfold upd;rw[if_neg h]
theorem Ff{H:Hp}(h:H a=some o)(h':H b=some u)(d:o≠u):a≠b:=by
 intro e;subst e;rw[h]at h';exact d (Z9 h')
theorem ar{H:Hp}{a b:Addr}{o:HO}(h:H a=some o)(h':H b=none):a≠b:=by
 lia
section
variable(P:Program)(w:World)
def bQ(H:Hp)(h:Heap)(a:Addr):HO->Prop
 | .lst xs=>xs.length<=sizeLine/\∃(its:ZF) (n:Nat),aH xs its/\h.get? a=some {cls:= .type "list",data:= .seq its.toArray n}
 | .tup xs=>xs.length<=sizeLine/\∃its:ZF,aH xs its/\IsTup h a its.toArray
 | .dK b=>b.length<=sizeLine/\(a==sysModules)=false/\∃vs,KV b vs/\h.DictOf (aM P w) a vs
 | .dT b=>b.length<=sizeLine/\(a==sysModules)=false/\∃xs:List (List Key×Addr×Value),
  Paired (λ(p:List Key×V) (q:List Key×Addr×Value)=>p.1=q.1/\H q.2.1=some (.tup (p.1.map kV))/\aN p.2 q.2.2) b xs/\
  ∃o es j,h.get? a=some o/\o.ExactDict/\o.data= .dict es j/\es.toList=xs.map (entryOfKey (tupleKind (aM P w)))/\(xs.map (·.1)).Nodup
 | .set S n=>h.SetOf (intKind P w) a S n
 | .ins C d fs=>H d=some (.own a)/\fs.length<=1000/\d≠a/\h.get? a=some (instObj C d)/\
  ∃c,h.Ns1 d c/\(∀f,fV (fs.lookup f) (c f))/\PySem.Within c (fs.map (·.1))
 | .own _=>∃o,h.get? a=some o
 | .xd fs=>∃c,h.Ns1 a c/\∀f,fV (fs.lookup f) (c f)
 | .rng lo hi=>∃t u v,h.get? a=some {cls:= .type "range",data:= .fields #[.int lo t,.int hi u,.int 1 v]}
 | .frz o u=>h.get? a=some o/\bQ H h a u
 | .tbl ps=>h.get? a=some {cls:= .none,data:= .fields ps}
 | .met f x=>h.get? a=some (PySem.W.methodObj (.ref f) (.ref x))
 | .ext e=>e h/\(∃o,h.get? a=some o)/\∀g i,e g->(∀o,g.get? a=some o->i.get? a=some o)->e i
def HOk(H:Hp)(h:Heap):Prop:=∀a o,H a=some o->bQ P w H h a o
end
section
variable{P:Program}{w:World}{H H':Hp}{h h':Heap}{a:Addr}{o:HO}
theorem bQ.lt(x:bQ P w H h a o):a<h.objs.size:=by
 cases o with
 | lst xs=>obtain⟨_,_,_,_,e⟩:=x;exact Zt e
 | tup xs=>obtain⟨_,_,_,p⟩:=x;exact p.lt
 | dK b=>obtain⟨_,_,_,_,o,_,_,e,_⟩:=x;exact Zt e
 | dT b=>obtain⟨_,_,_,_,o,_,_,e,_⟩:=x;exact Zt e
 | set S n=>obtain⟨o,_,_,_,e,_⟩:=x;exact Zt e
 | ins C c fs=>obtain⟨_,_,_,e,_⟩:=x;exact Zt e
 | own y=>obtain⟨_,e⟩:=x;exact Zt e
 | xd fs=>obtain⟨_,⟨_,_,_,e,_⟩,_⟩:=x;exact Zt e
 | rng lo hi=>obtain⟨_,_,_,e⟩:=x;exact Zt e
 | frz d u=>obtain⟨e,_⟩:=x;exact Zt e
 | tbl ps=>exact Zt (x)
 | met f y=>exact Zt (x)
 | ext g=>obtain⟨_,⟨_,e⟩,_⟩:=x;exact Zt e
theorem Paired.mapP{F G:c->d->Prop}:∀{l₁:List c} {l₂:List d},Paired F l₁ l₂->(∀a b,F a b->G a b)->Paired G l₁ l₂
 | _,_,.nil,_=> .nil
 | _,_,.cons r t,f=> .cons (f _ _ r) (Paired.mapP t f)
theorem bQ.stay(x:bQ P w H h a o)(k:∀b u,(b=a\/H b=some (.own a))->h.get? b=some u->h'.get? b=some u)
 (s:∀b,H b=some (.own a)->H' b=some (.own a)) (A:∀b xs,H b=some (.tup xs)->H' b=some (.tup xs)):bQ P w H' h' a o:=by
 induction o with
 | lst xs=>obtain⟨z,its,n,r,e⟩:=x;exact%[z,its,n,r|k _ _ (.inl rfl) e]
 | tup xs=>obtain⟨z,its,r,g,e,c⟩:=x;exact%[z,its,r,g,k _ _ (.inl rfl) e|c]
 | dK j=>obtain⟨z,y,vs,r,g,es,i,e,c⟩:=x;exact%[z,y,vs,r,g,es,i,k _ _ (.inl rfl) e|c]
 | dT j=>
   obtain⟨z,y,xs,r,g,es,i,e,c⟩:=x;exact%[z,y,xs,Paired.mapP r λp q z=>%[z.1,A _ _ z.2.1|z.2.2],g,es,i,k _ _ (.inl rfl) e|c]
 | set S n=>obtain⟨g,es,i,t,e,c⟩:=x;exact%[g,es,i,t,k _ _ (.inl rfl) e|c]
 | ins C I fs=>
   obtain⟨d,z,B,e,l,⟨m,es,i,E,c⟩,r⟩:=x;exact%[s _ d,z,B,k _ _ (.inl rfl) e,l,%[m,es,i,k _ _ (.inr d) E|c]|r]
 | own y=>obtain⟨g,e⟩:=x;exact%[g|k _ _ (.inl rfl) e]
 | xd fs=>obtain⟨l,⟨m,es,i,e,c⟩,r⟩:=x;exact%[l,%[m,es,i,k _ _ (.inl rfl) e|c]|r]
 | rng lo hi=>obtain⟨t,u,v,e⟩:=x;exact%[t,u,v|k _ _ (.inl rfl) e]
 | frz g u G=>obtain⟨e,q⟩:=x;exact%[k _ _ (.inl rfl) e|G q]
 | tbl ps=>
   exact k a _ (.inl rfl) x
 | met f y=>
   exact k a _ (.inl rfl) x
 | ext J=>obtain⟨p,⟨o,e⟩,st⟩:=x;exact%[st _ _ p λo q=>k _ _ (.inl rfl) q,%[o|k _ _ (.inl rfl) e]|st]
theorem HOk.lt(x:HOk P w H h)(e:H a=some o):a<h.objs.size:=(x a o e).lt
theorem HOk.fresh(x:HOk P w H h)(e:h.objs.size<=a):H a=none:=by
 cases q:H a with
 | none=>rfl
 | some u=>exact absurd (Zf (x.lt q) e) (X5 _)
theorem HOk.kept(x:HOk P w H h)(k:∀b u,h.get? b=some u->h'.get? b=some u):HOk P w H h':=λa o e=>
 (x a o e).stay (λb u _ q=>k b u q) (λ_ q=>q) λ_ _ q=>q
theorem HOk.laid(x:HOk P w H h)(k:∀b u,h.get? b=some u->h'.get? b=some u)(g:h.objs.size<=a)(new:bQ P w (upd H a o) h' a o):HOk P w (upd H a o) h':=λb u e=>by
 have d:=x.fresh g;by_cases f:b=a
 .subst f;rw[aa]at e;grind
 .rw[am f]at e;exact(x b u e).stay (λc v _ q=>k c v q) (λc q=>(am (ar q d))▸q) λc xs q=>(am (ar q d))▸q
end
def Rd(H:Hp)(a:Addr)(u:HO):Prop:=H a=some u\/∃o,H a=some (.frz o u)
theorem Rd.ok{P:Program}{w:World}{H:Hp}{h:Heap}{a:Addr}{u:HO}(r:Rd H a u)(x:HOk P w H h):bQ P w H h a u:=by
 rcases r with r|⟨o,r⟩
 .exact x a u r
 .obtain⟨_,q⟩:=x a _ r;exact q
def Mut:Option HO->Prop
 | some (.lst _)=>True
 | some (.dK _)=>True
 | some (.dT _)=>True
 | some (.set _ _)=>True
 | some (.ins _ _ _)=>True
 | some (.ext _)=>True
 | _=>False
section
variable{P:Program}{w:World}{H:Hp}{h h':Heap}{x e:Addr}{o':HO}
theorem HOk.write(ok:HOk P w H h)(g:Mut (H x))(m:e=x\/H e=some (.own x))(k:∀b u,b≠e->h.get? b=some u->h'.get? b=some u)(i:∃u,h'.get? e=some u)
 (new:bQ P w (upd H x o') h' x o'):HOk P w (upd H x o') h':=λb u q=>by
 have d:∀c y,H c=some (.own y)->c≠x:=λc y r z=>by subst z;rw[r]at g;exact g
 have f:∀c xs,H c=some (.tup xs)->c≠x:=λc xs r z=>by subst z;rw[r]at g;exact g
 by_cases j:b=x
 .subst j;rw[aa]at q;grind
 .rw[am j]at q;by_cases a:b=e
  .have l:H b=some (.own x):=by
    rcases m with z|z
    .exact absurd (a.trans z) j
    .exact a▸z
   rw[q]at l;cases l;obtain⟨v,n⟩:=i;exact%[v|a▸n]
  .refine(ok b u q).stay (λc v o r=>k c v ?_ r) (λc r=>(am (d c b r))▸r) λc xs r=>(am (f c xs r))▸r
   grind
end
structure Un (fs ex:List Addr) (H H':Hp) (h h':Heap):Prop where
 keep:∀b o,h.get? b=some o->H b=none->b∉fs->b∉ex->h'.get? b=some o
 slot:∀b o,h.get? b=some o->H b=none->b∈fs->b∉ex->∃sl,h'.get? b=some {o with slots:=sl}
 free:∀b o,h.get? b=some o->H b=none->b∉ex->H' b=none
 there:∀b o,h.get? b=some o->b∉ex->∃o',h'.get? b=some o'
 tups:∀b xs,H b=some (.tup xs)->H' b=some (.tup xs)
 frzs:∀b o u,H b=some (.frz o u)->H' b=some (.frz o u)
 tbls:∀b ps,H b=some (.tbl ps)->∃more,H' b=some (.tbl (ps++more))
section
variable{fs fs' ex ex':List Addr}{H H1 H2:Hp}{h h1 h2 h':Heap}{a x e:Addr}{o:HO}
theorem Un.any(u:Un fs ex H H1 h h1)(q:h.get? b=some c)(n:H b=none)(d:b∉ex):∃g,h1.get? b=some {c with slots:=g}:=by
 by_cases f:b∈fs
 .exact u.slot b c q n f d
 .exact%[c.slots|u.keep b c q n f d]
theorem Un.trans(a:Un fs ex H H1 h h1)(b:Un fs ex H1 H2 h1 h2):Un fs ex H H2 h h2 where
 keep:=λc ob q n hc hx=>b.keep c ob (a.keep c ob q n hc hx) (a.free c ob q n hx) hc hx
 slot:=λc ob q n hc hx=>by
  obtain⟨sl,e1⟩:=a.slot c ob q n hc hx;obtain⟨sl',e2⟩:=b.slot c _ e1 (a.free c ob q n hx) hc hx;exact%[sl'|e2]
 free:=λc ob q n hx=>by
  obtain⟨o',e1⟩:=a.there c ob q hx;exact b.free c o' e1 (a.free c ob q n hx) hx
 there:=λc ob q hx=>by
  obtain⟨o',e1⟩:=a.there c ob q hx;exact b.there c o' e1 hx
 tups:=λc xs q=>b.tups c xs (a.tups c xs q)
 frzs:=λc ob xs q=>b.frzs c ob xs (a.frzs c ob xs q)
 tbls:=λc ps q=>by
  obtain⟨m1,e1⟩:=a.tbls c ps q;obtain⟨m2,e2⟩:=b.tbls c _ e1;exact%[m1++m2|by rw[e2,Array.append_assoc]]
theorem Un.kept(k:∀b u,h.get? b=some u->h'.get? b=some u):Un fs ex H H h h':=
 %[λb c q _ _ _=>k b c q,λb c q _ _ _=>%[c.slots|k b c q],λ_ _ _ n _=>n,λb c q _=>%[c|k b c q],λ_ _ q=>q,λ_ _ _ q=>q|λ_ ps q=>%[#[]|by rw[q];simp]]
theorem Un.refl:Un fs ex H H h h:=Un.kept λ_ _ q=>q
theorem Un.laid(k:∀b u,h.get? b=some u->h'.get? b=some u)(hp:h.objs.size<=a)(hn:H a=none):Un fs ex H (upd H a o) h h' where
 keep:=λb u q _ _ _=>k b u q
 slot:=λb u q _ _ _=>%[u.slots|k b u q]
 free:=λb u q n _=>(am (Zr (Zf (Zt q) hp)))▸n
 there:=λb u q _=>%[u|k b u q]
 tups:=λb xs q=>(am (ar q hn))▸q
 frzs:=λb u xs q=>(am (ar q hn))▸q
 tbls:=λb ps q=>%[#[]|by rw[am (ar q hn),q];simp]
theorem Un.write(f:Mut (H x))(l:e=x\/H e=some (.own x))(k:∀b u,b≠e->h.get? b=some u->h'.get? b=some u)(i:∃u,h'.get? e=some u):Un fs ex H (upd H x o) h h':=by
 have j:∀b,H b=none->b≠x:=λb n z=>by subst z;rw[n]at f;exact f
 have g:∀b,H b=none->b≠e:=λb n z=>by
  simp_all
 have c:∀b u,H b=some u-> ¬ Mut (some u)->b≠x:=λb u q m z=>by simp_all
 refine%[λb u q n _ _=>k b u (g b n) q,λb u q n _ _=>%[u.slots|k b u (g b n) q],λb u q n _=>(am (j b n))▸n,λb u q _=>?_,
  λb xs q=>(am (c b _ q λz=>z))▸q,λb u xs q=>(am (c b _ q λz=>z))▸q|λb ps q=>%[#[]|by rw[am (c b _ q λz=>z),q];simp]]
 by_cases d:b=e
 .simp_all
 .exact%[u|k b u d q]
end
noncomputable def trk(h:Heap)(H:Hp):List Addr:=(List.range h.objs.size).filter λa=>(H a).isSome
noncomputable def vY(h:Heap)(H:Hp):Heap:=PySem.W.hideAll h (trk h H)
theorem vZ(h:Heap)(H:Hp):(vY h H).objs.size=h.objs.size:=PySem.W.hideAll_size _ _
theorem x9(e:h.get? b=some o)(n:H b=none):(vY h H).get? b=some o:=
 PySem.W.hideAll_get _ e λa=>by
  have q:=(List.mem_filter.mp a).2;rw[n]at q;simp at q
theorem AO(e:(vY h H).get? b=some o):h.get? b=some o/\H b=none:=by
 have a:=PySem.W.of_hideAll _ e;refine%[a|?_];cases q:H b with
 | none=>rfl
 | some x=>
   have z:(vY h H).get? b=none:=PySem.W.hideAll_none _ (List.mem_filter.mpr %[mem_range.mpr (Zt a)|by simp[q]])
   grind
noncomputable def AQ(g h:Heap)(L:Addr):ZE:=(List.range h.objs.size).filterMap λa=>if a=L\/(g.get? a).isSome=true then none else(h.get? a).map λo=>(a,o)
noncomputable def rest(g h:Heap)(L d:Addr):ZE:=(AQ g h L).filter λp=>decide (p.1≠d)
structure Mod (K:ZA) (mg:ZC) (base:Heap):Prop where
 kin:K.In base
 glob:base.Ns mainGlobals mg
 blt:∃mb,base.Ns builtinsNs mb/\∀x:Str,x≠"__name__"->mb x=bootBuiltins x
 nolimit:base.NoLimit
structure Cx where
 prog:Program
 w:World
 K:ZA
 mg:Str->Option Value
 base:Heap
 A:Around
 N:ZB
 s₀:Shared
 H₀:Hp
 env:Env
 outer:List Env
 stack:List Env
 ex:List Addr
 fn:Str->Bool
 calm:Bool
 pn:ZE
 xe:Value->Shared->Prop
noncomputable def frs(l:List Env):List Addr:=l.filterMap (·.frame)
noncomputable abbrev Cx.fs(X:Cx):List Addr:=frs X.outer
def Vis(a:Scope)(x:Str):Prop:=a.names.lookup x=some .local\/a.names.lookup x=some .cell\/a.names.lookup x=some .free
def Loc(a:Scope)(x:Str):Prop:=a.names.lookup x=some .local\/a.names.lookup x=some .cell
def Look(env:Env)(h:Heap)(m:ZC)(x:Str)(u:Value):Prop:=
 (env.kindOf x=some .local/\m x=some u)\/((env.kindOf x=some .cell\/env.kindOf x=some .free)/\∃c,env.cells.lookup x=some c/\h.IsCell c (some u))
structure Cx.Ok (X:Cx):Prop where
 mod:Mod X.K X.mg X.base
 kind:X.env.scope.kind= .function
 glob:X.env.globals=mainGlobals
 blt:X.env.builtins=builtinsNs
 above:X.s₀.heap.objs.size<=X.env.locals
 inj:∀x y c,X.env.cells.lookup x=some c->X.env.cells.lookup y=some c->x=y
 has:∀x,(X.env.kindOf x=some .cell\/X.env.kindOf x=some .free)->∃c,X.env.cells.lookup x=some c
 cab:∀x c,X.fn x=true->X.env.cells.lookup x=some c->X.s₀.heap.objs.size<=c
 hd:X.calm=true->X.A.handled=none
 frames:X.A.frames=some X.stack
 stk:X.stack=X.outer\/(X.stack=X.env::X.outer/\X.env.frame=some X.env.locals)
 exf:∀b∈X.ex,b≠X.env.locals/\∀x c,X.env.cells.lookup x=some c->c≠b
 bs:∀b o,X.base.get? b=some o->X.s₀.heap.get? b=some o/\X.H₀ b=none
 bsz:X.base.objs.size<=X.s₀.heap.objs.size
 noex:∀b o,X.base.get? b=some o->b∉X.ex
 exfs:∀b∈X.ex,b∉X.fs
 funs:X.s₀.heap.FunFrames X.base X.outer
 frf:∀b∈X.fs,X.H₀ b=none
structure Inv (X:Cx) (pins:List _) (σ:List _) (H:Hp) (s:Shared):Prop where
 ok:X.Ok
 os:s.os=X.s₀.os
 bare:AllBare s.gens
 base:Un X.fs X.ex X.H₀ H X.s₀.heap s.heap
 loc:∃m,s.heap.Ns X.env.locals m/\∀(i:Nat) x v,X.N[i]? =some x->σ[i]? =some (some v)->Vis X.env.scope x->∃u,aN v u/\Look X.env s.heap m x u
 cell:∀x c,X.env.cells.lookup x=some c->∃v,s.heap.IsCell c v
 free:H X.env.locals=none
 freeC:∀x c,X.env.cells.lookup x=some c->H c=none
 pin:∀p∈X.pn++pins,s.heap.get? p.1=some p.2/\H p.1=none/\p.1≠X.env.locals/\p.1∉X.fs/\∀v,p.2.data≠ .cell v
 hok:HOk X.prog X.w H s.heap
 len:σ.length=X.N.length
section
variable{X:Cx}{pins:ZE}{σ:List (Option V)}{H H':Hp}{s:Shared}{h':Heap}
theorem Cx.Ok.nofr(ok:X.Ok)(e:X.base.get? b=some o):b∉X.fs:=λa=>by
 have:=(ok.funs.mem a).1
 grind
theorem Inv.bs(I:Inv X pins σ H s):∀b o,X.base.get? b=some o->s.heap.get? b=some o/\H b=none:=λb o e=>
 %[I.base.keep b o (I.ok.bs b o e).1 (I.ok.bs b o e).2 (I.ok.nofr e) (I.ok.noex b o e)|I.base.free b o (I.ok.bs b o e).1 (I.ok.bs b o e).2 (I.ok.noex b o e)]
theorem Inv.bk(I:Inv X pins σ H s):∀b o,X.base.get? b=some o->s.heap.get? b=some o:=λb o e=>(I.bs b o e).1
theorem Inv.mod(I:Inv X pins σ H s):Mod X.K X.mg X.base:=I.ok.mod
theorem Inv.kIn(I:Inv X pins σ H s):X.K.In s.heap:=I.ok.mod.kin.keeps I.bk
theorem Inv.lt(I:Inv X pins σ H s):X.env.locals<⇑s:=let⟨_,a,_⟩:=I.loc;a.lt
theorem Inv.sz(I:Inv X pins σ H s):X.s₀.heap.objs.size<=⇑s:=Y9 I.ok.above (le_of_lt I.lt)
theorem Inv.nofs(I:Inv X pins σ H s)(h:⇑s<=a):a∉X.fs:=λb=>by
 obtain⟨_,o,c,_⟩:=I.ok.funs.mem b;exact absurd (Zf (Zt c) (Y9 I.sz h)) (X5 _)
theorem Inv.cne(I:Inv X pins σ H s):∀x c,X.env.cells.lookup x=some c->c≠X.env.locals:=λx c e z=>by
 obtain⟨v,o,d,f⟩:=I.cell x c e;obtain⟨m,⟨g,es,h,a,b,_⟩,_⟩:=I.loc
 grind
theorem Inv.funs(I:Inv X pins σ H s):s.heap.FunFrames X.base X.outer:=by
 have all:∀l,(∀b∈frs l,b∈X.fs)->X.s₀.heap.FunFrames X.base l->s.heap.FunFrames X.base l:=by
  intro l
  induction l with
  | nil=>intro _ _;trivial
  | cons env r g=>
    intro f h;obtain⟨i,⟨L,o,a,j,m,n⟩,p⟩:=h;have c:=f L (by unfold frs;rw[Zy,a];exact Zl);obtain⟨q,e⟩:=I.base.slot L o m (I.ok.frf L c) c λz=>I.ok.exfs L z c
    exact%[i,%[L,_,a,j,e|n]|g (λb d=>f b (by unfold frs;rw[Zy,a];exact Zj _ d)) p]
 exact all X.outer (λ_ d=>d) I.ok.funs
theorem Inv.stack(I:Inv X pins σ H s):s.heap.FunFrames X.base X.stack:=by
 rcases I.ok.stk with e|⟨e,a⟩
 .exact e▸I.funs
 .rw[e];obtain⟨m,b,_⟩:=I.loc;exact .cons (by rw[I.ok.kind];decide) a b (Heap.get?_none_of_le (Y9 I.ok.bsz I.ok.above)) I.funs
theorem Inv.stkSub(I:Inv X pins σ H s):∀b∈frs X.stack,b∈X.env.locals::X.fs:=λb a=>by
 rcases I.ok.stk with e|⟨e,c⟩
 .rw[e]at a;exact Zj _ a
 .rw[e]at a;unfold frs at a;rw[Zy,c]at a;exact a
theorem Inv.stkFree(I:Inv X pins σ H s):∀b∈frs X.stack,H b=none:=λb a=>by
 rcases mem_cons.mp (I.stkSub b a)with e|a
 .exact e▸I.free
 .obtain⟨_,o,c,_⟩:=I.ok.funs.mem a;exact I.base.free b o c (I.ok.frf b a) λz=>I.ok.exfs b z a
theorem Inv.step{d':Drawn}{ch:List Addr}(I:Inv X pins σ H s)
 (f:∀b∈ch,(b∈X.ex\/X.s₀.heap.objs.size<=b)/\b≠X.env.locals/\(∀x c,X.env.cells.lookup x=some c->c≠b)/\∀p∈X.pn++pins,p.1≠b)
 (keep:∀b o,b≠X.env.locals->b∉X.fs->b∉ch->s.heap.get? b=some o->H b=none->h'.get? b=some o)
 (slot:∀b o,b≠X.env.locals->b∈X.fs->b∉ch->s.heap.get? b=some o->H b=none->∃E,h'.get? b=some {o with slots:=E}) (free:∀b o,b∉ch->s.heap.get? b=some o->H b=none->H' b=none)
 (there:∀b o,b∉ch->s.heap.get? b=some o->∃A,h'.get? b=some A)
 (tups:∀b xs,H b=some (.tup xs)->H' b=some (.tup xs)) (frzs:∀b o u,H b=some (.frz o u)->H' b=some (.frz o u)) (tbls:∀b ps,H b=some (.tbl ps)->∃more,H' b=some (.tbl (ps++more)))
 (T:∀m,s.heap.Ns X.env.locals m->h'.Ns X.env.locals m) (G:HOk X.prog X.w H' h') (U:AllBare g'):
 Inv X pins σ H' {s with heap:=h',gens:=g',drawn:=d',toks:=t'}:=by
 have B:∀b o,X.s₀.heap.get? b=some o->b≠X.env.locals:=λb o e=>Zr (Zf (Zt e) I.ok.above)
 have j:∀b o,X.s₀.heap.get? b=some o->b∉X.ex->b∉ch:=λb o e a w=>by
  rcases(f b w).1 with z|z
  .exact a z
  .exact absurd (Zf (Zt e) z) (X5 _)
 have g:∀x c,X.env.cells.lookup x=some c->∀v,s.heap.IsCell c v->h'.IsCell c v:=λx c e v ⟨o,y,J⟩=>by
  have h:=λz=>(f c z).2.2.1 x c e rfl
  by_cases M:c∈X.fs
  .obtain⟨E,q⟩:=slot c o (I.cne x c e) M h y (I.freeC x c e);exact%[_,q|J]
  .exact%[o,keep c o (I.cne x c e) M h y (I.freeC x c e)|J]
 refine%[I.ok,I.os,U,%[λb o e n w a=>?_,λb o e n w a=>?_,λb o e n a=>?_,λb o e a=>?_,λb xs e=>tups b xs (I.base.tups b xs e),λb o xs e=>frzs b o xs (I.base.frzs b o xs e)|λb ps e=>?_],?_,λx c e=>?_,?_,λx c e=>?_,λp N=>?_,G|I.len]
 .exact keep b o (B b o e) w (j b o e a) (I.base.keep b o e n w a) (I.base.free b o e n a)
 .obtain⟨E,t⟩:=I.base.slot b o e n w a;obtain⟨L,C⟩:=slot b _ (B b o e) w (j b o e a) t (I.base.free b o e n a);exact%[L|C]
 .obtain⟨A,t⟩:=I.base.there b o e a;exact free b A (j b o e a) t (I.base.free b o e n a)
 .obtain⟨A,t⟩:=I.base.there b o e a;exact there b A (j b o e a) t
 .obtain⟨Y,t⟩:=I.base.tbls b ps e;obtain⟨m2,C⟩:=tbls b _ t;exact%[Y++m2|by rw[C,Array.append_assoc]]
 .obtain⟨m,hn,hl⟩:=I.loc;refine%[m,T m hn|λi x v t C e3=>?_];obtain⟨u,r,l⟩:=hl i x v t C e3;refine%[u,r|?_];rcases l with l|⟨k,c,e,z⟩
  .exact .inl l
  .exact .inr %[k,c,e|g x c e _ z]
 .obtain⟨v,z⟩:=I.cell x c e;exact%[v|g x c e v z]
 .obtain⟨m,⟨o,_,_,y,_⟩,_⟩:=I.loc;exact free _ o (λz=>(f _ z).2.1 rfl) y I.free
 .obtain⟨v,o,y,J⟩:=I.cell x c e;exact free c o (λz=>(f c z).2.2.1 x c e rfl) y (I.freeC x c e)
 .obtain⟨e,n,O,Q,d⟩:=I.pin p N;have h:=λz=>(f p.1 z).2.2.2 p N rfl
  exact%[keep p.1 p.2 O Q h e n,free p.1 p.2 h e n,O,Q|d]
theorem Inv.un{t':Nat}(I:Inv X pins σ H s)(u:Un X.fs [] H H' s.heap h')(c:HOk X.prog X.w H' h'):Inv X pins σ H' {s with heap:=h',toks:=t'}:=by
 obtain⟨m,⟨o,es,p,h,r⟩,_⟩:=id I.loc;obtain⟨q,i⟩:=u.any h I.free ∅;exact I.step (ch:=[]) (λ_ z=>nomatch z) (λb o _ d _ e n=>u.keep b o e n d ∅) (λb o _ d _ e n=>u.slot b o e n d ∅) (λb o _ e n=>u.free b o e n ∅) (λb o _ e=>u.there b o e ∅) u.tups u.frzs u.tbls (λt j=>by
  obtain⟨v,f,g,a,l⟩:=j;rw[h]at a;cases a;exact%[_,f,g,i|l]) c I.bare
theorem Inv.call{d':Drawn}{ch:List Addr}(I:Inv X pins σ H s)(u:Un (frs X.stack) ch H H' s.heap h')(g:HOk X.prog X.w H' h')(q:AllBare g')
 (d:∀b∈ch,(b∈X.ex\/X.s₀.heap.objs.size<=b)/\b≠X.env.locals/\(∀x c,X.env.cells.lookup x=some c->c≠b)/\∀p∈X.pn++pins,p.1≠b):
 Inv X pins σ H' {s with heap:=h',gens:=g',drawn:=d',toks:=t'}:=by
 obtain⟨m,⟨o,es,y,l,r⟩,_⟩:=id I.loc;obtain⟨A,h⟩:=u.any l I.free λz=>(d _ z).2.1 rfl
 exact I.step d (λb o h t a e n=>u.keep b o e n (λz=>(mem_cons.mp (I.stkSub b z)).elim h t) a) (λb o _ _ a e n=>u.any e n a) (λb o a e n=>u.free b o e n a) (λb o a e=>u.there b o e a) u.tups u.frzs u.tbls (λB v=>by
  obtain⟨C,i,j,f,w⟩:=v;rw[l]at f;cases f;exact%[_,i,j,h|w]) g q
theorem Inv.turned{a:Addr}(I:Inv X pins σ H s)(k:∀b o,b≠a->s.heap.get? b=some o->h'.get? b=some o)(A:H a=none)(g:a≠X.env.locals)
 (h:a∈X.ex\/X.s₀.heap.objs.size<=a) (i:∀x c,X.env.cells.lookup x=some c->c≠a) (j:∀p∈X.pn++pins,p.1≠a):Inv X pins σ H {s with heap:=h',toks:=t'}:=by
 have f:∀b u,H b=some u->b≠a:=λb u e z=>by lia
 refine I.step (ch:=[a]) (λb l=>?_) (λb o _ _ d e _=>k b o (λz=>d (by simp[z])) e) (λb o _ _ d e _=>%[o.slots|k b o (λz=>d (by simp[z])) e]) (λ_ _ _ _ n=>n)
  (λb o d e=>%[o|k b o (λz=>d (by simp[z])) e]) (λ_ _ e=>e) (λ_ _ _ e=>e) (λb ps e=>%[#[]|by rw[e];simp]) (λm t=>?_) (λb u e=>?_) I.bare
 .have e:=by simpa using l
  subst e;exact%[h,g,i|j]
 .obtain⟨o,es,w,y,r⟩:=t;exact%[o,es,w,k _ o (Ne.symm g) y|r]
 .refine(I.hok b u e).stay (λc v d q=>k c v ?_ q) (λ_ q=>q) λ_ _ q=>q
  rcases d with z|z
  .exact z▸f b u e
  .exact f c _ z
theorem Inv.tok(I:Inv X pins σ H s)(t:Nat):Inv X pins σ H {s with toks:=t}:=I.un Un.refl I.hok
theorem Inv.kept(I:Inv X pins σ H s)(k:∀b u,s.heap.get? b=some u->h'.get? b=some u):Inv X pins σ H {s with heap:=h',toks:=t'}:=I.un (Un.kept k) (I.hok.kept k)
theorem Inv.laid{a:Addr}{o:HO}{t':Nat}(I:Inv X pins σ H s)(k:∀b u,s.heap.get? b=some u->h'.get? b=some u)(c:⇑s<=a)(new:bQ X.prog X.w (upd H a o) h' a o):
 Inv X pins σ (upd H a o) {s with heap:=h',toks:=t'}:=I.un (Un.laid k c (I.hok.fresh c)) (I.hok.laid k c new)
theorem Inv.write(I:Inv X pins σ H s)(c:Mut (H x))(d:e=x\/H e=some (.own x))(k:∀b u,b≠e->s.heap.get? b=some u->h'.get? b=some u)(a:∃u,h'.get? e=some u)
 (new:bQ X.prog X.w (upd H x o) h' x o):Inv X pins σ (upd H x o) {s with heap:=h',toks:=t'}:=I.un (Un.write c d k a) (I.hok.write c d k a new)
theorem Inv.pins_of(I:Inv X pins σ H s)(h:∀p∈a,s.heap.get? p.1=some p.2/\H p.1=none/\p.1≠X.env.locals/\p.1∉X.fs/\∀v,p.2.data≠ .cell v):Inv X a σ H s:=
 %[I.ok,I.os,I.bare,I.base,I.loc,I.cell,I.free,I.freeC,λp b=>(X8 b).elim (λz=>I.pin p (Ym _ z)) (h p),I.hok|I.len]
theorem cv{N:ZB}(c:N.Nodup){i j:Nat}{x:Str}(a:N[i]? =some x)(b:N[j]? =some x):i=j:=by
 obtain⟨f,d⟩:=X7 a;obtain⟨g,e⟩:=X7 b;exact(List.getElem_inj c).mp (d.trans e.symm)
theorem v5{A:Around}{E:ZD}{i:Nat}{x:Str}{v:V}{u:Value}{Q:Unit->Shared->Prop}(I:Inv X pins σ H s)(hN:X.N.Nodup)(hi:X.N[i]? =some x)(w:Loc X.env.scope x)(r:aN v u)
 (h:∀s',Inv X pins (σ.set i (some v)) H s'->(∃a,SameBut a s.heap s'.heap/\(a=X.env.locals\/X.env.cells.lookup x=some a))->Q () s') (hf:X.fn x=true\/X.env.scope.names.lookup x=some .local):wpAny M A (storeName X.env x u) Q E s:=by
 obtain⟨m,hn,hl⟩:=id I.loc;have G:i<σ.length:=I.len▸(X7 hi).1;have cne:=I.cne;have g:∀{a:Addr} {h':Heap},(∃o,s.heap.get? a=some o/\H a=none)->SameBut a s.heap h'->HOk X.prog X.w H h':=λ{a h'} ha f b ob e=>by
  obtain⟨_,_,B⟩:=ha;refine(I.hok b ob e).stay (λc w' t q=>(f.2 c ?_).trans q) (λ_ q=>q) λ_ _ q=>q
  rintro rfl;rcases t with rfl|t
  .rw[B]at e;cases e
  .rw[B]at t;cases t
 rcases w with J|J
 .refine wpAny_storeName_local J hn (λh' ae f=>?_) (by rw[I.ok.kind];rfl);obtain⟨oL,_,_,ag,_⟩:=id hn;refine h _ %[I.ok,I.os,I.bare,%[λb o e n L w=>?_,λb o e n L w=>?_,I.base.free,λb o e w=>?_,I.base.tups,I.base.frzs|I.base.tbls],%[_,ae|λj y v' l C e3=>?_],λy c e=>?_,I.free,I.freeC,λp hp=>?_,g %[oL,ag|I.free] f|by simpa using I.len] %[_,f|.inl rfl]
  .exact(f.2 b (Zr (Zf (Zt e) I.ok.above))).trans (I.base.keep b o e n L w)
  .obtain⟨sl,l⟩:=I.base.slot b o e n L w;exact%[sl|(f.2 b (Zr (Zf (Zt e) I.ok.above))).trans l]
  .obtain⟨o',l⟩:=I.base.there b o e w;exact%[o'|(f.2 b (Zr (Zf (Zt e) I.ok.above))).trans l]
  .by_cases N:j=i
   .subst N;rw[hi]at l;cases l;rw[List.getElem?_set_self G]at C;cases C;exact%[u,r|.inl %[J|by simp]]
   .rw[List.getElem?_set_ne (Ne.symm N)]at C;obtain⟨u',r',q⟩:=hl j y v' l C e3;refine%[u',r'|?_];rcases q with⟨k,e⟩|⟨k,c,e,z⟩
    .refine .inl %[k|?_];have:y≠x:=λe=>N (cv hN l (e▸hi))
     simp[this,e]
    .exact .inr %[k,c,e|z.sameBut f (cne y c e)]
  .obtain⟨w',z⟩:=I.cell y c e;exact%[w'|z.sameBut f (cne y c e)]
  .obtain⟨e,n,ne,nf,d⟩:=I.pin p hp;exact%[(f.2 p.1 ne).trans e,n,ne,nf|d]
 .have O:X.fn x=true:=by
   rcases hf with z|z
   .exact z
   .rw[z]at J;cases J
  obtain⟨c,t⟩:=I.ok.has x (.inl J);obtain⟨w',z⟩:=I.cell x c t;refine wpAny_storeName_cell I.ok.kind J t z (λh' T f=>?_);obtain⟨oc,U,Y⟩:=id z;refine h _ %[I.ok,I.os,I.bare,%[λb o e n L w=>?_,λb o e n L w=>?_,I.base.free,λb o e w=>?_,I.base.tups,I.base.frzs|I.base.tbls],%[m,hn.sameBut f (Ne.symm (cne x c t))|λj y v' l C e3=>?_],λy c' e=>?_,I.free,I.freeC,λp hp=>?_,g %[oc,U|I.freeC x c t] f|by simpa using I.len] %[c,f|.inr t]
  .exact(f.2 b (Zr (Zf (Zt e) (I.ok.cab x c O t)))).trans (I.base.keep b o e n L w)
  .obtain⟨sl,l⟩:=I.base.slot b o e n L w;exact%[sl|(f.2 b (Zr (Zf (Zt e) (I.ok.cab x c O t)))).trans l]
  .obtain⟨o',l⟩:=I.base.there b o e w;exact%[o'|(f.2 b (Zr (Zf (Zt e) (I.ok.cab x c O t)))).trans l]
  .by_cases N:j=i
   .subst N;rw[hi]at l;cases l;rw[List.getElem?_set_self G]at C;cases C;exact%[u,r|.inr %[.inl J,c,t|T]]
   .rw[List.getElem?_set_ne (Ne.symm N)]at C;obtain⟨u',r',q⟩:=hl j y v' l C e3;refine%[u',r'|?_];rcases q with q|⟨k,c',e,z'⟩
    .exact .inl q
    .refine .inr %[k,c',e|z'.sameBut f ?_];rintro rfl;exact N (cv hN l (I.ok.inj _ _ _ e t▸hi))
  .by_cases ab:c'=c
   .subst ab;exact%[_|T]
   .obtain⟨w2,z2⟩:=I.cell y c' e;exact%[w2|z2.sameBut f ab]
  .obtain⟨e,n,ne,nf,d⟩:=I.pin p hp;refine%[(f.2 p.1 ?_).trans e,n,ne,nf|d];intro q;rw[q,U]at e;exact d w' ((Z9 e)▸Y)
theorem mv(I:Inv X pins σ H s)(a:X.N.Nodup)(hi:X.N[i]? =some x)(b:Loc X.env.scope x)(r:aN v u)
 (h:∀s',Inv X pins (σ.set i (some v)) H s'->Q () s') (c:X.fn x=true\/X.env.scope.names.lookup x=some .local):wpAny M A (storeName X.env x u) Q E s:=
 v5 I a hi b r (λs' d _=>h s' d) c
theorem Inv.call'(I:Inv X pins σ H s)(e:s'.os=s.os)(u:Un (frs X.stack) ch H H' s.heap s'.heap)(a:HOk X.prog X.w H' s'.heap)(f:AllBare s'.gens)
 (d:∀b∈ch,(b∈X.ex\/X.s₀.heap.objs.size<=b)/\b≠X.env.locals/\(∀x c,X.env.cells.lookup x=some c->c≠b)/\∀p∈X.pn++pins,p.1≠b):Inv X pins σ H' s':=by
 obtain⟨h',g',d',t',g⟩:=s';subst e;exact I.call u a f d
end
noncomputable abbrev XK:=Value->ZH->Hp->Prop
noncomputable abbrev St:=List (Option V)
noncomputable abbrev VK:=V->Hp->Prop
noncomputable abbrev TE:=St->Hp->VK->Prop
noncomputable abbrev TT:=St->Hp->(Bool->Hp->Prop)->Prop
noncomputable abbrev TA:=St->Hp->(List V->Hp->Prop)->Prop
structure kj where
 nx:St->Hp->Prop
 rt:VK
 bk:St->Hp->Prop:=λ_ _=>False
 ct:St->Hp->Prop:=λ_ _=>False
noncomputable abbrev TS:=kj->St->Hp->Prop
def EP(X:Cx)(pins:ZE)(b:St)(Q:VK)(u:Value)(s':Shared):Prop:=∃v a,Inv X pins b a s'/\aN v u/\Q v a
def TP(X:Cx)(pins:ZE)(c:St)(Q:Bool->Hp->Prop)(b:Bool)(s':Shared):Prop:=∃a,Inv X pins c a s'/\Q b a
def AP(X:Cx)(pins:ZE)(b:St)(Q:List V->Hp->Prop)(us:ZF)(s':Shared):Prop:=∃vs a,Inv X pins b a s'/\aH vs us/\Q vs a
def SP(X:Cx)(pins:ZE)(D:kj)(f:Flow)(s':Shared):Prop:=
 match f with
 | .next=>∃a b,Inv X pins a b s'/\D.nx a b
 | .brk=>∃a b,Inv X pins a b s'/\D.bk a b
 | .cont=>∃a b,Inv X pins a b s'/\D.ct a b
 | .ret u=>∃v a b,Inv X pins a b s'/\aN v u/\D.rt v b
def PE(X:Cx)(e:Expr)(t:TE):Prop:=
 ∀pins s (a:St) H Q,Inv X pins a H s->t a H Q->(~~~X) (eval e X.env) (EP X pins a Q) X.xe s
def PT(X:Cx)(e:Expr)(t:TT):Prop:=
 ∀pins s (a:St) H Q,Inv X pins a H s->t a H Q->(~~~X) (isTrue e X.env (eval e X.env)) (TP X pins a Q) X.xe s
def PW(X:Cx)(e:Expr)(t:TT):Prop:=
 ∀a pins s (b:St) H Q,Inv X pins b H s->t b H Q->(~~~X) (isTrue e X.env a) (TP X pins b Q) X.xe s
theorem PW.pt{X:Cx}(h:PW X e t):PT X e t:=h _
def PA(X:Cx)(es:List Expr)(t:TA):Prop:=
 ∀pos pins s (a:St) H Q,Inv X pins a H s->t a H Q->(~~~X) (spliced (backTo pos (starEach es X.env))) (AP X pins a Q) X.xe s
def PS(X:Cx)(st:Stmt)(t:TS):Prop:=
 ∀pins s (a:St) H D,Inv X pins a H s->t D a H->(~~~X) (exec st X.env) (SP X pins D) X.xe s
def PSs(X:Cx)(st:List Stmt)(t:TS):Prop:=
 ∀pins s (a:St) H D,Inv X pins a H s->t D a H->(~~~X) (execs st X.env) (SP X pins D) X.xe s
theorem thn{b:Type}{t:Sem b}{Q c:b->Shared->Prop}{M:Model}{A:Around}{E:ZD}{s:Shared}(h:wpAny M A t Q E s)(d:∀a s,Q a s->c a s):wpAny M A t c E s:=wpAny_mono h d λ_ _ x=>x
theorem thP{c d:Type}{t:Sem c}{X:Cx}{pins:ZE}{e:St}{R:d->c->Prop}{Q:d->Hp->Prop}{f:c->Shared->Prop}{M:Model}{A:Around}{E:ZD}{s:Shared}(h:wpAny M A t (λa s=>∃v b,Inv X pins e b s/\R v a/\Q v b) E s)(g:∀a s v b,Inv X pins e b s->R v a->Q v b->f a s):wpAny M A t f E s:=wpAny_mono h (λa s ⟨v,b,i,r,q⟩=>g a s v b i r q) λ_ _ x=>x
theorem thT{c:Type}{t:Sem c}{X:Cx}{pins:ZE}{d:St}{Q:c->Hp->Prop}{e:c->Shared->Prop}{M:Model}{A:Around}{E:ZD}{s:Shared}(h:wpAny M A t (λa s=>∃b,Inv X pins d b s/\Q a b) E s)(f:∀a s b,Inv X pins d b s->Q a b->e a s):wpAny M A t e E s:=wpAny_mono h (λa s ⟨b,i,q⟩=>f a s b i q) λ_ _ x=>x
section
variable{X:Cx}
def asI(x:V)(f:Int->Prop):Prop:=match x with| .int i=>f i|_=>False
def asB(x:V)(f:Bool->Prop):Prop:=match x with| .bl i=>f i|_=>False
def asR(x:V)(f:Addr->Prop):Prop:=match x with| .ref i=>f i|_=>False
theorem Fg:asI (.int i) f=f i:=rfl
theorem Fh:asB (.bl i) f=f i:=rfl
theorem Fi:asR (.ref i) f=f i:=rfl
theorem iw{x:V}{f:Int->Prop}(h:asI x f):∃i,x= .int i/\f i:=by
 cases x<;> first|exact⟨_,rfl,h⟩|exact h.elim
theorem oM{x:V}{f:Bool->Prop}(h:asB x f):∃i,x= .bl i/\f i:=by
 cases x<;> first|exact⟨_,rfl,h⟩|exact h.elim
theorem eP{x:V}{f:Addr->Prop}(h:asR x f):∃i,x= .ref i/\f i:=by
 cases x<;> first|exact⟨_,rfl,h⟩|exact h.elim
theorem Fj:asI x f=∃i,x= .int i/\f i:=propext %[iw|λ⟨_,e,q⟩=>by subst e;exact q]
theorem Fk:asB x f=∃i,x= .bl i/\f i:=propext %[oM|λ⟨_,e,q⟩=>by subst e;exact q]
theorem Fl:asR x f=∃i,x= .ref i/\f i:=propext %[eP|λ⟨_,e,q⟩=>by subst e;exact q]
def nV:Nat->TE
 | 0,some v::_,H,Q=>Q v H
 | i+1,_::a,H,Q=>nV i a H Q
 | _,_,_,_=>False
theorem C8:nV 0 (some v::a) H Q=Q v H:=rfl
theorem C9:nV (i+1) (o::a) H Q=nV i a H Q:=rfl
theorem ya:∀{i:Nat} {a:St},nV i a H Q->∃v,a[i]? =some (some v)/\Q v H
 | 0,some v::_,h=>%[v,rfl|h]
 | 0,none::_,h=>h.elim
 | 0,[],h=>h.elim
 | _+1,[],h=>h.elim
 | i+1,_::a,h=>ya (i:=i) h
def tC(v:V):TE:=λ_ H Q=>Q v H
theorem yb(j:X.N[i]? =some x)(n:Vis X.env.scope x)(d:(x==("__debug__":Str))=false)(f:(x==("__classdict__":Str))=false):PE X (.Name x pos) (nV i):=by
 intro pins s o H Q I h;obtain⟨v,e,h⟩:=ya h;obtain⟨m,p,q⟩:=I.loc;obtain⟨u,r,l⟩:=q i x v j e n;have fin:EP X pins o Q u s:=%[v,H,I,r|h]
 rcases l with⟨b,t⟩|⟨b,c,g,a⟩
 .exact wpAny_Name (wpAny_loadName_local I.ok.kind b p t fin) d
 .rcases b with b|b
  .exact wpAny_Name (wpAny_loadName_cell I.ok.kind b g a fin) d
  .exact wpAny_Name (wpAny_loadName_free I.ok.kind b g a fin f) d
theorem Da{i j pos}:PE X (.Constant (.int i) j pos) (tC (.int i)):=λ_ _ _ H _ I h=>wpAny_Constant_int %[.int i,H,I.tok _,%[_|rfl]|h]
theorem Fn{b j pos}:PE X (.Constant (.bool b) j pos) (tC (.bl b)):=λ_ _ _ H _ I h=>Constant_bool %[.bl b,H,I,rfl|h]
theorem Db{j pos}:PE X (.Constant .none j pos) (tC .non):=λ_ _ _ H _ I h=>Constant_none %[.non,H,I,rfl|h]
theorem Dc{x j pos}:PE X (.Constant (.str x) j pos) (tC (.str x)):=λ_ _ _ H _ I h=>Calls.Constant_str %[.str x,H,I.tok _,%[_|rfl]|h]
def Gl(X:Cx)(x:Str):Prop:=X.env.kindOf x=some .globalImplicit
theorem pX(I:Inv X pins d H s)(a:Gl X x)(b:X.mg x=some u)(h:Q u s)
 (c:(x==("__debug__":Str))=false):(~~~X) (eval (.Name x pos) X.env) Q E s:=
 Calls.Name_function_global I.ok.kind a (Calls.loadGlobal_global (I.ok.glob▸I.mod.glob.keeps I.bk) b h) c
theorem iz(I:Inv X pins i H s)(a:Gl X x)(b:X.mg x=none)(c:bootBuiltins x=some u)(h:Q u s)
 (d:x≠"__name__":=by decide) (e:(x==("__debug__":Str))=false:=by decide):(~~~X) (eval (.Name x pos) X.env) Q E s:=by
 obtain⟨j,f,g⟩:=I.mod.blt;exact Calls.Name_function_global I.ok.kind a (Calls.loadGlobal_builtin (I.ok.glob▸I.mod.glob.keeps I.bk) b (I.ok.blt▸f.keeps I.bk) ((g x d).trans c) h) e
theorem AR(a:Gl X x)(b:X.mg x=some u)(r:aN v u)(c:(x==("__debug__":Str))=false):PE X (.Name x pos) (tC v):=
 λ_ _ _ H _ I h=>pX I a b %[v,H,I,r|h] c
theorem AS(a:Gl X x)(b:X.mg x=none)(c:bootBuiltins x=some u)(r:aN v u)(d:x≠"__name__")(e:(x==("__debug__":Str))=false):PE X (.Name x pos) (tC v):=
 λ_ _ _ H _ I h=>iz I a b c %[v,H,I,r|h] d e
variable{a b:Expr}{ta tb:TE}{pos:Pos}
def PC(X:Cx)(op:CmpOp)(a b:Expr)(t:TE):Prop:=
 ∀pins s (e:St) H Q,Inv X pins e H s->t e H Q->
  (~~~X) (eval a X.env) (λv c=>(~~~X) (eval b X.env) (λu d=>(~~~X) (compareOp op v u) (EP X pins e Q) X.xe d) X.xe c) X.xe s
theorem Fo(b:Expr)(h:op≠ .In)(e:op≠ .NotIn):behindInMarks op b=false:=by
 have c:(op==CmpOp.In)=false:=by lia
 have d:(op==CmpOp.NotIn)=false:=by lia
 cases b<;> simp[behindInMarks,c,d]
def tB(t:TE):TT:=λd H Q=>t d H λx e=>asB x λc=>Q c e
theorem yd{op:CmpOp}(h:PC X op a b t)(e:behindInMarks op b=false):PT X (.Compare a [op] [b] pos) (tB t):=by
 intro pins s f H Q I hw;refine wpAny_isTrue_Compare1 (thn (h pins s f H _ I hw) λv n e=>thn e λu o g=>thn g λc p ⟨x,i,j,l,m⟩=>?_) e;obtain⟨d,rfl,q⟩:=oM m;cases l;exact wpAny_truthy_bool %[i,j|q]
variable{tA tB':TT}{rest:List Expr}
def AT(t u:TT):TT:=λd H Q=>t d H λc e=>if c=true then u d e Q else Q false e
def tOr(t u:TT):TT:=λd H Q=>t d H λc e=>if c=true then Q true e else u d e Q
def Dd(t:TT):TT:=λd H Q=>t d H λc e=>Q (!c) e
theorem AU(d:PT X a tA):PW X (.BoolOp .And [a] pos) tA:=by
 intro g pins s f H Q I h;refine isTrue_and (thn (d pins s f H Q I h) λc i e=>?_);cases c with
 | true=>exact isTrue_and_nil e
 | false=>exact e
theorem De(d:PT X a tA):PW X (.BoolOp .Or [a] pos) tA:=by
 intro g pins s f H Q I h;refine isTrue_or (thn (d pins s f H Q I h) λc i e=>?_);cases c with
 | false=>exact isTrue_or_nil e
 | true=>exact e
theorem Df(i:PT X a tA)(j:PW X (.BoolOp .And (b::rest) pos) tB'):PW X (.BoolOp .And (a::b::rest) pos) (AT tA tB'):=by
 intro l pins s d H Q I h;refine isTrue_and (thT (i pins s d H _ I h) λc m e f g=>?_);cases c with
 | true=>exact j l pins m d e Q f g
 | false=>exact%[e,f|g]
theorem Fp(i:PT X a tA)(j:PW X (.BoolOp .Or (b::rest) pos) tB'):PW X (.BoolOp .Or (a::b::rest) pos) (tOr tA tB'):=by
 intro l pins s d H Q I h;refine isTrue_or (thT (i pins s d H _ I h) λc m e f g=>?_);cases c with
 | true=>exact%[e,f|g]
 | false=>exact j l pins m d e Q f g
theorem Dg(c:PT X a tA):PT X (.UnaryOp .Not a pos) (Dd tA):=by
 intro pins s d H Q I h;exact isTrue_not (c pins s d H _ I h)
def yf(ta tb:TE):TE:=λd H Q=>ta d H λx e=>asB x λc=>if c=true then tb d e Q else Q (.bl false) e
def Dh(ta tb:TE):TE:=λd H Q=>ta d H λx e=>asB x λc=>if c=true then Q (.bl true) e else tb d e Q
theorem Di{op}(h:PE X a t):PE X (.BoolOp op [a] pos) t:=λpins s c H Q I hw=>BoolOp_one (h pins s c H Q I hw)
theorem Dj(i:PE X a ta)(j:PE X (.BoolOp .And (b::rest) pos) tb):PE X (.BoolOp .And (a::b::rest) pos) (yf ta tb):=by
 intro pins s e H Q I h;refine BoolOp_and (thP (i pins s e H _ I h) λv l x f g m d=>?_);obtain⟨c,rfl,d⟩:=oM d;cases m;refine wpAny_truthy_bool ?_;cases c with
 | true=>exact j pins l e f Q g d
 | false=>exact%[.bl false,f,g,rfl|d]
theorem Fq(i:PE X a ta)(j:PE X (.BoolOp .Or (b::rest) pos) tb):PE X (.BoolOp .Or (a::b::rest) pos) (Dh ta tb):=by
 intro pins s e H Q I h;refine BoolOp_or (thP (i pins s e H _ I h) λv l x f g m d=>?_);obtain⟨c,rfl,d⟩:=oM d;cases m;refine wpAny_truthy_bool ?_;cases c with
 | false=>exact j pins l e f Q g d
 | true=>exact%[.bl true,f,g,rfl|d]
def tIf(t:TT)(ta tb:TE):TE:=λd H Q=>t d H λc e=>if c=true then ta d e Q else tb d e Q
theorem yg{c:Expr}(l:PT X c tA)(m:PE X a ta)(n:PE X b tb):PE X (.IfExp c a b pos) (tIf tA ta tb):=by
 intro pins s e H Q I h;refine wpAny_IfExp (thT (l pins s e H _ I h) λd f g i j=>?_);cases d with
 | true=>exact m pins f e g Q i j
 | false=>exact n pins f e g Q i j
end
def SqL(K:ZA)(H:Hp)(a:Addr)(xs:List V):Prop:=
 Rd H a (.lst xs)\/
  ∃o its n,K.lookup a=some o/\o.cls= .type "list"/\o.dict=none/\o.data= .seq its n/\its.size<=sizeLine/\aH xs its.toList
def SqT(K:ZA)(H:Hp)(a:Addr)(xs:List V):Prop:=
 Rd H a (.tup xs)\/
  ∃o its n,K.lookup a=some o/\o.cls= .type "tuple"/\o.data= .seq its n/\its.size<=sizeLine/\aH xs its.toList
noncomputable def absV:Value->Option V
 | .none=>some .non
 | .bool b=>some (.bl b)
 | .int i _=>some (.int i)
 | .str x _=>some (.str x)
 | .bytes b _=>some (.byt b)
 | .float b _=>some (.flt b)
 | .ref a=>some (.ref a)
 | .type n=>some (.ty n)
 | _=>none
theorem aN.abs(r:aN x u):absV u=some x:=by
 cases x with
 | non=>cases r;rfl
 | bl _=>cases r;rfl
 | int _=>obtain⟨t,rfl⟩:=r;rfl
 | str _=>obtain⟨t,rfl⟩:=r;rfl
 | byt _=>obtain⟨t,rfl⟩:=r;rfl
 | flt _=>obtain⟨t,rfl⟩:=r;rfl
 | ref _=>cases r;rfl
 | ty _=>cases r;rfl
theorem aN.inj(r:aN x u)(q:aN y u):x=y:=Z9 (r.abs.symm.trans q.abs)
theorem aH.inj:∀{xs ys:List V} {us:ZF},aH xs us->aH ys us->xs=ys
 | _,_,_,.nil,.nil=>rfl
 | _,_,_,.cons r t,.cons a t'=>by rw[r.inj a,aH.inj t t']
section
#version
variable{a:Addr}{xs ys:List V}
theorem SqL.of{K:ZA}(h:H a=some (.lst xs)):SqL K H a xs:= .inl (.inl h)
theorem SqT.of{K:ZA}(h:H a=some (.tup xs)):SqT K H a xs:= .inl (.inl h)
theorem Inv.list(I:Inv X pins σ H s)(h:SqL X.K H a xs):∃its:ZF,aH xs its/\PlainL s.heap a its.toArray/\xs.length<=sizeLine:=by
 rcases h with h|⟨o,its,n,b,c,d,f,g,r⟩
 .obtain⟨z,its,n,r,e⟩:=h.ok I.hok;exact%[its,r,%[_,n,e,rfl,rfl|rfl]|z]
 .refine%[its.toList,r,%[o,n,I.kIn a o b,c,d|f]|?_];have e:=r.length
  simp_all
theorem Inv.tuple(I:Inv X pins σ H s)(h:SqT X.K H a xs):∃its:ZF,aH xs its/\IsTup s.heap a its.toArray/\xs.length<=sizeLine:=by
 rcases h with h|⟨o,its,n,b,c,d,f,r⟩
 .obtain⟨z,its,r,p⟩:=h.ok I.hok;exact%[its,r,p|z]
 .refine%[its.toList,r,%[o,I.kIn a o b,c,n|d]|?_];have e:=r.length;simp only[Za]at e
  lia
theorem Inv.list_inj(I:Inv X pins σ H s)(h:SqL X.K H a xs)(h':SqL X.K H a ys):xs=ys:=by
 obtain⟨its,r,⟨o,n,e,_,_,d⟩,_⟩:=I.list h;obtain⟨its',c,⟨g,i,b,_,_,d'⟩,_⟩:=I.list h';rw[e]at b;cases b;rw[d]at d';injection d' with f _
 have:=congrArg Array.toList f;subst this;exact r.inj c
theorem Inv.tuple_inj(I:Inv X pins σ H s)(h:SqT X.K H a xs)(h':SqT X.K H a ys):xs=ys:=by
 obtain⟨its,r,⟨o,e,_,n,d⟩,_⟩:=I.tuple h;obtain⟨its',c,⟨g,b,_,i,d'⟩,_⟩:=I.tuple h';rw[e]at b;cases b;rw[d]at d';injection d' with f _
 have:=congrArg Array.toList f;subst this;exact r.inj c
end
noncomputable abbrev Cx.wish(X:Cx)(E:ZD):Cx:={X with xe:=E}
noncomputable abbrev Cx.nox(X:Cx):Cx:=X.wish λ_ _=>False
theorem Cx.Ok.wish{X:Cx}(ok:X.Ok)(E:ZD):(X.wish E).Ok:=
 %[ok.mod,ok.kind,ok.glob,ok.blt,ok.above,ok.inj,ok.has,ok.cab,ok.hd,ok.frames,ok.stk,ok.exf,ok.bs,ok.bsz,ok.noex,ok.exfs,ok.funs|ok.frf]
theorem Cx.Ok.unwish{X:Cx}{E:ZD}(ok:(X.wish E).Ok):X.Ok:=
 %[ok.mod,ok.kind,ok.glob,ok.blt,ok.above,ok.inj,ok.has,ok.cab,ok.hd,ok.frames,ok.stk,ok.exf,ok.bs,ok.bsz,ok.noex,ok.exfs,ok.funs|ok.frf]
section
#version
variable{E:ZD}
theorem Inv.wish(I:Inv X pins σ H s)(E:ZD):Inv (X.wish E) pins σ H s:=%[I.ok.wish E,I.os,I.bare,I.base,I.loc,I.cell,I.free,I.freeC,I.pin,I.hok|I.len]
theorem Inv.unwish(I:Inv (X.wish E) pins σ H s):Inv X pins σ H s:=%[I.ok.unwish,I.os,I.bare,I.base,I.loc,I.cell,I.free,I.freeC,I.pin,I.hok|I.len]
theorem SP.unwish{D:kj}{f:Flow}{s':Shared}(h:SP (X.wish E) pins D f s'):SP X pins D f s':=by
 cases f with
 | next=>obtain⟨a,b,I,q⟩:=h;exact%[a,b,I.unwish|q]
 | brk=>obtain⟨a,b,I,q⟩:=h;exact%[a,b,I.unwish|q]
 | cont=>obtain⟨a,b,I,q⟩:=h;exact%[a,b,I.unwish|q]
 | ret u=>obtain⟨v,a,b,I,r,q⟩:=h;exact%[v,a,b,I.unwish,r|q]
theorem PSs.nox{st:List Stmt}(h:PSs X.nox st t):PSs X st t:=λpins s σ H D I hw=>
 wpAny_mono (h pins s σ H D (I.wish _) hw) (λ_ _ q=>q.unwish) λ_ _ z=>False.elim z
end
section
variable{X:Cx}{st:Stmt}{rest:List Stmt}{t u:TS}{e:Expr}{te:TE}{pos:Pos}
def yh:TS:=λD a H=>D.nx a H
def aY(t u:TS):TS:=λD a H=>t {D with nx:=u D} a H
theorem AV:PSs X [] yh:=λ_ _ a H _ I h=>wpAny_execs_nil %[a,H,I|h]
theorem yj(b:PS X st t)(c:PSs X rest u):PSs X (st::rest) (aY t u):=by
 intro pins s d H D I h;refine wpAny_execs_cons (thn (b pins s d H _ I h) λf g q=>?_);cases f with
 | next=>
   obtain⟨a,i,j,q⟩:=q;exact c pins g a i D j q
 | ret v=>exact q
 | brk=>exact q
 | cont=>exact q
theorem AW(a:PS X st t):PSs X [st] t:=by
 intro pins s b H D I h;refine wpAny_execs_cons (thn (a pins s b H D I h) λf c q=>?_);cases f with
 | next=>exact wpAny_execs_nil q
 | ret v=>exact q
 | brk=>exact q
 | cont=>exact q
theorem Inv.quiet{pins:List _}{a:St}{H:Hp}{s:Shared}(I:Inv X pins a H s):interactive X.env=false:=by simp[interactive,I.ok.kind]
def jE(te:TE):TS:=λD a H=>te a H λ_ b=>D.nx a b
theorem AX(b:PE X e te)(c:swapsWith e none pos.line X.env=pure false):PS X (.Expr e pos) (jE te):=by
 intro pins s a H D I h;exact wpAny_Expr_any (thP (b pins s a H _ I h) λv i x d f j g=>%[a,d,f|g]) I.quiet c
def jF(te:TE):TS:=λD a H=>te a H D.rt
theorem Dk(b:PE X e te):PS X (.Return (some e) pos) (jF te):=by
 intro pins s a H D I h;exact wpAny_Return_some (thP (b pins s a H _ I h) λv i x c d f g=>%[x,a,c,d,f|g])
def jG(c:TT)(t u:TS):TS:=λD a H=>c a H λb d=>if b=true then t D a d else u D a d
theorem Fs{c:Expr}{a b:List Stmt}(m:PT X c n)(o:PSs X a t)(p:PSs X b u):PS X (.If c a b pos) (jG n t u):=by
 intro pins s f H D I h;refine wpAny_If (thT (m pins s f H _ I h) λd g i j l=>?_);cases d with
 | true=>exact o pins g f i D j l
 | false=>exact p pins g f i D j l
def yk:TS:=λ_ _ _=>False
theorem yo:PS X st yk:=λ_ _ _ _ _ _ h=>h.elim
end
noncomputable abbrev TG:=V->St->Hp->(St->Hp->Prop)->Prop
noncomputable abbrev TGs:=List V->St->Hp->(St->Hp->Prop)->Prop
def PG(X:Cx)(a:Expr)(t:TG):Prop:=
 ∀pins s (c:St) H v u Q,Inv X pins c H s->aN v u->t v c H Q->
  (~~~X) (assign a X.env u) (λ_ s'=>∃b d,Inv X pins b d s'/\Q b d) X.xe s
def PGs(X:Cx)(ts:List Expr)(t:TGs):Prop:=
 ∀pins s (b:St) H vs us Q,Inv X pins b H s->aH vs us->t vs b H Q->
  (~~~X) (assignInOrder ((assignEach ts X.env).map (·.2)) us) (λ_ s'=>∃a c,Inv X pins a c s'/\Q a c) X.xe s
section
variable{X:Cx}{pos:Pos}
def jh(i:Nat):TG:=λv a H Q=>Q (a.set i (some v)) H
theorem AY(a:X.N.Nodup)(hi:X.N[i]? =some x)(b:Loc X.env.scope x)(c:X.fn x=true\/X.env.scope.names.lookup x=some .local):PG X (.Name x pos) (jh i):=by
 intro pins s e H v u Q I r h;exact wpAny_assign_Name (mv I a hi b r (λs' d=>%[_,H,d|h]) c)
def Dl:TGs:=λvs a H Q=>vs=[]/\Q a H
def yp(t:TG)(u:TGs):TGs:=λvs b H Q=>∃v r,vs=v::r/\t v b H λa c=>u r a c Q
theorem AZ:PGs X [] Dl:=by
 intro pins s a H vs us Q I r h;obtain⟨e,h⟩:=h;exact assignInOrder_nil %[a,H,I|h]
theorem yq{e:Expr}{u:TGs}(b:PG X e t)(c:PGs X es u)
 (d:(assignEach (e::es) X.env).map (·.2)=assign e X.env::(assignEach es X.env).map (·.2)):PGs X (e::es) (yp t u):=by
 intro pins s f H vs us Q I r h;obtain⟨v,n,g,h⟩:=h;subst g;cases r with
 | cons r rr=>
   rw[d];exact assignInOrder_cons (thn (b pins s f H _ _ _ I r h) λ_ i ⟨a,j,l,m⟩=>c pins i a j _ _ Q l rr m)
def yr(K:ZA)(n:Nat)(t:TGs):TG:=λv b H Q=>asR v λa=>∃xs,SqT K H a xs/\xs.length=n/\t xs b H Q
theorem Dm(f:X.calm=true)(h:PGs X es t)
 (g:(assignEach es X.env).length=n) (c:(assignEach es X.env).findIdx? (·.1)=none):PG X (.Tuple es k pos) (yr X.K n t):=by
 intro pins s i H v u Q I r hw;obtain⟨a,j,xs,l,m,hw⟩:=eP hw;clear ‹yr _ _ _ _ _ _ _›;subst j;cases r;obtain⟨its,d,p,w⟩:=I.tuple l;exact assign_Tuple_tuple (I.ok.hd f) p (by simp[g,<-m,d.length]) c λh' q=>h pins _ i H xs _ Q (I.kept λb o e=>q b o (Zr (Zt e)) e) (d) hw
def pY(b:TE)(g:TG):TS:=λD a H=>b a H λx c=>g x a c D.nx
theorem Do{a e:Expr}{g:TG}(c:PE X e d)(f:PG X a g)(i:swapsWithSole [a] e pos.line X.env=pure false)(hw:swappedStores [a] e X.env=pure none)
 (j:(assignEach [a] X.env).map (·.2)=[assign a X.env]):PS X (.Assign [a] e pos) (pY d g):=by
 intro pins s b H D I h;refine wpAny_Assign_stores (thP (c pins s b H _ I h) λv l x m n o p=>?_) i hw;rw[j];exact thn (f pins l b m x v _ n o p) λ_ r q=>q
theorem yv{i:Nat}{x:Str}{e:Expr}(b:X.N.Nodup)(hi:X.N[i]? =some x)(c:Loc X.env.scope x)(d:PE X e f)(g:swapsWith e (some (.Name x a)) pos.line X.env=pure false)(j:X.fn x=true\/X.env.scope.names.lookup x=some .local):
 PS X (.Assign [.Name x a] e pos) (pY f (jh i)):=by
 intro pins s l H D I h;exact wpAny_Assign_Name (thP (d pins s l H _ I h) λv r y m n o p=>mv n b hi c o (λt q=>%[_,m,q|p]) j) g
end
section
variable{X:Cx}{pos:Pos}
def yw(c:TT)(h:TS):TS:=λD a H=>∃W:Nat->St->Hp->Prop,(∃m,W m a H)/\∀m a H,W m a H->
 c a H λb e=>if b=true then∃N:St->Hp->Prop,(∀d f,N d f->∃g,g<m/\W g d f)/\h {D with nx:=N,ct:=N,bk:=D.nx} a e else D.nx a e
theorem yx(u:PassesOwn (model X.prog X.w) X.A X.env X.xe)(C:PT X c E)(G:PSs X e J):PS X (.While c e [] pos) (yw E J):=by
 intro pins s L H D I h;obtain⟨W,⟨M,O⟩,g⟩:=h;refine wpAny_While (codeAny_whileLoop (λn s'=>∃i w,Inv X pins i w s'/\W n i w) ?_ M %[L,H,I|O]);rintro n Q ⟨d,y,T,U⟩;refine wpAny_passesOwn u (thT (C pins Q d y _ T (g n d y U)) λb Y z A l=>?_);cases b with
 | true=>
   obtain⟨N,B,l⟩:=l;refine wpAny_passesOwn u (thn (G pins Y d z _ A l) λf s3 m=>?_);cases f with
   | next=>
     obtain⟨a,j,o,p⟩:=m;obtain⟨q,r,t⟩:=B a j p;exact%[q,r,a,j,o|t]
   | cont=>
     obtain⟨a,j,o,p⟩:=m;obtain⟨q,r,t⟩:=B a j p;exact%[q,r,a,j,o|t]
   | brk=>exact m
   | ret v=>exact m
 | false=>
   exact wpAny_execs_nil %[d,z,A|l]
end
structure It where
 go:Nat->Hp->Prop
 yld:Nat->Hp->V->Hp->Prop
 stop:Nat->Hp->Prop
def lO(X:Cx)(pins:ZE)(H:Hp)(b:Addr):Prop:=
 H b=none/\b≠X.env.locals/\b∉X.fs/\(b∈X.ex\/X.s₀.heap.objs.size<=b)/\(∀x c,X.env.cells.lookup x=some c->c≠b)/\∀p∈X.pn++pins,p.1≠b
theorem Inv.fpOk{X:Cx}(I:Inv X pins h H s)(a:⇑s<=b)(d:f b=none):lO X pins f b:=by
 refine%[d,Yr (Zf I.lt a),I.nofs a,.inr (Y9 I.sz a),λx c e z=>?_|λp g z=>?_]
 .obtain⟨v,q⟩:=I.cell x c e;exact absurd (Zf q.lt (z▸a)) (X5 _)
 .exact absurd (Zf (Zt (I.pin p g).1) (z▸a)) (X5 _)
structure mw (P:Program) (w:World) (K:ZA) (tg:Expr) (J:It) (fp:List Addr) (it:Addr) (tn:Nat->Heap->Prop):Prop where
 mem:it∈fp
 obj:∀i h,tn i h->∀b∈fp,∃o,h.get? b=some o/\∀v,o.data≠ .cell v
 keep:∀i h h',tn i h->(∀b∈fp,∀o,h.get? b=some o->h'.get? b=some o)->tn i h'
 item:∀(X:Cx),X.prog=P->X.w=w->X.K=K->X.calm=true->∀i (pins:ZE) s (σ:St) H (E:ZD),Inv X pins σ H s->(∀b∈fp,lO X pins H b)->tn i s.heap->J.go i H->
  wpAny (model P w) X.A (pyNext (.ref it)) (λr s1=>∃u,r=some u/\
   wpAny (model P w) X.A (letOwnedTupleGo tg (.ref it) u) (λ_ s2=>∃x H',Inv X pins σ H' s2/\aN x u/\J.yld i H x H'/\tn (i+1) s2.heap/\∀b∈fp,H' b=none) E s1) E s
 done:∀X,X.prog=P->X.w=w->X.K=K->X.calm=true->∀i pins s (σ:St) H E,Inv X pins σ H s->(∀b∈fp,lO X pins H b)->tn i s.heap->J.stop i H->
  wpAny (model P w) X.A (pyNext (.ref it)) (λr s1=>r=none/\Inv X pins σ H s1) E s
 self:∀A i s Q E,tn i s.heap->Q (.ref it) s->wpAny (model P w) A (pyIter (.ref it)) Q E s
noncomputable abbrev TI:=St->Hp->(It->Hp->Prop)->Prop
def PIE(X:Cx)(pins:ZE)(h:St)(i:Expr)(R:It->Hp->Prop)(a:Value)(d:Shared):Prop:=
 ∃e f g J c,a= .ref e/\Inv X pins h c d/\mw X.prog X.w X.K i J f e g/\g 0 d.heap/\(∀b∈f,lO X pins c b)/\R J c
def PI(X:Cx)(b iter:Expr)(c:TI):Prop:=
 ∀pins s (a:St) H R,Inv X pins a H s->c a H R->
  (~~~X) (eval iter X.env) (λv d=>(~~~X) (pyIter v) (PIE X pins a b R) X.xe d) X.xe s
theorem oN(b:s.heap.get? c=some o)(d:o.cls= .type n)(e:o.data= .fields vs)
 (f:["enumerate","zip","dict_itemiterator","dict_reverseitemiterator","odict_iterator","itertools.zip_longest","itertools.pairwise"].contains n=false) (a:Q () s):wpAny M A (letOwnedTupleGo g (.ref c) u) Q E s:=by
 cases g<;> first
  | exact Z3 a
  |(cases u<;> first
   | exact Z3 a
   |(refine Z2 (wpAny_load b ?_)
     rw[d,e];show wpAny M A (if(["enumerate","zip","dict_itemiterator","dict_reverseitemiterator","odict_iterator","itertools.zip_longest","itertools.pairwise"].contains n&&vs[0]? ==some _)=true then _ else _) Q E s;rw[if_neg (by intro h;rw[f,Bool.false_and]at h;cases h)];exact Z3 a))
noncomputable def Itl(K:ZA)(a:Addr):It:=
 ⟨λi H=>∃xs x,SqL K H a xs/\xs[i]? =some x,λi H x b=>b=H/\∀xs,SqL K H a xs->xs[i]? =some x,λi H=>∃xs,SqL K H a xs/\xs.length<=i⟩
noncomputable def Itt(K:ZA)(a:Addr):It:=
 ⟨λi H=>∃xs x,SqT K H a xs/\xs[i]? =some x,λi H x b=>b=H/\∀xs,SqT K H a xs->xs[i]? =some x,λi H=>∃xs,SqT K H a xs/\xs.length<=i⟩
noncomputable def Itr(lo:Int)(n:Nat):It:=%[λi _=>i<n,λi H x a=>a=H/\x= .int (lo+i)|λi _=>n<=i]
theorem v6{P:Program}{K:ZA}(a it:Addr):mw P w K tg (Itl K a) [it] it (λi h=>h.IsListIter it a i) where
 mem:=by simp
 obj:=λi h st b hb=>by
  have e:=by simpa using hb
  subst e;obtain⟨o,e,c,d⟩:=st;exact%[o,e|λv z=>by rw[d]at z;cases z]
 keep:=λi h h' st k=>st.at λo e=>k it ∅ o e
 item:=by
  intro X hP hw hK hc i pins s σ H E I hf st hg;subst hP hw hK;obtain⟨xs,x,hq,hx⟩:=hg;obtain⟨its,rv,p,hz⟩:=I.list hq;obtain⟨u,hu,ru⟩:=rv.get hx;obtain⟨f0,f1,f2,f3,f4,f5⟩:=hf it ∅;refine wpAny_pyNext_list_item st p.isList (by simpa using hu) λh' st' sb=>?_
  obtain⟨o,e,c,d⟩:=id st';exact%[u,rfl|oN e c d (by decide) %[x,H,(I.turned (λb o hb e=>(sb.2 b hb).trans e) f0 f1 f3 f4 f5),ru,%[rfl|λys hy=>(I.list_inj hy hq)▸hx],st'|λb hb=>(hf b hb).1]]
 done:=by
  intro X hP hw hK hc i pins s σ H E I hf st hg;subst hP hw hK;obtain⟨xs,hq,hx⟩:=hg;obtain⟨its,rv,p,hz⟩:=I.list hq;obtain⟨f0,f1,f2,f3,f4,f5⟩:=hf it ∅;have hl:=rv.length;exact wpAny_pyNext_list_end (I.ok.hd hc) st p.isList (by simp;lia) λh' eb=>%[rfl|I.turned (λb o hb e=>eb b o hb e) f0 f1 f3 f4 f5]
 self:=λ_ _ _ _ _ st h=>wpAny_pyIter_listiter st h
theorem tK{P:Program}{K:ZA}(a it:Addr):mw P w K tg (Itt K a) [it] it (λi h=>h.IsTupleIter it a i) where
 mem:=by simp
 obj:=λi h st b hb=>by
  have e:=by simpa using hb
  subst e;obtain⟨o,e,c,d⟩:=st;exact%[o,e|λv z=>by rw[d]at z;cases z]
 keep:=λi h h' st k=>st.at λo e=>k it ∅ o e
 item:=by
  intro X hP hw hK hc i pins s σ H E I hf st hg;subst hP hw hK;obtain⟨xs,x,hq,hx⟩:=hg;obtain⟨its,rv,p,hz⟩:=I.tuple hq;obtain⟨u,hu,ru⟩:=rv.get hx;obtain⟨f0,f1,f2,f3,f4,f5⟩:=hf it ∅;refine wpAny_pyNext_tuple_item st (p) (by simpa using hu) λh' st' sb=>?_
  obtain⟨o,e,c,d⟩:=id st';exact%[u,rfl|oN e c d (by decide) %[x,H,(I.turned (λb o hb e=>(sb.2 b hb).trans e) f0 f1 f3 f4 f5),ru,%[rfl|λys hy=>(I.tuple_inj hy hq)▸hx],st'|λb hb=>(hf b hb).1]]
 done:=by
  intro X hP hw hK hc i pins s σ H E I hf st hg;subst hP hw hK;obtain⟨xs,hq,hx⟩:=hg;obtain⟨its,rv,p,hz⟩:=I.tuple hq;obtain⟨f0,f1,f2,f3,f4,f5⟩:=hf it ∅;have hl:=rv.length;exact wpAny_pyNext_tuple_end (I.ok.hd hc) st (p) (by simp;lia) λh' eb=>%[rfl|I.turned (λb o hb e=>eb b o hb e) f0 f1 f3 f4 f5]
 self:=λ_ _ _ _ _ st h=>wpAny_pyIter_tupleiter st h
theorem tL{P:Program}{K:ZA}(it:Addr)(lo:Int)(n:Nat):mw P w K tg (Itr lo n) [it] it (λi h=>IsRangeIter h it (lo+(i:Nat)*1) ((n:Int) -(i:Nat)) 1) where
 mem:=by simp
 obj:=λi h st b hb=>by
  simp_all
 keep:=λi h h' st k=>k it ∅ _ st
 item:=by
  intro X hP hw hK hc i pins s σ H E I hf st hg;subst hP hw hK;obtain⟨f0,f1,f2,f3,f4,f5⟩:=hf it ∅;refine(Walks.range (prog:=X.prog) (w:=X.w) (I.ok.hd hc) it lo 1 n).item i s _ _ hg st λv h' tk hv st' kk=>?_
  obtain⟨t,rfl⟩:=hv;refine%[_,rfl|oN st' rfl rfl (by decide) %[.int _,H,(I.turned (λb o hb e=>kk b o (by simpa using hb) e) f0 f1 f3 f4 f5),%[t|?_],%[rfl|rfl],st'|λb hb=>(hf b hb).1]];rw[Int.mul_one]
 done:=by
  intro X hP hw hK hc i pins s σ H E I hf st hg;obtain⟨f0,f1,f2,f3,f4,f5⟩:=hf it ∅;exact wpAny_pyNext_range_end (I.ok.hd hc) st (by have:n<=i:=hg;lia) λh' eb=>%[rfl|I.turned (λb o hb e=>eb b o hb e) f0 f1 f3 f4 f5]
 self:=λ_ _ _ _ _ st h=>wpAny_pyIter_rangeiter st h
section
variable{X:Cx}{tg:Expr}
theorem yy{R:It->Hp->Prop}{lo hi:Int}(I:Inv X pins c H s)(d: -(2^62)<=lo)(f:lo<2^62)(g: -(2^62)<=hi)(h:hi<2^62)
 (q:R (Itr lo (hi-lo).toNat) H):(~~~X) (pyIter (.ref ⇑s)) (PIE X pins c tg R) E {s with heap:=s.heap.push {cls:= .type "range",data:= .fields #[.int lo t,.int hi u,.int 1 v]},toks:=tk}:=by
 refine wpAny_pyIter_range (IsRange.new ..) (small_one d f g h) ?_;have a:Inv X pins c H {s with heap:=s.heap.push {cls:= .type "range",data:= .fields #[.int lo t,.int hi u,.int 1 v]},toks:=tk}:=I.kept λb o e=>Z6 _ e
 refine%[(s.heap.push _).objs.size,[(s.heap.push _).objs.size],_,_,H,rfl,
  a.kept λb o e=>Z6 _ e,tL _ lo _,?_,λb i=>?_|q]
 .have j:lo+((0:Nat))*1=lo:=by simp
  have l:(((hi-lo).toNat)) -((0:Nat))=Builtin.Range.rangeSize lo hi 1:=by rw[rangeSize_one];split<;> lia
  rw[j,l];exact Zi _ rfl
 .have e:b=(s.heap.push {cls:= .type "range",data:= .fields #[.int lo t,.int hi u,.int 1 v]}).objs.size:=by simpa using i
  subst e;exact a.fpOk (Zh _) (a.hok.fresh (Zh _))
def yz(a:TA):TI:=λb H R=>a b H λvs c=>∃j:Int,vs=[.int j]/\ -(2^62)<=j/\j<2^62/\R (Itr 0 j.toNat) c
theorem v7{a:Expr}(c:Gl X "range")(d:X.mg "range"=none)(f:PA X [a] g)(i:starEach [a] X.env=[(false,eval a X.env)]):PI X tg (.Call (.Name "range" p) [a] [] pos) (yz g):=by
 intro pins s l H R I h;refine Call_ (iz I c d boot_range (PyProof.Rows.callWith_type1 (thP (f pos pins s l H _ I h) λus u vs v m n b=>?_) i rfl));obtain⟨j,e,b,o,q⟩:=b;subst e;cases n with
 | cons r rr=>
   cases rr;obtain⟨t,rfl⟩:=r;exact call_range_1 (yy m ⋯ ⋯ b o (by simpa using q))
def yA(f:TI)(g:TG)(h:TS):TS:=λD a H=>f a H λJ j=>∃W:Nat->Nat->St->Hp->Prop,(∃m,W 0 m a j)/\∀i m a H,W i m a H->
 (J.stop i H/\D.nx a H)\/(J.go i H/\∃N:St->Hp->Prop,(∀b c,N b c->∃e,e<m/\W (i+1) e b c)/\∀x c,J.yld i H x c->g x a c λd l=>h {D with nx:=N,ct:=N,bk:=D.nx} d l)
noncomputable def pZ(a:List Addr)(h:Heap):ZE:=a.filterMap λb=>(h.get? b).map λo=>(b,o)
theorem eQ(a:b∈c)(e:h.get? b=some o):(b,o)∈pZ c h:=mem_filterMap.mpr %[b,a|by rw[e];rfl]
theorem v8(a:p∈pZ c h):p.1∈c/\h.get? p.1=some p.2:=by
 obtain⟨b,d,e⟩:=mem_filterMap.mp a;cases q:h.get? b with
 | none=>simp_all
 | some o=>
   rw[q]at e;have f:=Z9 e;subst f;exact%[d|q]
theorem Inv.pinned(I:Inv X pins g H s)(h:∀b∈a,lO X pins H b)(i:∀b∈a,∃o,s.heap.get? b=some o/\∀v,o.data≠ .cell v):Inv X (pins++pZ a s.heap) g H s:=
 I.pins_of λp j=>(X8 j).elim (λz=>I.pin p (Yn _ z)) λz=>by
  obtain⟨c,e⟩:=v8 z;obtain⟨l,m,n,_⟩:=h p.1 c;obtain⟨o,f,d⟩:=i p.1 c;rw[e]at f;cases f;exact%[e,l,m,n|d]
theorem Inv.unpinned(I:Inv X (pins++pl) a H s):Inv X pins a H s:=I.pins_of λp b=>I.pin p (Yn _ (Ym _ b))
theorem Dp(A:PassesOwn (model X.prog X.w) X.A X.env X.xe)(hc:X.calm=true)(hi:PI X tg iter wi)(hg:PG X tg g)(c:PSs X B tb)
 (hs:∀x,foldedSetIterable iter X.env x=pure x):PS X (.For tg iter B [] pos) (yA wi g tb):=by
 intro pins s σ H D I h;refine wpAny_For (thn (hi pins s σ H _ I h) λv s1 h1=>thn h1 λae s2 h2=>?_) hs;obtain⟨it,M,tn,J,H2,e,I2,T,Q,f2,W,⟨m0,w0⟩,C⟩:=h2;subst e;have j:∀{w:Hp},(∀b∈M,w b=none)->∀b∈M,lO X pins w b:=λhn b c=>%[hn b c|(f2 b c).2]
 refine codeAny_forLoop_any (λn s'=>∃i l w,Inv X pins l w s'/\tn i s'.heap/\(∀b∈M,w b=none)/\W i n l w) ?_ m0 %[0,σ,H2,I2,Q,λb c=>(f2 b c).1|w0];rintro n s3 ⟨i,p,O,I3,E,G,w3⟩;rcases C i n p O w3 with⟨stop,qn⟩|⟨go,N,hN,step⟩
 .refine wpAny_passesOwn A (thn (T.done X rfl rfl rfl hc i pins s3 p O X.xe I3 (j G) E stop) λr s4 ⟨U,I4⟩=>?_);subst U;exact wpAny_execs_nil %[p,O,I4|qn]
 .refine wpAny_passesOwn A (thn (T.item X rfl rfl rfl hc i pins s3 p O X.xe I3 (j G) E go) λr s4 ⟨u,U,h4⟩=>?_);subst U;refine wpAny_passesOwn A (thn h4 λ_ s5 ⟨x,H5,I5,r5,y5,z,Y⟩=>wpAny_passesOwn A (thn (hg _ s5 p H5 x u _ (I5.pinned (j Y) (T.obj _ _ z)) r5 (step x H5 y5)) λ_ s6 ⟨ab,H6,I6,q6⟩=>wpAny_passesOwn A (thn (c _ s6 ab H6 _ I6 q6) λf s7 y=>?_)));have again:∀{a:St} {q:Hp},Inv X _ a q s7->N a q->∃m,m<n/\∃i l w,Inv X pins l w s7/\tn i s7.heap/\(∀b∈M,w b=none)/\W i m l w:=λ{a q} t L=>by
   obtain⟨m',hm,w7⟩:=hN a q L;refine%[m',hm,i+1,a,q,t.unpinned,T.keep _ _ _ z λb c o e=>(t.pin _ (Yn _ (Yn _ (eQ c e)))).1,λb c=>?_|w7];obtain⟨o,e,d⟩:=T.obj _ _ z b c;exact(t.pin _ (Yn _ (Yn _ (eQ c e)))).2.1
  cases f with
  | next=>obtain⟨a,q,t,L⟩:=y;exact again t L
  | cont=>obtain⟨a,q,t,L⟩:=y;exact again t L
  | brk=>obtain⟨a,q,t,y⟩:=y;exact%[a,q,t.unpinned|y]
  | ret v=>obtain⟨x7,a,q,t,r7,y⟩:=y;exact%[x7,a,q,t.unpinned,r7|y]
end
theorem aX{K:ZA}{g:TG}{l:TS}{D:kj}(Pv:Nat->St->Hp->Prop)(o:Pv 0 b H)(r:∀i b H,i<=xs.length->Pv i b H->SqL K H a xs)
 (s:∀i x b H,xs[i]? =some x->Pv i b H->g x b H λc h=>l {D with nx:=Pv (i+1),ct:=Pv (i+1),bk:=D.nx} c h) (t:∀b H,Pv xs.length b H->D.nx b H):
 ∃W:Nat->Nat->St->Hp->Prop,(∃m,W 0 m b H)/\∀i m b H,W i m b H->
  ((Itl K a).stop i H/\D.nx b H)\/((Itl K a).go i H/\∃N:St->Hp->Prop,(∀d f,N d f->∃n,n<m/\W (i+1) n d f)/\∀x f,(Itl K a).yld i H x f->g x b f λc h=>l {D with nx:=N,ct:=N,bk:=D.nx} c h):=by
 refine%[λi m b H=>m=xs.length-i/\i<=xs.length/\Pv i b H,%[xs.length,by simp,X1 _|o]|?_];rintro i m b H ⟨rfl,hi,p⟩;have q:=r i b H hi p;by_cases j:i<xs.length
 .refine .inr %[%[xs,xs[i],q|by simp],Pv _,λd f u=>%[xs.length-(i+1),⋯,rfl,j|u]|λx f y=>?_];obtain⟨e,y⟩:=y;subst e;exact s i x b _ (y xs q) p
 .have e:i=xs.length:=by lia
  subst e;exact .inl %[%[xs,q|Zh _]|t b H p]
theorem eL{lo:Int}{g:TG}{j:TS}{D:kj}(Pv:Nat->St->Hp->Prop)(o:Pv 0 a H)
 (q:∀i a H,i<n->Pv i a H->g (.int (lo+i)) a H λb h=>j {D with nx:=Pv (i+1),ct:=Pv (i+1),bk:=D.nx} b h) (r:∀a H,Pv n a H->D.nx a H):
 ∃W:Nat->Nat->St->Hp->Prop,(∃m,W 0 m a H)/\∀i m a H,W i m a H->
  ((Itr lo n).stop i H/\D.nx a H)\/((Itr lo n).go i H/\∃N:St->Hp->Prop,(∀c d,N c d->∃l,l<m/\W (i+1) l c d)/\∀x d,(Itr lo n).yld i H x d->g x a d λb h=>j {D with nx:=N,ct:=N,bk:=D.nx} b h):=by
 refine%[λi m a H=>m=n-i/\i<=n/\Pv i a H,%[n,by simp,X1 _|o]|?_];rintro i m a H ⟨rfl,hi,p⟩;by_cases f:i<n
 .refine .inr %[f,Pv _,λc d s=>%[n-(i+1),⋯,rfl,f|s]|λx d y=>?_];obtain⟨e,y⟩:=y;subst e y;exact q i a _ f p
 .have e:i=n:=by lia
  subst e;exact .inl %[Zh _|r a H p]
noncomputable abbrev R2:=V->V->Hp->VK->Prop
def OpR(X:Cx)(f:Value->Value->Sem Value)(r:R2):Prop:=
 ∀pins s (a:St) H x y v u Q,Inv X pins a H s->aN x v->aN y u->r x y H Q->
  (~~~X) (f v u) (EP X pins a Q) X.xe s
def UnR(X:Cx)(f:Value->Sem Value)(r:V->Hp->VK->Prop):Prop:=
 ∀pins s (a:St) H x v Q,Inv X pins a H s->aN x v->r x H Q->
  (~~~X) (f v) (EP X pins a Q) X.xe s
def bX(X:Cx)(f:Value)(r:List V->Hp->VK->Prop):Prop:=
 ∀pins s (a:St) H xs us Q,Inv X pins a H s->aH xs us->r xs H Q->
  (~~~X) (call f us) (EP X pins a Q) X.xe s
def TruR(X:Cx)(r:V->Hp->(Bool->Hp->Prop)->Prop):Prop:=
 ∀pins s (a:St) H x v Q,Inv X pins a H s->aN x v->r x H Q->
  (~~~X) (truthy v) (TP X pins a Q) X.xe s
def tOp(r:R2)(b c:TE):TE:=λa H Q=>b a H λx d=>c a d λy e=>r x y e Q
def tUn(r:V->Hp->VK->Prop)(a:TE):TE:=λb H Q=>a b H λx c=>r x c Q
def rI(C:Int->Int->Prop)(g:Int->Int->V):R2:=λx y H Q=>asI x λi=>asI y λj=>C i j/\Q (g i j) H
def rI0(g:Int->Int->V):R2:=λx y H Q=>asI x λi=>asI y λj=>Q (g i j) H
def rU(g:Int->V):V->Hp->VK->Prop:=λx H Q=>asI x λi=>Q (g i) H
section
variable{X:Cx}{a b c:Expr}{ta tb tc:TE}{pos:Pos}
theorem Dq(m:PE X a ta)(n:PE X b tb){pins:List _}{s:Shared}{d:St}{H:Hp}{R:V->V->Hp->Prop}(I:Inv X pins d H s)
 (h:ta d H λx l=>tb d l λy e=>R x y e) {Q:ZD} {f:Value->Value->Sem Value}
 (o:∀v u j x y e,Inv X pins d e j->aN x v->aN y u->R x y e->(~~~X) (f v u) Q X.xe j):
 (~~~X) (eval a X.env) (λv g=>(~~~X) (eval b X.env) (λu i=>(~~~X) (f v u) Q X.xe i) X.xe g) X.xe s:=by
 exact thP (m pins s d H _ I h) λv p x l q r t=>thP (n pins p d l _ q t) λu j y e w z A=>o v u j x y e w r z A
theorem Ft{r:R2}(d:OpR X (binaryOp op) r)(e:PE X a ta)(f:PE X b tb):PE X (.BinOp a op b pos) (tOp r ta tb):=by
 intro pins s g H Q I h;exact wpAny_BinOp (Dq e f I h λv u i x y j l m n q=>d pins i g j x y v u Q l m n q)
theorem Fu(e:UnR X (unaryOp op) r)(f:PE X a ta):PE X (.UnaryOp op a pos) (tUn r ta):=by
 intro pins s d H Q I h;exact UnaryOp_ (thP (f pins s d H _ I h) λv g x i j l m=>e pins g d i x v Q j l m)
theorem opI{f:Value->Value->Sem Value}{C:Int->Int->Prop}{g:Int->Int->Int}
 (rule:∀i j t u s Q E,C i j->Q (.int (g i j) s.toks) {s with toks:=s.toks+1}->(~~~X) (f (.int i t) (.int j u)) Q E s):
 OpR X f (rI C λi j=> .int (g i j)):=by
 intro pins s n H x y v u Q I d e h;obtain⟨i,rfl,l⟩:=iw h;obtain⟨j,rfl,m,q⟩:=iw l;obtain⟨t,rfl⟩:=d;obtain⟨t',rfl⟩:=e;exact rule i j t t' s _ _ m %[.int _,H,I.tok _,%[_|rfl]|q]
theorem Fv{g:Int->Int->Int}
 (rule:∀(i j:Int) (t u:Tok) (s:Shared) (Q:ZD) (E:ZD),Q (.int (g i j) s.toks) {s with toks:=s.toks+1}->(~~~X) (f (.int i t) (.int j u)) Q E s):
 OpR X f (rI0 λi j=> .int (g i j)):=by
 intro pins s m H x y v u Q I d e h;obtain⟨i,rfl,l⟩:=iw h;obtain⟨j,rfl,q⟩:=iw l;obtain⟨t,rfl⟩:=d;obtain⟨t',rfl⟩:=e;exact rule i j t t' s _ _ %[.int _,H,I.tok _,%[_|rfl]|q]
theorem Dr{g:Int->Int->Bool}
 (rule:∀(i j:Int) (t u:Tok) (s:Shared) (Q:ZD) (E:ZD),Q (.bool (g i j)) s->(~~~X) (f (.int i t) (.int j u)) Q E s):
 OpR X f (rI0 λi j=> .bl (g i j)):=by
 intro pins s m H x y v u Q I d e h;obtain⟨i,rfl,l⟩:=iw h;obtain⟨j,rfl,q⟩:=iw l;obtain⟨t,rfl⟩:=d;obtain⟨t',rfl⟩:=e;exact rule i j t t' s _ _ %[.bl _,H,I,rfl|q]
def Fw(i j:Int):Prop:=0<j/\j<1073741824
def yB(i j:Int):Prop:=(-(2^64)<i/\i<2^64)\/(-(2^64)<j/\j<2^64)
theorem yB.ok{i j:Int}(h:yB i j):IntMulOk i j:=by
 rcases h with⟨d,e⟩|⟨d,e⟩
 .exact .of_left (intBits_le_64 d e)
 .exact .of_right (intBits_le_64 d e)
theorem yC:OpR X (binaryOp .Add) (rI0 λi j=> .int (i+j)):=Fv λ_ _ _ _ _ _ _ q=>add_int q
theorem Ds:OpR X (binaryOp .Sub) (rI0 λi j=> .int (i-j)):=Fv λ_ _ _ _ _ _ _ q=>sub_int q
theorem yD:OpR X (binaryOp .Mult) (rI yB λi j=> .int (i*j)):=opI λ_ _ _ _ _ _ _ d q=>mul_int q d.ok
theorem A1:OpR X (binaryOp .FloorDiv) (rI Fw λi j=> .int (i/j)):=opI λi j _ _ _ _ _ d q=>by
 have e:(0:Int)<j:=d.1;have f:j<1073741824:=d.2;exact floordiv_int ⋯ (by rw[Int.fdiv_eq_ediv_of_nonneg i ⋯];exact q) (.inl (PyProof.noPylong_small ⋯))
theorem Dt:OpR X (binaryOp .Mod) (rI (λ_ j=>0<j) λi j=> .int (i%j)):=opI λi j _ _ _ _ _ d q=>by
 have e:(0:Int)<j:=d;exact mod_int' ⋯ (by rw[Int.fmod_eq_emod_of_nonneg i ⋯];exact q)
theorem unI{g:Int->Int}
 (rule:∀(i:Int) (t:Tok) (s:Shared) (Q:ZD) (E:ZD),Q (.int (g i) s.toks) {s with toks:=s.toks+1}->(~~~X) (f (.int i t)) Q E s):
 UnR X f (rU λi=> .int (g i)):=by
 intro pins s e H x v Q I d h;obtain⟨i,rfl,q⟩:=iw h;obtain⟨t,rfl⟩:=d;exact rule i t s _ _ %[.int _,H,I.tok _,%[_|rfl]|q]
theorem Du:UnR X (unaryOp .USub) (rU λi=> .int (-i)):=unI λ_ _ _ _ _ q=>neg_int q
end
noncomputable def Dv:V->V->Bool
 | .non,.non=>true| .non,.int _=>true| .int _,.non=>true| .non,.bl _=>true| .bl _,.non=>true| .non,.str _=>true| .str _,.non=>true
 | .int _,.int _=>true| .bl _,.bl _=>true| .str _,.str _=>true| .byt _,.byt _=>true
 | .int _,.str _=>true| .str _,.int _=>true| .bl _,.str _=>true| .str _,.bl _=>true
 | _,_=>false
theorem zqD:(Dv .non .non=true)/\(∀j,Dv .non (.int j)=true)/\(∀i,Dv (.int i) .non=true)/\(∀j,Dv .non (.bl j)=true)/\(∀i,Dv (.bl i) .non=true)/\(∀j,Dv .non (.str j)=true)/\(∀i,Dv (.str i) .non=true)/\(∀i j,Dv (.int i) (.int j)=true)/\(∀i j,Dv (.bl i) (.bl j)=true)/\(∀i j,Dv (.str i) (.str j)=true)/\(∀i j,Dv (.byt i) (.byt j)=true)/\(∀i j,Dv (.int i) (.str j)=true)/\(∀i j,Dv (.str i) (.int j)=true)/\(∀i j,Dv (.bl i) (.str j)=true)/\(∀i j,Dv (.str i) (.bl j)=true):=by and_intros<;> intros<;> rfl
def rEq:R2:=λx y H Q=>Dv x y=true/\Q (.bl (decide (x=y))) H
def rNe:R2:=λx y H Q=>Dv x y=true/\Q (.bl (!decide (x=y))) H
theorem vo:decide (V.int i=V.int j)=(i==j):=by
 rw[Bool.eq_iff_iff];simp
theorem yE:decide (V.bl i=V.bl j)=(i==j):=by
 rw[Bool.eq_iff_iff];simp
theorem vp:decide (V.str i=V.str j)=(i==j):=by
 rw[Bool.eq_iff_iff];simp
theorem vq:decide (V.byt i=V.byt j)=(i.toList==j.toList):=by
 rw[Bool.eq_iff_iff]
 simp_all
section
variable{X:Cx}{a b c:Expr}{ta tb tc:TE}{pos:Pos}
theorem aT(I:Inv X pins d H s)(q:Q (.bl k) H)(e:k=f):EP X pins d Q (.bool f) s:=by
 subst e;exact%[.bl k,H,I,rfl|q]
theorem Fx:OpR X (compareOp .Eq) rEq:=by
 intro pins s g H x y v u Q I f d h;obtain⟨e,q⟩:=h;cases x with
 | non=>
   cases f;cases y with
   | non=>cases d;exact PySem.EqNone.eq_none_none (aT I q ∅)
   | bl j=>cases d;exact PySem.EqNone.eq_none_bool (aT I q ∅)
   | int j=>obtain⟨t',rfl⟩:=d;exact PySem.EqNone.eq_none_int (aT I q ∅)
   | str j=>obtain⟨t',rfl⟩:=d;exact PySem.EqNone.eq_none_str (aT I q ∅)
   | _=>exact absurd (show false=true from e) Zs
 | bl i=>
   cases f;cases y with
   | non=>cases d;exact PySem.EqNone.eq_bool_none (aT I q ∅)
   | bl j=>cases d;exact eq_bool (aT I q yE)
   | str j=>obtain⟨t',rfl⟩:=d;exact PySem.EqMixed.eq_bool_str (aT I q ∅)
   | _=>exact absurd (show false=true from e) Zs
 | int i=>
   obtain⟨t,rfl⟩:=f;cases y with
   | non=>cases d;exact PySem.EqNone.eq_int_none (aT I q ∅)
   | int j=>obtain⟨t',rfl⟩:=d;exact eq_int (aT I q vo)
   | str j=>obtain⟨t',rfl⟩:=d;exact PySem.EqMixed.eq_int_str (aT I q ∅)
   | _=>exact absurd (show false=true from e) Zs
 | str i=>
   obtain⟨t,rfl⟩:=f;cases y with
   | non=>cases d;exact PySem.EqNone.eq_str_none (aT I q ∅)
   | bl j=>cases d;exact PySem.EqMixed.eq_str_bool (aT I q ∅)
   | int j=>obtain⟨t',rfl⟩:=d;exact PySem.EqMixed.eq_str_int (aT I q ∅)
   | str j=>obtain⟨t',rfl⟩:=d;exact eq_str (aT I q vp)
   | _=>exact absurd (show false=true from e) Zs
 | byt i=>
   obtain⟨t,rfl⟩:=f;cases y with
   | byt j=>obtain⟨t',rfl⟩:=d;exact PySem.W.eq_bytes (aT I q vq)
   | _=>exact absurd (show false=true from e) Zs
 | _=>cases y<;> exact absurd (show false=true from e) Zs
theorem Fy:OpR X (compareOp .NotEq) rNe:=by
 intro pins s g H x y v u Q I f d h;obtain⟨e,q⟩:=h;cases x with
 | non=>
   cases f;cases y with
   | non=>cases d;exact PySem.EqNone.ne_none_none (aT I q ∅)
   | bl j=>cases d;exact PySem.EqNone.ne_none_bool (aT I q ∅)
   | int j=>obtain⟨t',rfl⟩:=d;exact PySem.EqNone.ne_none_int (aT I q ∅)
   | str j=>obtain⟨t',rfl⟩:=d;exact PySem.EqNone.ne_none_str (aT I q ∅)
   | _=>exact absurd (show false=true from e) Zs
 | bl i=>
   cases f;cases y with
   | non=>cases d;exact PySem.EqNone.ne_bool_none (aT I q ∅)
   | bl j=>cases d;exact ne_bool (aT I q (congrArg not yE))
   | str j=>obtain⟨t',rfl⟩:=d;exact PySem.EqMixed.ne_bool_str (aT I q ∅)
   | _=>exact absurd (show false=true from e) Zs
 | int i=>
   obtain⟨t,rfl⟩:=f;cases y with
   | non=>cases d;exact PySem.EqNone.ne_int_none (aT I q ∅)
   | int j=>obtain⟨t',rfl⟩:=d;exact ne_int (aT I q (congrArg not vo))
   | str j=>obtain⟨t',rfl⟩:=d;exact PySem.EqMixed.ne_int_str (aT I q ∅)
   | _=>exact absurd (show false=true from e) Zs
 | str i=>
   obtain⟨t,rfl⟩:=f;cases y with
   | non=>cases d;exact PySem.EqNone.ne_str_none (aT I q ∅)
   | bl j=>cases d;exact PySem.EqMixed.ne_str_bool (aT I q ∅)
   | int j=>obtain⟨t',rfl⟩:=d;exact PySem.EqMixed.ne_str_int (aT I q ∅)
   | str j=>obtain⟨t',rfl⟩:=d;exact ne_str (aT I q (congrArg not vp))
   | _=>exact absurd (show false=true from e) Zs
 | byt i=>
   obtain⟨t,rfl⟩:=f;cases y with
   | byt j=>obtain⟨t',rfl⟩:=d;exact PySem.W.ne_bytes (aT I q (congrArg not vq))
   | _=>exact absurd (show false=true from e) Zs
 | _=>cases y<;> exact absurd (show false=true from e) Zs
theorem Fz:OpR X (compareOp .Lt) (rI0 λi j=> .bl (decide (i<j))):=Dr λ_ _ _ _ _ _ _ q=>lt_int q
theorem FA:OpR X (compareOp .LtE) (rI0 λi j=> .bl (decide (i<=j))):=Dr λ_ _ _ _ _ _ _ q=>le_int q
theorem FB:OpR X (compareOp .Gt) (rI0 λi j=> .bl (decide (j<i))):=Dr λ_ _ _ _ _ _ _ q=>gt_int q
theorem v9:OpR X (compareOp .In) (λx y H Q=>∃i j,x= .str i/\y= .str j/\Q (.bl (!(Builtin.Str.occurrences j i 0 j.length 1).isEmpty)) H):=by
 intro pins s f H x y v u Q I d e h;obtain⟨i,j,rfl,rfl,q⟩:=h;obtain⟨t,rfl⟩:=d;obtain⟨t',rfl⟩:=e;exact in_str (aT I q rfl)
theorem Dw:OpR X (compareOp .Is) (λx y H Q=>y= .non/\Q (.bl (decide (x= .non))) H):=by
 intro pins s f H x y v u Q I d e h;obtain⟨rfl,q⟩:=h;cases e;refine is_none_gen (aT I q ?_);cases x<;> first
  | lia
  |(obtain⟨t,rfl⟩:=d;rfl)
theorem A2:OpR X (compareOp .IsNot) (λx y H Q=>y= .non/\Q (.bl (!decide (x= .non))) H):=by
 intro pins s f H x y v u Q I d e h;obtain⟨rfl,q⟩:=h;cases e;refine isnot_none_gen (aT I q ?_);cases x<;> first
  | lia
  |(obtain⟨t,rfl⟩:=d;rfl)
theorem OpR.or(h:OpR X f r)(h':OpR X f i):OpR X f (λx y H Q=>r x y H Q\/i x y H Q):=by
 intro pins s d H x y v u Q I e g q;rcases q with q|q
 .exact h pins s d H x y v u Q I e g q
 .exact h' pins s d H x y v u Q I e g q
theorem nomark(b:Expr)(h:op≠ .In)(f:op≠ .NotIn):behindInMarks op b=false:=by
 have d:(op==CmpOp.In)=false:=by lia
 have e:(op==CmpOp.NotIn)=false:=by lia
 cases b<;> simp[behindInMarks,d,e]
theorem A3{r:R2}(d:OpR X (compareOp op) r)(e:PE X a ta)(f:PE X b tb)(g:behindInMarks op b=false):PE X (.Compare a [op] [b] pos) (tOp r ta tb):=by
 intro pins s i H Q I h;exact wpAny_Compare1 (Dq e f I h λv u j x y l m n o q=>d pins j i l x y v u Q m n o q) g
def yF(t:TE):TT:=λd H Q=>t d H λx e=>asB x λk=>Q k e
theorem A4(f:OpR X (compareOp op) r)(g:PE X a ta)(i:PE X b tb)(j:behindInMarks op b=false):PT X (.Compare a [op] [b] pos) (yF (tOp r ta tb)):=by
 intro pins s d H Q I h;refine wpAny_isTrue_Compare1 (thP (g pins s d H _ I h) λv l x m n o p=>thP (i pins l d m _ n p) λu q y t w A B=>
  thP (f pins q d t x y v u _ w o A B) λc J z C E G e=>?_) j
 obtain⟨k,rfl,e⟩:=oM e;cases G;exact wpAny_truthy_bool %[C,E|e]
def tM(r f:R2)(ta tb tc:TE):TE:=λd H Q=>ta d H λx g=>tb d g λy h=>r x y h λz e=>asB z λk=>
 (if k=true then tc d e λi j=>f y i j Q else Q (.bl false) e)
theorem yG(n:OpR X (compareOp op) r)(i:OpR X (compareOp e) o)(p:PE X a ta)(q:PE X b tb)(t:PE X c tc)
 (w:lastMarks [op,e] [b,c]=false):PE X (.Compare a [op,e] [b,c] pos) (tM r o ta tb tc):=by
 intro pins s f H Q I h;refine Compare_chain (thP (p pins s f H _ I h) λv A x B C E G=>chain_link (thP (q pins A f B _ C G) λu J y L M j N=>
  thP (n pins J f L x y v u _ M E j N) λd O z l m T g=>?_)) w
 obtain⟨k,rfl,g⟩:=oM g;cases T;refine wpAny_truthy_bool ?_;cases k with
 | false=>exact ite_ff %[.bl false,l,m,rfl|g]
 | true=>exact ite_tt (chain_last (thP (t pins O f l _ m g) λU Y z' H4 I4 r4 q4=>i pins Y f H4 y z' u U Q I4 j r4 q4))
def yH(K:ZA)(x:V)(H:Hp)(k:Bool):Prop:=
 match x with
 | .non=>k=false
 | .bl b=>k=b
 | .int i=>k=(i != 0)
 | .str y=>y.length<=sizeLine/\k=((y.length:Int) != 0)
 | .byt y=>y.size<=sizeLine/\k=((y.size:Int) != 0)
 | .ref p=>(∃xs,SqL K H p xs/\k=!xs.isEmpty)\/(∃xs,SqT K H p xs/\k=!xs.isEmpty)\/∃d,H p=some (.dK d)/\k=!d.isEmpty
 | _=>False
theorem tN{e:Type}{d:List (e×V)}{vs:List _}(r:KV d vs):(!vs.isEmpty)=!d.isEmpty:=by
 cases r<;> rfl
theorem my(r:aH xs its):(!its.toArray.isEmpty)=!xs.isEmpty:=by
 cases r<;> simp
theorem p7:sizeLine<2^63:=by decide
theorem Dx:TruR X (λx H Q=>∃k,yH X.K x H k/\Q k H):=by
 intro pins s w H x v Q I j h;obtain⟨k,e,q⟩:=h;have z:=p7;have A:sizeLine=16777216:=sizeLine_eq;cases x with
 | non=>
   cases j;have d:k=false:=e;subst d;exact truthy_none %[H,I|q]
 | bl b=>
   cases j;have d:k=b:=e;subst d;exact wpAny_truthy_bool %[H,I|q]
 | int i=>
   obtain⟨t,rfl⟩:=j;have d:k=(i != 0):=e;subst d;exact PySem.P.truthy_int %[H,I|q]
 | str y=>
   obtain⟨t,rfl⟩:=j;obtain⟨o,d⟩:y.length<=sizeLine/\k=((y.length:Int) != 0):=e;subst d;exact PySem.P.truthy_str ⋯ %[H,I.tok _|q]
 | byt y=>
   obtain⟨t,rfl⟩:=j;obtain⟨o,d⟩:y.size<=sizeLine/\k=((y.size:Int) != 0):=e;subst d;exact PySem.W.truthy_bytes ⋯ %[H,I.tok _|q]
 | ref p=>
   cases j;have d:(∃xs,SqL X.K H p xs/\k=!xs.isEmpty)\/(∃xs,SqT X.K H p xs/\k=!xs.isEmpty)\/∃f,H p=some (.dK f)/\k=!f.isEmpty:=e;rcases d with⟨xs,l,d⟩|⟨xs,l,d⟩|⟨f,l,d⟩
   .subst d;obtain⟨its,r,pl,n⟩:=I.list l;have g:=r.length;exact wpAny_truthy_list pl.isList (by simp only[Zo];lia) %[H,I.tok _|(my r)▸q]
   .subst d;obtain⟨its,r,pl,n⟩:=I.tuple l;have g:=r.length;exact truthy_tuple pl (by simp only[Zo];lia) %[H,I.tok _|(my r)▸q]
   .subst d;obtain⟨n,u,vs,r,m⟩:f.length<=sizeLine/\(p==sysModules)=false/\∃vs,KV f vs/\s.heap.DictOf (aM X.prog X.w) p vs:=I.hok p _ l;have g:f.length=vs.length:=Paired.length r;exact wpAny_truthy_dict u m ⋯ %[H,I.tok _|(tN r)▸q]
 | _=>exact(show False from e).elim
theorem yI(g:PE X a ta)(i:∀d,isTrue a X.env d=(do let v<-d;standAt a.pos;holding [v] (truthy v))):
 PT X a (λe H Q=>ta e H λx f=>∃k,yH X.K x f k/\Q k f):=by
 intro pins s e H Q I h;exact isTrue_plain (thP (g pins s e H _ I h) λv j x l m n o=>Dx pins j e l x v Q m n o) (i _)
theorem tO:OpR X (binaryOp .Add) (λx y H Q=>∃i j,x= .str i/\y= .str j/\i.length+j.length<=sizeLine/\Q (.str (i++j)) H):=by
 intro pins s g H x y v u Q I d e h;obtain⟨i,j,rfl,rfl,f,q⟩:=h;obtain⟨t,rfl⟩:=d;obtain⟨t',rfl⟩:=e;exact add_str (λt' tk=>%[.str _,H,I.tok _,%[_|rfl]|q]) f
theorem cI(r:aH [x] us):∃u,us=[u]/\aN x u:=by
 cases r with
 | cons d e=>cases e;exact%[_,rfl|d]
theorem jj(r:aH [x,y] us):∃u d,us=[u,d]/\aN x u/\aN y d:=by
 cases r with
 | cons e f=>
   cases f with
   | cons g h=>cases h;exact%[_,_,rfl,e|g]
theorem yJ:bX X (.builtin "abs") (λxs H Q=>∃i,xs=[.int i]/\Q (.int (if i<0 then -i else i)) H):=by
 intro pins s d H xs us Q I r h;obtain⟨i,rfl,q⟩:=h;obtain⟨u,rfl,t,rfl⟩:=cI r;exact call_abs_int λu tk=>%[.int _,H,I.tok _,%[_|rfl]|q]
theorem wa(e:X.calm=true):bX X (.builtin "max") (λxs H Q=>∃i j,xs=[.int i,.int j]/\Q (.int (if j>i then j else i)) H):=by
 intro pins s f H xs us Q I r h;obtain⟨i,j,rfl,q⟩:=h;obtain⟨u,g,rfl,⟨t,rfl⟩,t',rfl⟩:=jj r;refine max_two_ints (I.ok.hd e) λh' tk k=>%[_,H,I.kept k,?_|q]
 by_cases d:j>i
 .rw[if_pos d,if_pos d];exact%[_|rfl]
 .rw[if_neg d,if_neg d];exact%[_|rfl]
theorem wb(e:X.calm=true):bX X (.builtin "min") (λxs H Q=>∃i j,xs=[.int i,.int j]/\Q (.int (if j<i then j else i)) H):=by
 intro pins s f H xs us Q I r h;obtain⟨i,j,rfl,q⟩:=h;obtain⟨u,g,rfl,⟨t,rfl⟩,t',rfl⟩:=jj r;refine min_two_ints (I.ok.hd e) λh' tk k=>%[_,H,I.kept k,?_|q]
 by_cases d:j<i
 .rw[if_pos d,if_pos d];exact%[_|rfl]
 .rw[if_neg d,if_neg d];exact%[_|rfl]
theorem wc:bX X (.type "int") (λxs H Q=>(∃i,xs=[.int i]/\Q (.int i) H)\/∃k,xs=[.bl k]/\Q (.int (if k then 1 else 0)) H):=by
 intro pins s e H xs us Q I r h;rcases h with⟨i,rfl,q⟩|⟨k,rfl,q⟩
 .obtain⟨u,rfl,t,rfl⟩:=cI r;exact call_int_int %[.int i,H,I,%[_|rfl]|q]
 .obtain⟨u,rfl,d⟩:=cI r;cases d;exact call_int_bool %[.int _,H,I.tok _,%[_|rfl]|q]
def A5(K:ZA)(x:V)(H:Hp)(n:Nat):Prop:=
 match x with
 | .str y=>y.length<=sizeLine/\n=y.length
 | .byt y=>y.size<=sizeLine/\n=y.size
 | .ref p=>(∃xs,SqL K H p xs/\n=xs.length)\/∃xs,SqT K H p xs/\n=xs.length
 | _=>False
theorem yK:bX X (.builtin "len") (λxs H Q=>∃x n,xs=[x]/\A5 X.K x H n/\Q (.int n) H):=by
 intro pins s o H xs us Q I r h;obtain⟨x,n,rfl,e,q⟩:=h;obtain⟨u,rfl,g⟩:=cI r;have v:=sizeLine_eq;cases x with
 | str y=>
   obtain⟨t,rfl⟩:=g;obtain⟨l,f⟩:y.length<=sizeLine/\n=y.length:=e;subst f;exact len_str ⋯ %[.int _,H,I.tok _,%[_|rfl]|q]
 | byt y=>
   obtain⟨t,rfl⟩:=g;obtain⟨l,f⟩:y.size<=sizeLine/\n=y.size:=e;subst f;exact PySem.W.len_bytes ⋯ %[.int _,H,I.tok _,%[_|rfl]|q]
 | ref p=>
   cases g;have f:=e;rcases f with⟨xs,i,f⟩|⟨xs,i,f⟩
   .subst f;obtain⟨its,j,pl,m⟩:=I.list i;have d:=j.length;exact Calls.call_len_list pl.isList (by simp only[Zo];lia) %[.int xs.length,H,I.tok _,%[_|by simp only[Zo];rw[d]]|q]
   .subst f;obtain⟨its,j,pl,m⟩:=I.tuple i;have d:=j.length;exact len_tuple pl (by simp only[Zo];lia) %[.int xs.length,H,I.tok _,%[_|by simp only[Zo];rw[d]]|q]
 | _=>exact(e).elim
end
structure tP (h:Heap) (x dx C:Addr) (mA:ZC):Prop where
 obj:h.get? x=some (instObj C dx)
 ns:h.Ns1 dx mA
 ne:dx≠x
theorem we{h:Heap}{c:ZC}(n:h.Ns1 f c):∃d,h.get? f=some d/\∀name,lookIn name d=some (c name):=by
 obtain⟨o,es,p,g,i,j,_,l⟩:=n;refine%[o,g|λname=>?_];have e:=l name;unfold nsFind findBy at e;rw[<-Array.find?_toList]at e;unfold lookIn;rw[i];dsimp only
 split
 .rename_i y q
  rw[q]at e;exact congrArg some e
 .rename_i q
  rw[q]at e;have a:es.toList.any (·.refKey)=false:=by
   rw[List.any_eq_false];intro y m;obtain⟨z,t,b⟩:=j y (mem_toList_iff.mp m);simp[DictEntry.refKey,b]
  rw[if_neg (a▸Zs)];exact congrArg some e
theorem tP.look(I:tP h x b C c):∃a,PySem.W.InstAt h x (instObj C b) C (some a)/\∀name,lookIn name a=some (c name):=
 let⟨a,d,e⟩:=we I.ns
 %[a,%[I.obj,rfl,rfl|d]|e]
section
#where
variable{K:ZA}{x dx C f:Addr}{mA:ZC}{name:Str}{v:Value}
theorem A6(X:K.In s.heap)(I:tP s.heap x dx C mA)(c:plainGet K C name=true)(d:hasDictIn K C=true)
 (e:findIn K (.ref C) name=some none) (g:mA name=some v) (a:handedIn v=true) (h:Q v {s with toks:=s.toks+1}):
 ↥A (getAttr (.ref x) name b) Q E s:=by
 obtain⟨j,J,i⟩:=I.look;exact PySem.W.get_value X J (plainGet_of c).1 (PySem.W.findObj_own d e rfl (by rw[i,g])) a h
theorem yL(X:K.In s.heap)(I:tP s.heap x dx C mA)(a:plainGet K C name=true)
 (b:findIn K (.ref C) name=some (some (.ref f))) (c:isFn K (.ref f)=true) (d:mA name=none) (h:Q (.ref f,[.ref x]) s):
 ↥A (getMethod (.ref x) name pl) Q E s:=by
 obtain⟨e,J,g⟩:=I.look;exact PySem.W.method_fn X J (plainGet_of a).1 (plainGet_of a).2 b (beq_iff_eq.mp c) (by show(lookIn name e).map _=some false;rw[g,d];rfl) h
theorem A7(X:K.In s.heap)(I:tP s.heap x dx C mA)
 (j:findIn K (.ref C) "__setattr__"=some (some (.builtin "object.__setattr__"))) (l:plainOver K C=true) (m:takerIn K C name=some none) (n:hasDictIn K C=true)
 (hw:PySem.Within mA o) (p:o.length<=sizeLine)
 (h:∀h',tP h' x dx C (λy=>if y=name then some v else mA y)->SameBut dx s.heap h'->Q () {s with heap:=h',toks:=s.toks+2}):
 ↥A (setAttr (.ref x) name v) Q E s:=by
 obtain⟨u,J,z⟩:=I.look;refine PySem.W.set_plain X J j (PySem.W.osa_open X J l m λb=>?_);obtain⟨B,q,d⟩:=PySem.W.any_some n;refine Z2 (Z3 (Z2 (Z2 (wpAny_loadPart I.obj (Z2 (Looks.here (PySem.W.looks_clsIn X q) ?_))))));rw[d];refine Z3 (Z2 (Z3 (Z2 (wpAny_nsSet1 I.ns λh' a c=>?_))));obtain⟨G,r,t,e,g,i⟩:=a.count (PySem.Within.cons name v hw);exact Z2 (wpAny_lookBehind e (g▸pastItsLine_dict (Y9 i (by simp_all))) (Z3 (h _ %[(c.2 _ (Ne.symm I.ne)).trans I.obj,a|I.ne] c)))
theorem yM{R:Result->Shared->Prop}(X:K.In s.heap)(b:makesIn K C=true)
 (hi:findIn K (.ref C) "__init__"=some (some (.ref f))) (c:PySem.W.typeIn K (.ref f)=some (.type "function"))
 (h:codeAny (model prog w) (A.under (.builtin "type.__call__" %[.ref C::vs|a])) (.call (.ref f) %[.ref (⇑s+1)::vs|a]) (PySem.W.InitBack (⇑s+1) R)
  (s>>>(s.heap.push emptyDict).push (instObj C ⇑s))):
 codeAny (model prog w) A (.call (.ref C) %[vs|a]) R s:=by
 exact PySem.W.make_core (PySem.W.makes_of X b) (PySem.W.looks_findIn X hi) (λself=>PySem.W.bind_fn X self c) (.inl rfl) h
end
noncomputable def dw(f:Str)(v:V):List (Str×V)->List (Str×V)
 |[]=>[(f,v)]
 |(g,x)::r=>if g=f then(g,v)::r else(g,x)::dw f v r
theorem lw(f g:Str)(v:V):∀fs,(dw f v fs).lookup g=if g=f then some v else fs.lookup g
 |[]=>by
  show List.lookup g [(f,v)]=_;by_cases h:g=f
  .have a:=beq_iff_eq.mpr h;simp only[List.lookup,a,if_pos h]
  .have a:=beq_eq_false_iff_ne.mpr h;simp only[List.lookup,a,if_neg h]
 |(k,x)::r=>by
  rw[show dw f v _=(if k=f then(k,v)::r else(k,x)::dw f v r)from rfl];by_cases b:k=f
  .rw[if_pos b];by_cases h:g=k
   .have a:=beq_iff_eq.mpr h;simp only[List.lookup,a,if_pos (h.trans b)]
   .have a:=beq_eq_false_iff_ne.mpr h;simp only[List.lookup,a,if_neg (λe:g=f=>h (e.trans b.symm))]
  .rw[if_neg b];by_cases h:g=k
   .have a:=beq_iff_eq.mpr h;simp only[List.lookup,a,if_neg (λe=>b (h.symm.trans e))]
   .have a:=beq_eq_false_iff_ne.mpr h;simp only[List.lookup,a];exact(lw f g v r)
theorem km(f:Str)(v:V):∀fs:List (Str×V),f∈(dw f v fs).map (·.1)/\∀g,g∈fs.map (·.1)->g∈(dw f v fs).map (·.1)
 |[]=>%[by simp[dw]|λg h=>by simp at h]
 |(k,x)::r=>by
  obtain⟨a,b⟩:=km f v r;rw[show dw f v _=(if k=f then(k,v)::r else(k,x)::dw f v r)from rfl]
  grind
theorem lx(f:Str)(v:V):∀fs,(dw f v fs).length<=fs.length+1
 |[]=>by simp[dw]
 |(k,x)::r=>by
  have a:=lx f v r;rw[show dw f v _=(if k=f then(k,v)::r else(k,x)::dw f v r)from rfl];by_cases b:k=f
  .simp_all
  simp_all
theorem fV.some_of(r:fV (some v) o):∃u,o=some u/\aN v u:=by
 cases o with
 | none=>exact(r).elim
 | some u=>exact%[u,rfl|r]
theorem fV.none_of(r:fV none o):o=none:=by
 cases o with
 | none=>rfl
 | some u=>exact(r).elim
theorem wg(r:aN v u):handedIn u=true:=by
 cases v with
 | non=>cases(r);rfl
 | bl b=>cases(r);rfl
 | int i=>obtain⟨t,e⟩:=(r);cases e;rfl
 | str x=>obtain⟨t,e⟩:=(r);cases e;rfl
 | byt b=>obtain⟨t,e⟩:=(r);cases e;rfl
 | flt b=>obtain⟨t,e⟩:=(r);cases e;rfl
 | ref a=>cases(r);rfl
 | ty n=>cases(r);rfl
section
variable{P:Program}{w:World}{H H':Hp}{h h':Heap}{a C dx:Addr}{fs fs':List (Str×V)}
theorem lY(c:HOk P w H h)(e:H a=some (.ins C dx fs)):∃b,tP h a dx C b/\(∀f,fV (fs.lookup f) (b f))/\PySem.Within b (fs.map (·.1))/\fs.length<=1000/\H dx=some (.own a):=by
 obtain⟨d,z,g,i,b,n,r,q⟩:=(c a _ e)
 exact%[b,%[i,n|g],r,q,z|d]
end
structure Cls (K:ZA) (C:Addr):Prop where
 pg:plainGet K C Str.empty=true
 hd:hasDictIn K C=true
 po:plainOver K C=true
 sa:findIn K (.ref C) "__setattr__"=some (some (.builtin "object.__setattr__"))
theorem Cls.get{K:ZA}{C:Addr}(c:Cls K C)(f:Str):plainGet K C f=true:=c.pg
def fO(K:ZA)(C:Addr)(f:Str):Prop:=findIn K (.ref C) f=some none
theorem fO.taker{K:ZA}{C:Addr}{f:Str}(n:fO K C f):takerIn K C f=some none:=by
 unfold takerIn;rw[n];rfl
structure A8 (K:ZA) (C:Addr) (m:Str) (f:Addr):Prop where
 at_:findIn K (.ref C) m=some (some (.ref f))
 fn:isFn K (.ref f)=true
 kp:keepIn K (.ref f)=true
section
#version
variable{a C dx:Addr}{fs:List (Str×V)}{f:Str}{v:V}{A:Around}{E:ZD}
theorem tQ(I:Inv X pins σ H s)(e:H a=some (.ins C dx fs))(c:Cls X.K C)(n:fO X.K C f)(l:fs.lookup f=some v)
 (h:∀u s',Inv X pins σ H s'->aN v u->Q u s'):wpAny (model X.prog X.w) A (getAttr (.ref a) f b) Q E s:=by
 obtain⟨i,O,r,_,_,_⟩:=lY I.hok e;obtain⟨u,g,d⟩:=fV.some_of (l▸r f);exact A6 I.kIn O (c.get f) c.hd n g (wg d) (h u _ (I.tok _) d)
theorem tR(I:Inv X pins σ H s)(e:H a=some (.ins C dx fs))(c:Cls X.K C)(k:A8 X.K C m g)(l:fs.lookup m=none)
 (h:Q (.ref g,[.ref a]) s):wpAny (model X.prog X.w) A (getMethod (.ref a) m pl) Q E s:=by
 obtain⟨b,O,r,_,_,_⟩:=lY I.hok e;exact yL I.kIn O (c.get m) k.at_ k.fn (fV.none_of (l▸r m)) h
theorem tT(I:Inv X pins σ H s)(e:H a=some (.ins C dx fs))(c:Cls X.K C)(n:fO X.K C f)(G:fs.length<1000)(l:aN y u)
 (h:∀s',Inv X pins σ (upd H a (.ins C dx (dw f y fs))) s'->Q () s'):wpAny (model X.prog X.w) A (setAttr (.ref a) f u) Q E s:=by
 obtain⟨m,O,r,i,_,j⟩:=lY I.hok e;refine A7 I.kIn O c.sa c.po n.taker c.hd i (by rw[Z5,sizeLine_eq];lia) λh' d p=>h _ (I.write (e▸True.intro) (.inr j) (λb q t z=>(p.2 b t).trans z) (let⟨o,_,_,w,_⟩:=d.ns;%[o|w]) %[(am O.ne)▸j,?_,O.ne,d.obj,_,d.ns,λg=>?_|λg B=>?_])
 .have:=lx f y fs;lia
 .rw[lw];by_cases q:g=f
  .rw[if_pos q,if_pos q];exact l
  .rw[if_neg q,if_neg q];exact r g
 .by_cases q:g=f
  .exact q▸(km f y fs).1
  .refine(km f y fs).2 g (i g λz=>B ?_);show(if g=f then some u else m g)=none;rw[if_neg q];exact z
theorem Inv.made(I:Inv X pins σ H s):Inv X pins σ (upd (upd H ⇑s (.own (⇑s+1))) (⇑s+1) (.ins C ⇑s []))
 (s>>>(s.heap.push emptyDict).push (instObj C ⇑s)):=by
 have c:(s.heap.push emptyDict).get? ⇑s=some emptyDict:=Zi s.heap rfl;have g:=by
  have:=Zi (s.heap.push emptyDict) (o:=instObj C ⇑s) rfl;rwa[Zp]at this
 refine(I.laid (o:= .own (⇑s+1)) (t':=s.toks) (λb u q=>Z6 _ q) (Zh _) %[_|c]).laid (λb u q=>Z6 _ q) (Nat.le_of_eq (Zp _ _)) ?_;have d:⇑s≠⇑s+1:=Zr (Yh _);refine%[by rw[am d,aa],X1 _,d,g,λ_=>none,(Heap.Ns1.of_empty %[emptyDict,#[],_,c,rfl,(λe h=>absurd h ∅)|λ_=>rfl]).at λo q=>Z6 _ q,λ_=>True.intro|λy i=>absurd rfl i]
theorem A9(c:attributeBase e f env (eval e env)=eval e env)
 (h:↥A (eval e env) (λo b=>↥A (getAttr o f true) Q E b) E s):↥A (eval (.Attribute e f pos) env) Q E s:=
 Attribute_any_ h (by rw[arm_eval_Attribute,c])
end
def Dy(K:ZA)(c:TE)(f:Str):TE:=λd H Q=>c d H λx b=>∃a C e fs v,x= .ref a/\b a=some (.ins C e fs)/\Cls K C/\fO K C f/\fs.lookup f=some v/\Q v b
def Dz(K:ZA)(e g:TE)(f:Str):TS:=λD b H=>g b H λy h=>e b h λx c=>∃a C d fs,x= .ref a/\c a=some (.ins C d fs)/\Cls K C/\fO K C f/\fs.length<1000/\
 D.nx b (upd c a (.ins C d (dw f y fs)))
section
variable{X:Cx}{o e value:Expr}{f:Str}{pos pos' tpos:Pos}{ta tv:TE}
theorem DA(b:PE X e ta)(d:attributeBase e f X.env (eval e X.env)=eval e X.env):PE X (.Attribute e f pos) (Dy X.K ta f):=by
 intro pins s g H Q I h;refine A9 d (thP (b pins s g H _ I h) λu w x i j m ⟨a,C,y,fs,v,ex,p,c,n,l,q⟩=>?_);subst ex;obtain rfl:u=Value.ref a:=m;exact tQ j p c n l λz A r t=>%[v,i,r,t|q]
theorem DB(d:PE X o ta)(g:PE X value tv)(i:swapsWith value (some (.Attribute o f pos')) pos.line X.env=pure false):PS X (.Assign [.Attribute o f pos'] value pos) (Dz X.K ta tv f):=by
 intro pins s b H D I h;refine plainObj_wpAny_Assign_Attribute (thP (g pins s b H _ I h) λu j y m p r q=>thP (d pins j b m _ p q) λt E x G v w ⟨a,C,J,fs,ex,z,c,n,l,A⟩=>?_) i;subst ex;obtain rfl:t=Value.ref a:=w;exact tT v z c n l r λL B=>%[b,_,B|A]
end
section
#version
variable{A:Around}{E:ZD}{Q:ZD}{c:Value}{b:Bool}
inductive jo (K:ZA) (H:Hp):V->Value->Prop where
 | non:jo K H .non (.type "NoneType")
 | bl (x:Bool):jo K H (.bl x) (.type "bool")
 | int (i:Int):jo K H (.int i) (.type "int")
 | str (x:Str):jo K H (.str x) (.type "str")
 | flt (x:UInt64):jo K H (.flt x) (.type "float")
 | lst {a:Addr} {xs:List V} (e:H a=some (.lst xs)):jo K H (.ref a) (.type "list")
 | frz {a:Addr} {o:Obj} {xs:List V} (e:H a=some (.frz o (.lst xs))):jo K H (.ref a) (.type "list")
 | tup {a:Addr} {xs:List V} (e:H a=some (.tup xs)):jo K H (.ref a) (.type "tuple")
 | dK {a:Addr} {kvs:List _} (e:H a=some (.dK kvs)):jo K H (.ref a) (.type "dict")
 | dT {a:Addr} {kvs:List _} (e:H a=some (.dT kvs)):jo K H (.ref a) (.type "dict")
 | ins {a C dx:Addr} {fs:List _} (e:H a=some (.ins C dx fs)) (cl:Cls K C) (ha:findIn K (.ref C) "__class__"=some (some (.builtin "object.__class__")))
  (hn:PySem.W.specialIn K (.builtin "object.__class__") "__get__"=some (some (.builtin "getset_descriptor.__get__"))) (htk:PySem.W.takesIn K (.builtin "object.__class__")=some true)
  (hm:PySem.W.mroIn K C (.type "object")=some true):jo K H (.ref a) (.ref C)
theorem wj(I:Inv X pins σ H s)(d:aN x u)(ty:jo X.K H x t)(e:kitOne X.K t c=some b)(h:∀tk,Q (.bool b) {s with toks:=tk}):
 wpAny (model X.prog X.w) A (call (.builtin "isinstance") [u,c]) Q E s:=by
 cases ty with
 | non=>cases(d);exact kia_one PySem.W.kitx_none I.kIn True.intro e (λz=>nomatch z) h
 | bl y=>cases(d);exact kia_one PySem.W.kitx_bool I.kIn True.intro e (λz=>nomatch z) h
 | int i=>obtain⟨t,q⟩:=(d);cases q;exact kia_one PySem.W.kitx_int I.kIn True.intro e (λz=>nomatch z) h
 | str y=>obtain⟨t,q⟩:=(d);cases q;exact kia_one PySem.W.kitx_str I.kIn True.intro e (λz=>nomatch z) h
 | flt y=>obtain⟨t,q⟩:=(d);cases q;exact kia_one PySem.W.kitx_float I.kIn True.intro e (λz=>nomatch z) h
 | @lst a xs f=>
   cases(d);obtain⟨_,_,n,_,g⟩:=(I.hok a _ f)
   exact kia_one kitx_list I.kIn %[_,g|rfl] e (λz=>nomatch z) h
 | @frz a L xs f=>
   cases(d);obtain⟨_,_,_,n,_,g⟩:=(I.hok a _ f)
   exact kia_one kitx_list I.kIn %[_,g|rfl] e (λz=>nomatch z) h
 | @tup a xs f=>
   cases(d);obtain⟨_,_,_,p⟩:=(I.hok a _ f)
   obtain⟨o,g,j,_⟩:=p;exact kia_one PySem.W.kitx_tuple I.kIn %[o,g|j] e (λz=>nomatch z) h
 | @dK a l f=>
   cases(show u=Value.ref a from d);obtain⟨_,_,vs,_,p⟩:=(I.hok a _ f)
   obtain⟨o,es,v,g,j,_⟩:=p;exact kia_one kitx_dict I.kIn %[o,g|j.1] e (λz=>nomatch z) h
 | @dT a l f=>
   cases(show u=Value.ref a from d);obtain⟨_,_,xs,_,o,es,v,g,j,_⟩:=(I.hok a _ f)
   exact kia_one kitx_dict I.kIn %[o,g|j.1] e (λz=>nomatch z) h
 | @ins a C M fs f r w B m G=>
   cases(d);obtain⟨N,O,_⟩:=lY I.hok f;obtain⟨T,J,_⟩:=O.look;exact kia_one (PySem.W.kitx_own (r.get _) r.hd w B m G) I.kIn J e (λz=>nomatch z) h
end
structure bV (k:Nat) (A:Around):Prop where
 hd:A.handled=none
 dp:A.depth+3*k+5<recursionLimit
 un:A.units+16*k+200<cLine
 gd:A.guards=some []
theorem bV.mono(r:bV k A)(h:j<=k):bV j A:=%[r.hd,by have:=r.dp;lia,by have:=r.un;lia|r.gd]
theorem bV.deeper(r:bV (k+1) A)(env:Env):bV k (A.deeper env):=
 %[r.hd,by have:=r.dp;show A.depth+1+3*k+5<_;lia,by have:=r.un;show A.units+3+16*k+200<_;lia|r.gd]
theorem tU{A:Around}:(A.under (.builtin "type.__call__" %[.ref C::us|a])).depth=A.depth+1:=by
 first|rfl|lia
theorem tV{A:Around}:(A.under (.builtin "type.__call__" %[.ref C::us|a])).units=A.units+1:=by
 first|rfl|lia
theorem bV.make(r:bV (k+1) A)(C:Addr)(us:ZF)(a:List (Str×Value)):bV k (A.under (.builtin "type.__call__" %[.ref C::us|a])):=
 %[r.hd,by have:=r.dp;rw[tU];lia,by have:=r.un;rw[tV];lia|r.gd]
theorem bV.depth(r:bV k A):A.depth<recursionLimit:=by have:=r.dp;lia
theorem bV.units(r:bV k A):A.units+64<cLine:=by have:=r.un;lia
def tW:TA:=λ_ H Q=>Q [] H
def vt(b:TE)(c:TA):TA:=λa H Q=>b a H λx d=>c a d λxs e=>Q (x::xs) e
section
variable{X:Cx}{e:Expr}{es:List Expr}{te:TE}{t:TA}{pos:Pos}
theorem yN:PA X [] tW:=λ_ _ _ _ H Q I h=>Calls.spliced_nil %[[],H,I,.nil|h]
theorem vv(b:PE X e te)(c:PA X es t)(d:starEach (e::es) X.env=(false,eval e X.env)::starEach es X.env):PA X (e::es) (vt te t):=by
 intro pos pins s a H Q I h;rw[d];show wpAny _ _ (spliced ((false,eval e X.env)::backTo pos _)) _ _ s;exact Calls.spliced_cons (thP (b pins s a H _ I h) λu f x g i j l=>thP (c pos pins f a g _ i l) λus q xs m n o p=>%[x::xs,m,n,.cons j o|p])
def DC(t:TA):TE:=λb H Q=>t b H λxs a=>xs.length<=sizeLine/\∀p,a p=none->Q (.ref p) (upd a p (.tup xs))
def DD(t:TA):TE:=λb H Q=>t b H λxs a=>xs.length<=sizeLine/\∀p,a p=none->Q (.ref p) (upd a p (.lst xs))
theorem DE{d}(h:PA X es t):PE X (.Tuple es d pos) (DC t):=by
 intro pins s f H Q I g;refine wpAny_Tuple_spliced (thP (h pos pins s f H _ I g) λus a xs i c r ⟨z,q⟩=>%[r.length▸z|?_]);have j:=c.hok.fresh (Zh _);refine%[.ref ⇑a,upd i ⇑a _,c.laid (λb u e=>Z6 _ e) (Zh _) ?_,rfl|q _ j];exact%[z,us,r,_,Zi _ rfl,rfl,_|rfl]
theorem DF(h:PA X es t):PE X (.List es pos) (DD t):=by
 intro pins s d H Q I f;refine wpAny_List_spliced (thP (h pos pins s d H _ I f) λus a xs g c r ⟨z,q⟩=>%[r.length▸z|?_]);have i:=c.hok.fresh (Zh _);refine%[.ref ⇑a,upd g ⇑a _,c.laid (λb u e=>Z6 _ e) (Zh _) ?_,rfl|q _ i];exact%[z,us,0,r|Zi _ rfl]
end
noncomputable abbrev Sp:=List V->Hp->VK->XK->Prop
noncomputable abbrev CXT:=List Env->Hp->Shared->XK->Value->Shared->Prop
structure tX (P:Program) (w:World) (K:ZA) (mg:ZC) (base:Heap) (A:Around) (outer:List Env) (s:Shared) (H:Hp):Prop where
 frames:A.frames=some outer
 mod:Mod K mg base
 bs:∀b o,base.get? b=some o->s.heap.get? b=some o/\H b=none
 bsz:base.objs.size<=⇑s
 funs:s.heap.FunFrames base outer
 frf:∀b∈frs outer,H b=none
 hok:HOk P w H s.heap
 bare:AllBare s.gens
def CE(outer:List Env)(P:Program)(w:World)(H:Hp)(s:Shared)(Q:VK)(u:Value)(s':Shared):Prop:=
 ∃v a,s'.os=s.os/\AllBare s'.gens/\Un (frs outer) [] H a s.heap s'.heap/\HOk P w a s'.heap/\aN v u/\Q v a
def CR(CX:CXT)(outer:List Env)(P:Program)(w:World)(H:Hp)(s:Shared)(Q:VK)(E:XK)(r:Result)(s':Shared):Prop:=
 match r with
 | .ok (.ret u)=>CE outer P w H s Q u s'
 | .ok _=>False
 | .error e=>CX outer H s E e s'
structure eC (P:Program) (w:World) (K:ZA) (mg:ZC) (base:Heap) (CX:CXT) (k:Nat) (f:Addr) (fd:FuncData) (ps:ZB) (sp:Sp):Prop where
 len:∀vs H Q E,sp vs H Q E->vs.length=ps.length
 run:∀A outer s H args us vs Q E,bV k A->tX P w K mg base A outer s H->BindsTo s fd args (ps.zip us)->aH vs us->sp vs H Q E->
  codeAny (model P w) A (.call (.ref f) args) (CR CX outer P w H s Q E) s
theorem eC.imp{P:Program}{K:ZA}(F:eC P w K mg base CX k f b ps sp)
 (h:∀vs H Q E,a vs H Q E->sp vs H Q E):eC P w K mg base CX k f b ps a:=
 %[λvs H Q E q=>F.len vs H Q E (h _ _ _ _ q)|λA outer s H args us vs Q E c d e g i=>F.run A outer s H args us vs Q E c d e g (h _ _ _ _ i)]
theorem tX.make{P:Program}{K:ZA}(e:tX P w K mg base A outer s H)(C:Addr)(us:ZF)(a:List (Str×Value)):
 tX P w K mg base (A.under (.builtin "type.__call__" %[.ref C::us|a])) outer s H:=⟨by first|exact e.frames|lia,e.mod,e.bs,e.bsz,e.funs,e.frf,e.hok,e.bare⟩
section
variable{X:Cx}{pins:ZE}{σ:St}{H:Hp}{s s':Shared}
theorem Inv.env0(I:Inv X pins σ H s):tX X.prog X.w X.K X.mg X.base X.A X.stack s H:=
 %[I.ok.frames,I.ok.mod,I.bs,Y9 I.ok.bsz I.sz,I.stack,I.stkFree,I.hok|I.bare]
theorem Inv.after(I:Inv X pins σ H s)(h:CE X.stack X.prog X.w H s Q u s'):EP X pins σ Q u s':=by
 obtain⟨v,f,os,a,un,c,r,q⟩:=h;obtain⟨i,g,d,t,e⟩:=s';obtain rfl:e=s.os:=os;exact%[v,f,I.call un c a (λb z=>absurd z ∅),r|q]
end
def rE(sp:Sp)(dvs:List V)(E:XK)(t:TA):TE:=λa H Q=>t a H λvs b=>sp (vs++dvs) b Q E
def vw(C:Addr)(m:Str)(sp:Sp)(dvs:List V)(E:XK)(d:TE)(t:TA):TE:=λb H Q=>d b H λx c=>∃a e fs,x= .ref a/\c a=some (.ins C e fs)/\fs.lookup m=none/\
 t b c λvs f=>sp (x::(vs++dvs)) f Q E
def vy(C:Addr)(sp:Sp)(dvs:List V)(E:XK)(t:TA):TE:=λc H Q=>t c H λvs b=>∀x a,b x=none->b a=none->a≠x->
 sp (.ref x::(vs++dvs)) (upd (upd b a (.own x)) x (.ins C a [])) (λv d=>v= .non/\Q (.ref x) d) E
def fC(K:ZA)(a:FuncData)(ps:ZB)(ds:ZF):Prop:=
 ∀s us,K.In s.heap->(us++ds).length=ps.length->BindsTo s a %[us|[]] (ps.zip (us++ds))
theorem fC.all{K:ZA}(h:∀us:ZF,us.length=ps.length->bindArgs b %[us|[]]=pure (ps.zip us)):fC K b ps []:=λs us _ a=>by
 rw[Zw]at a ⊢;exact .of_eq (h us a)
def jp(CX:CXT)(X:Cx)(E:XK):Prop:=∀pins (a:St) H s e s',Inv X pins a H s->CX X.stack H s E e s'->X.xe e s'
section
variable{X:Cx}{CX:CXT}{k:Nat}{f C:Addr}{fd:FuncData}{ps:ZB}{sp:Sp}{dvs:List V}{ds:ZF}{E:XK}{x m:Str}{p pos apos:Pos}{e o:Expr}{es:List Expr}{ta:TE}{t:TA}
theorem yO(F:eC X.prog X.w X.K X.mg X.base CX k f fd ps sp)(d:bV k X.A)(g:fC X.K fd ps ds)(i:aH dvs ds)(j:jp CX X E)
 (I:Inv X pins b H s) (r:aH vs us) (h:sp (vs++dvs) H Q E):(~~~X) (call (.ref f) us) (EP X pins b Q) X.xe s:=by
 have c:=r.append i;refine wpAny_call (codeAny_mono (F.run X.A X.stack s H _ _ _ Q E d I.env0 (g s us I.kIn (c.length▸F.len _ _ _ _ h)) c h) λr s' a=>?_);cases r with
 | error e=>exact j pins b H s e s' I a
 | ok l=>
   cases l with
   | ret u=>exact I.after a
   | next=>exact False.elim a
   | brk=>exact False.elim a
   | cont=>exact False.elim a
theorem Ba(F:eC X.prog X.w X.K X.mg X.base CX k f fd ps sp)(d:bV k X.A)(g:Gl X x)(i:X.mg x=some (.ref f))(j:keepIn X.K (.ref f)=true)(l:fC X.K fd ps ds)(n:aH dvs ds)(u:jp CX X E)
 (v:PA X (e::es) t) (a:(x==("__debug__":Str))=false) (w:starEach (e::es) X.env=(false,eval e X.env)::starEach es X.env) (b:(backTo pos (starEach es X.env)).any (·.1)=false):
 PE X (.Call (.Name x p) (e::es) [] pos) (rE sp dvs E t):=by
 intro pins s y H Q I h;exact wpAny_Call_Name_kw (pX I g i (callWith_K I.ok.mod.kin j (thP (v pos pins s y H _ I h) λus z vs A c r q=>%[c.kIn|yO F d l n u c r q]) w b) a)
theorem yP(i:PE X o ta)(c:Cls X.K C)(d:A8 X.K C m f)(F:eC X.prog X.w X.K X.mg X.base CX k f fd ps sp)(j:bV k X.A)(n:fC X.K fd ps ds)(r:aH dvs ds)(v:jp CX X E)
 (w:eval (.Call (.Attribute o m apos) [] [] pos) X.env=(do
  let g<-eval o X.env
  standAt apos.atName
  let(f,first)<-holding [g] (getMethod g m pl)
  callWith pos f first (backTo pos (starEach [] X.env)) (backToKw pos (keywordEach [] X.env)))):
 PE X (.Call (.Attribute o m apos) [] [] pos) (vw C m sp dvs E ta tW):=by
 intro pins s y H Q I h;refine PySem.W.methodCall_KW (thP (i pins s y H _ I h) λu B x G b z ⟨a,J,fs,ex,A,l,q⟩=>?_) w;subst ex;obtain rfl:u=Value.ref a:=z;exact tR b A c d l (PySem.W.callWith_K0 b.kIn d.kp (yO (us:=[.ref a]) (vs:=[.ref a]) F j n r v b (.cons rfl .nil) q))
structure Mk (K:ZA) (C f:Addr):Prop where
 makes:makesIn K C=true
 init:findIn K (.ref C) "__init__"=some (some (.ref f))
 fn:isFn K (.ref f)=true
 kp:keepIn K (.ref C)=true
theorem yQ(M:Mk X.K C f)(F:eC X.prog X.w X.K X.mg X.base CX k f fd ps sp)(j:bV (k+1) X.A)(l:fC X.K fd ps ds)(n:aH dvs ds)
 (q:jp CX X E) (I:Inv X pins d H s) (r:aH vs us)
 (h:∀x b,H x=none->H b=none->b≠x->sp (.ref x::(vs++dvs)) (upd (upd H b (.own x)) x (.ins C b [])) (λv w=>v= .non/\Q (.ref x) w) E):
 (~~~X) (call (.ref C) us) (EP X pins d Q) X.xe s:=by
 have g:=h (⇑s+1) ⇑s (I.hok.fresh (Y8 _)) (I.hok.fresh (Zh _)) (Zr (Yh _));have c:=Inv.made (C:=C) I;have i:aH (V.ref (⇑s+1)::(vs++dvs)) _:= .cons rfl (r.append n);have y:=by
  have e:=i.length;rw[F.len _ _ _ _ g]at e;exact e.symm
 refine wpAny_call (yM I.kIn M.makes M.init (beq_iff_eq.mp M.fn) (codeAny_mono (F.run _ X.stack _ _ _ _ _ _ E (j.make C us [])
  (c.env0.make C us []) (l _ _ c.kIn y) i g) λr s' a=>?_))
 cases r with
 | error e=>exact q pins d _ _ e s' c a
 | ok z=>
   cases z with
   | ret u=>
     obtain⟨v,A,B,G,J,L⟩:=c.after a;subst J;exact%[G,V.ref _,A,B,rfl|L]
   | next=>exact False.elim a
   | brk=>exact False.elim a
   | cont=>exact False.elim a
theorem Bb(M:Mk X.K C f)(F:eC X.prog X.w X.K X.mg X.base CX k f fd ps sp)(d:bV (k+1) X.A)(g:Gl X x)(i:X.mg x=some (.ref C))(j:fC X.K fd ps ds)(l:aH dvs ds)(n:jp CX X E)
 (u:PA X (e::es) t) (a:(x==("__debug__":Str))=false) (v:starEach (e::es) X.env=(false,eval e X.env)::starEach es X.env) (b:(backTo pos (starEach es X.env)).any (·.1)=false):
 PE X (.Call (.Name x p) (e::es) [] pos) (vy C sp dvs E t):=by
 intro pins s w H Q I h;exact wpAny_Call_Name_kw (pX I g i (callWith_K I.ok.mod.kin M.kp (thP (u pos pins s w H _ I h) λus y vs z c r q=>%[c.kIn|yQ M F d j l n c r q]) v b) a)
end
def PK(X:Cx)(a:List Keyword)(t:TA):Prop:=
 ∀pos pins s (b:St) H Q,Inv X pins b H s->t b H Q->(~~~X) (evalAll ((backToKw pos (keywordEach a X.env)).map (·.2))) (AP X pins b Q) X.xe s
section
variable{X:Cx}{CX:CXT}{k:Nat}{f C:Addr}{fd:FuncData}{ps ks:ZB}{sp:Sp}{E:XK}{x m:Str}{p pos apos kpos:Pos}{e o:Expr}{es:List Expr}{kws:List Keyword}{te ta:TE}{t tk:TA}{nm:Option Str}
theorem DG:PK X [] tW:=λ_ _ _ _ H Q I h=>wpAny_evalAll_nil %[[],H,I,.nil|h]
theorem Bc(b:PE X e te)(c:PK X kws t):PK X (%[nm,e|kpos]::kws) (vt te t):=by
 intro pos pins s a H Q I h;show wpAny _ _ (evalAll ((do let v<-eval e X.env;standAt pos;pure v)::(backToKw pos (keywordEach kws X.env)).map (·.2))) _ _ s;refine wpAny_evalAll_cons (Z2 (thP (b pins s a H _ I h) λu d x g i j l=>Z2 (wpAny_standAt (Z3 ?_))));exact thP (c pos pins d a g _ i l) λus y xs n q r w=>%[x::xs,n,q,.cons j r|w]
variable{g:ZF->ZF->ZF}{gV:List V->List V->List V}
end
structure au (N P:ZB) (sc:Scope):Prop where
 kind:sc.kind= .function
 co:sc.isCoroutine=false
 gen:sc.isGenerator=false
 nd:N.Nodup
 pre:N.take P.length=P
 par:∀x∈P,sc.names.lookup x=some .local\/sc.names.lookup x=some .cell
 nofree:∀y∈sc.names,y.2≠ .free
theorem oO{kindOf:Str->Option NameKind}:∀{binds:List (Str×Value)} {m:ZC},(∀v,(x,v)∉binds)->bindL kindOf binds m x=m x
 |[],_,_=>rfl
 |(n,v)::r,m,h=>by
  unfold bindL;rw[oO λw hw=>h w (Zj _ hw)]
  split
  .have:x≠n:=by rintro rfl;exact h v Zl
   simp[this]
  .rfl
theorem oP{kindOf:Str->Option NameKind}:∀{binds:List (Str×Value)} {m:ZC},(∀v,(x,v)∉binds)->bindC kindOf binds m x=m x
 |[],_,_=>rfl
 |(n,v)::r,m,h=>by
  unfold bindC;rw[oP λw hw=>h w (Zj _ hw)]
  split
  .rfl
  .have:x≠n:=by rintro rfl;exact h v Zl
   simp[this]
theorem oQ{kindOf:Str->Option NameKind}{x:Str}:∀{P:ZB} {vs:ZF} {i:Nat} {m:ZC},P.Nodup->P[i]? =some x->vs[i]? =some v->kindOf x=some .local->
 bindL kindOf (P.zip vs) m x=some v
 |[],_,_,_,_,h,_,_=>by simp at h
 | _::_,[],_,_,_,_,h,_=>by simp at h
 | p::P,w::vs,0,m,nd,a,b,c=>by
   simp at a b;subst a;subst b;show bindL kindOf ((p,w)::P.zip vs) m p=_;unfold bindL;rw[oO λv d=>(nodup_cons.mp nd).1 (of_mem_zip d).1,if_pos c];simp
 | p::P,w::vs,i+1,m,nd,a,b,c=>by
   show bindL kindOf ((p,w)::P.zip vs) m x=_;exact oQ (nodup_cons.mp nd).2 (a) (b) c
theorem oR{kindOf:Str->Option NameKind}{x:Str}:∀{P:ZB} {vs:ZF} {i:Nat} {m:ZC},P.Nodup->P[i]? =some x->vs[i]? =some v->kindOf x≠some .local->
 bindC kindOf (P.zip vs) m x=some v
 |[],_,_,_,_,h,_,_=>by simp at h
 | _::_,[],_,_,_,_,h,_=>by simp at h
 | p::P,w::vs,0,m,nd,a,b,c=>by
   simp at a b;subst a;subst b;show bindC kindOf ((p,w)::P.zip vs) m p=_;unfold bindC;rw[oP λv d=>(nodup_cons.mp nd).1 (of_mem_zip d).1,if_neg c];simp
 | p::P,w::vs,i+1,m,nd,a,b,c=>by
   show bindC kindOf ((p,w)::P.zip vs) m x=_;exact oR (nodup_cons.mp nd).2 (a) (b) c
noncomputable def start(N:ZB)(vs:List V):St:=vs.map some++List.replicate (N.length-vs.length) none
noncomputable def p8(CX:CXT)(P:Program)(w:World)(K:ZA)(mg:ZC)(base:Heap)(N:ZB)(qual:Str)(scope:Scope)(f:Addr)(cd:Value)(A:Around)(outer:List Env)(s:Shared)(H:Hp)(E:XK):Cx where
 prog:=P
 w:=w
 K:=K
 mg:=mg
 base:=base
 A:=A.deeper (envOfC qual scope ⇑s f cd)
 N:=N
 s₀:=s
 H₀:=H
 env:=envOfC qual scope ⇑s f cd
 outer:=outer
 stack:=envOfC qual scope ⇑s f cd::outer
 ex:=[]
 calm:=true
 fn:=λ_=>true
 pn:=[]
 xe:=λe s'=>wpAny (model P w) (A.deeper (envOfC qual scope ⇑s f cd)) (leaving (envOfC qual scope ⇑s f cd) e) (λ_ s''=>CX outer H s E e s'') (λe' s''=>CX outer H s E e' s'') s'
theorem rF{a:Scope}{n:Nat}{x:Str}(h:a.names.lookup x=some .cell):∃c,(cellsFrom n a.names []).lookup x=some c:=by
 exact isSome_iff_exists.mp (cellsFrom_some a.names n [] (.inl h))
theorem wk{P:Program}{K:ZA}
 (S:au N ps a) (I:A.handled=none) (g:tX P w K mg base A outer s H) (Q:vs.length=ps.length) (r:aH vs us)
 (x:InCallC s ⇑s (bindL (envOfC d a ⇑s f B).kindOf (ps.zip us) λ_=>none) (cellsFrom (⇑s+1) a.names []) (bindC (envOfC d a ⇑s f B).kindOf (ps.zip us) λ_=>none) J):
 Inv (p8 CX P w K mg base N d a f B A outer s H E) [] (start N vs) H J:=by
 have L:ps.length<=N.length:=by have:=congrArg List.length S.pre;rw[Ye]at this;lia
 obtain⟨t,tk,rfl,C⟩:=x.done;have l:∀b,b∉(p8 CX P w K mg base N d a f B A outer s H E).ex:=λb z=>absurd (show b∈([])from z) ∅
 refine%[%[g.mod,S.kind,rfl,rfl,Zh _,λy z c t j=>?_,λy m=>?_,λy c _ h=>?_,λ_=>I,Around.frames_deeper g.frames,.inr %[rfl|rfl],λb z=>absurd z (l b),g.bs,g.bsz,λb _ _=>l b,λb z=>absurd z (l b),g.funs|g.frf],
  rfl,g.bare,Un.kept C,%[_,x.toInCall.ns|λi y v t j T=>?_],λy c h=>%[_|x.cell y c h],g.hok.fresh (Zh _),λy c h=>?_,λp n=>absurd (show p∈([])from n) ∅,g.hok.kept C|?_]
 .exact name_of_addr x.apart (PySem.mem_of_lookup t) (PySem.mem_of_lookup j)
 .rcases m with m|m
  .exact rF m
  .exact absurd rfl (S.nofree _ (PySem.mem_of_lookup m))
 .exact le_of_lt (x.above y c (PySem.mem_of_lookup h))
 .have hi:i<vs.length:=by
   unfold start at j;by_cases hi:i<vs.length
   .exact hi
   .rw[Y4 (by simpa using hi)]at j;rw[List.getElem?_replicate]at j
    split at j<;> cases j
  have M:vs[i]? =some v:=by
   unfold start at j;rw[Y3 (by simpa using hi),Zk]at j
   simp_all
  obtain⟨u,G,O⟩:=r.get M;have n:ps[i]? =some y:=by
   rw[<-S.pre,Y5 ⋯];exact t
  have o:ps.Nodup:=S.pre▸S.nd.sublist (List.take_sublist _ _);refine%[u,O|?_];rcases S.par y (Z7 n)with k|k
  .exact .inl %[k|oQ o n G k]
  .obtain⟨c,e⟩:=rF k;refine .inr %[.inl k,c,e|?_];have q:=x.cell y c e;rw[oR o n G (by show a.names.lookup y≠_;rw[k];decide)]at q;exact q
 .exact g.hok.fresh (le_of_lt (x.above y c (PySem.mem_of_lookup h)))
 .unfold start;show _=N.length;rw[Z8,Z5,List.length_replicate]
  lia
theorem FC{P:Program}{K:ZA}{T kV z U d ct oc:Value}
 (lk:K.lookup f=some %[oc,od,.func (fnOf name c g i a T kV z U an d ct)|ab]) (G:codeIn K d c=true) (S:au N ps a)
 (len:∀vs H Q E,sp vs H Q E->vs.length=ps.length)
 (l:∀(A:Around) (outer:List Env) (s:Shared) (H:Hp) (vs:List V) (Q:VK) (E:XK),bV k (A.deeper (envOfC c a ⇑s f d))->sp vs H Q E->
  ∃t,PSs (p8 CX P w K mg base N c a f d A outer s H E) i t/\t {nx:=λ_ j=>Q .non j,rt:=Q} (start N vs) H):
 eC P w K mg base CX (k+1) f (fnOf name c g i a T kV z U an d ct) ps sp:=by
 refine%[len|λA outer s H args us vs Q E L B hb r C=>?_];have Y:=B.mod.kin.keeps λb o e=>(B.bs b o e).1
 have M:=B.mod.nolimit.keeps λb o e=>(B.bs b o e).1
 have m:∀y∈ps.zip us,a.names.lookup y.1=some _\/(a.names.lookup y.1=some _/\((cellsFrom (⇑s+1) a.names []).lookup y.1).isSome=true):=λ⟨n,v⟩ hy=>by
  rcases S.par n (of_mem_zip hy).1 with q|q
  .exact .inl q
  .exact .inr %[q|cellsFrom_some _ _ _ (.inl q)]
 refine codeAny_call_function L.depth (Y _ _ lk) rfl S.co S.gen rfl (PySem.W.codeRec_of Y G) (hb _ _ _ _ (wpAny_newFunctionEnv_cells S.kind m λenv he s1 x=>?_));subst he;refine%[M.keeps x.toInCall.keep|codeAny_func ?_];obtain⟨t,ht,hq⟩:=l A outer s H vs Q E (L.deeper _) C;have I:Inv (p8 CX P w K mg base N c a f d A outer s H E) [] _ H s1:=wk S L.hd B (len _ _ _ _ C) r x;refine wpAny_mono (ht [] s1 _ H _ I hq) (λfl s' p=>?_) λe s' p=>p
 have fin:∀{h:St} {j:Hp} {v:V} {u:Value},Inv (p8 CX P w K mg base N c a f d A outer s H E) [] h j s'->aN v u->Q v j->CE outer P w H s Q u s':=
  λ{h j v u} J O q=>%[v,j,J.os,J.bare,J.base,J.hok,O|q]
 cases fl with
 | ret u=>
   obtain⟨v,h,j,J,O,q⟩:=p;exact fin J O q
 | next=>
   obtain⟨h,j,J,q⟩:=p;exact fin (v:=V.non) J rfl q
 | brk=>
   obtain⟨_,_,_,q⟩:=p
   simp_all
 | cont=>
   obtain⟨_,_,_,q⟩:=p;exact False.elim q
section
variable{X:Cx}{x:Str}{p pos:Pos}{e:Expr}{es:List Expr}{t:TA}{id T:String}{r:List V->Hp->VK->Prop}
def tCB(r:List V->Hp->VK->Prop)(t:TA):TE:=λa H Q=>t a H λvs b=>r vs b Q
theorem yR(d:bX X (.builtin id) r)(f:Gl X x)(g:X.mg x=none)(i:bootBuiltins x=some (.builtin id))(j:PA X (e::es) t)(l:x≠"__name__")(a:(x==("__debug__":Str))=false)
 (m:starEach (e::es) X.env=(false,eval e X.env)::starEach es X.env) (b:(backTo pos (starEach es X.env)).any (·.1)=false):PE X (.Call (.Name x p) (e::es) [] pos) (tCB r t):=by
 intro pins s c H Q I h;exact wpAny_Call_Name_kw (iz I f g i (PyProof.Rows.callWith_builtin1 (thP (j pos pins s c H _ I h) λus n vs o q u v=>d pins n c o vs us Q q u v) m b) l a)
theorem wo(d:bX X (.type T) r)(f:Gl X x)(g:X.mg x=none)(i:bootBuiltins x=some (.type T))(j:PA X (e::es) t)(l:x≠"__name__")(a:(x==("__debug__":Str))=false)
 (m:starEach (e::es) X.env=(false,eval e X.env)::starEach es X.env) (b:(backTo pos (starEach es X.env)).any (·.1)=false):PE X (.Call (.Name x p) (e::es) [] pos) (tCB r t):=by
 intro pins s c H Q I h;exact wpAny_Call_Name_kw (iz I f g i (PyProof.Rows.callWith_type1 (thP (j pos pins s c H _ I h) λus n vs o q u v=>d pins n c o vs us Q q u v) m b) l a)
end
end L2
namespace HT
open PySem PyProof.Rows
section
open PySem.SeqAt
open PySem.AutoSeq1 (wpAny_loadPart')
open PySem.MeetsSeq PySem.MeetsSeq2 PySem.MeetsSeq3
end
section
#where
noncomputable def sIx(n d:Nat):Option Int->Nat
 | none=>d
 | some v=>if v<0 then(v+n).toNat else min v.toNat n
theorem sIx_none(n d:Nat):sIx n d none=d:=rfl
theorem sIx_nat(n d k:Nat):sIx n d (some k)=min k n:=by
 show(if k<0 then((k:Int) +n).toNat else min _ n)=min k n;rw[if_neg ⋯,Int.toNat_natCast]
theorem vz(v:Int)(n d:Nat):(if v<0 then max (v+n) 0 else min v n)=((sIx n d (some v))):=by
 show(if v<0 then max _ 0 else min v n)=(((if v<0 then(v+n).toNat else min v.toNat n):Nat))
 grind
theorem tY(lo hi:Option Int)(n:Nat):Builtin.Slice.sliceAdjust lo hi 1 n=(((sIx n 0 lo):Int),((sIx n n hi):Int)):=by
 refine Prod.ext ?_ ?_
 .cases lo with
  | none=>rfl
  | some v=>exact vz v n 0
 .cases hi with
  | none=>rfl
  | some v=>exact vz v n n
theorem tZ(i j:Nat):Builtin.Slice.slicePlaces i j 1=j-i:=by
 unfold Builtin.Slice.slicePlaces;have a:(1:Int)>0:=by lia
 simp only[a,if_true,Int.ediv_one]
 split<;> lia
theorem mz(p:IsPart v o)(h:Q o s):↥A (Builtin.Slice.slicePartIndex v) Q E s:=by
 cases p with
 | none=>exact slicePart_none h
 | int i t=>exact slicePart_int h
theorem ko{lo hi:Option Int}{n:Nat}(c:s.heap.IsSliceOf d e f .none)(pl:IsPart e lo)(g:IsPart f hi)
 (h:Q (((sIx n 0 lo:Nat):Int),1,sIx n n hi-sIx n 0 lo) s):↥A (Builtin.Slice.sliceApplied (.ref d) (pure (n:Int))) Q E s:=by
 obtain⟨os,a,i,b⟩:=id c;refine Z2 (Z2 (wpAny_field a b rfl (Z2 (wpAny_field a b rfl (Z2 (wpAny_field a b rfl (Z3 (Z2 (slicePart_none (Z2 (mz pl (Z2 (mz g (Z2 (Z3 ?_)))))))))))))));show wpAny _ _ (match Builtin.Slice.sliceAdjust lo hi 1 n with|(lo,hi)=>pure (lo,(1:Int),Builtin.Slice.slicePlaces lo hi 1)) _ _ s;rw[tY lo hi n];show wpAny _ _ (pure _) _ _ s;rw[tZ];exact Z3 h
theorem yS(xs:ZI)(i k:Nat):((List.range k).filterMap λ(m:Nat)=>xs[((i:Int) +m*1).toNat]?).toArray=((xs.toList.drop i).take k).toArray:=by
 have e:(λ(m:Nat)=>xs[((i:Int) +m*1).toNat]?)=λm=>xs[i+m]? :=by
  funext m;have:((i:Int) +m*1).toNat=i+m:=by lia
  rw[this]
 rw[e];have:=pick_run xs i k;rw[List.filterMap_map]at this;have a:((λx=>xs[x]?) ∘ λx=>i+x)=λm=>xs[i+m]? :=rfl
 rw[a]at this;rw[this]
theorem getItem_tuple_cut{lo hi:Option Int}(c:IsTup s.heap t a)(g:s.heap.IsSliceOf i j l .none)(pl:IsPart j lo)(m:IsPart l hi)
 (hw: ¬ (sIx a.size 0 lo=0/\sIx a.size a.size hi=a.size))
 (h:Q (.ref ⇑s) {s with heap:=s.heap.push {cls:= .type "tuple",data:= .seq ((a.toList.drop (sIx a.size 0 lo)).take (sIx a.size a.size hi-sIx a.size 0 lo)).toArray}})
 (n:a.size<=sizeLine):↥A (getItem (.ref t) (.ref i)) Q E s:=by
 have b:sizeOk (.seq ((a.toList.drop (sIx a.size 0 lo)).take (sIx a.size a.size hi-sIx a.size 0 lo)).toArray):=by
  show((a.toList.drop _).take _).toArray.size<=sizeLine;rw[Zo,Ye,Ya,Za]
  lia
 obtain⟨os,d,e,o⟩:=id g;unfold getItem
 try with_reducible refine wpAny_holding ?_
 refine Z2 (wpAny_sequenceKey c.typeIs (by decide) ?_);refine Z2 (wpAny_callSpecial?_slot c.typeIs PyProof.Rows.slot_tuple_getitem
  (wpAny_call_entry PyProof.Rows.slot_tuple_getitem c.typeIs entry_tuple_getitem ?_ (args_tuple_getitem _ _)))
 show wpAny _ _ (Builtin.Tuple.tupleItemsOf _>>= _) _ _ s;refine Z2 (tupleItemsOf_ c (Z2 (wpAny_typeOf %[os,d|e] (Z2 (ko g pl m ?_)))));have f: ¬ ((((sIx a.size 0 lo):Int)==0&&(1:Int)==1&&(sIx a.size a.size hi-sIx a.size 0 lo)==a.size)=true):=by
  lia
 show wpAny _ _ (if(((sIx a.size 0 lo):Int)==0&&(1)==1&&(sIx a.size a.size hi-sIx a.size 0 lo)==a.size)=true then _ else _) _ _ s;rw[if_neg f,yS]
 first
  | exact Z2 (wpAny_newObj_type (Z3 ⟨_,rfl,Z3 h⟩) b)
  | lia
  | lia
  | lia
end
end HT
namespace L2
open PySem PySem.Spec PyProof.Rows
noncomputable abbrev TO:=St->Hp->(Option Int->Hp->Prop)->Prop
def PO(X:Cx)(e:Option Expr)(t:TO):Prop:=
 ∀pins s (a:St) H Q,Inv X pins a H s->t a H Q->
  (~~~X) (evalPart e X.env) (λu s'=>∃o b,Inv X pins a b s'/\IsPart u o/\Q o b) X.xe s
def p9:TO:=λ_ H Q=>Q none H
def yT(t:TE):TO:=λa H Q=>t a H λx b=>asI x λi=>Q (some i) b
section
variable{X:Cx}{e:Expr}{te:TE}{lo hi:Option Expr}{tl th:TO}{pos p2:Pos}
theorem Bd:PO X none p9:=by
 intro pins s a H Q I h;exact Z3 %[none,H,I,.none|h]
theorem Be(h:PE X e te):PO X (some e) (yT te):=by
 intro pins s a H Q I hw;refine thP (h pins s a H _ I hw) λu g x b c d f=>?_
 obtain⟨i,rfl,q⟩:=iw f;obtain⟨t,rfl⟩:=d;exact%[some i,b,c,.int i t|q]
def SlR(X:Cx)(r:V->Option Int->Option Int->Hp->VK->Prop):Prop:=
 ∀pins s (a:St) H x v b c lo hi d Q,Inv X pins a H s->aN x v->s.heap.IsSliceOf d b c .none->IsPart b lo->IsPart c hi->r x lo hi H Q->
  ∃T id,typeLookup (.type T) "__getitem__"=pure (some (.builtin id))/\s.TypeIs v T/\(~~~X) (getItem v (.ref d)) (EP X pins a Q) X.xe s
theorem SlR.or(h:SlR X r)(h':SlR X j):SlR X (λx lo hi H Q=>r x lo hi H Q\/j x lo hi H Q):=by
 intro pins s a H x v b c lo hi d Q I f g pl i q;rcases q with q|q
 .exact h pins s a H x v b c lo hi d Q I f g pl i q
 .exact h' pins s a H x v b c lo hi d Q I f g pl i q
def tSl(r:V->Option Int->Option Int->Hp->VK->Prop)(te:TE)(tl th:TO):TE:=λa H Q=>te a H λx b=>tl a b λl c=>th a c λu d=>r x l u d Q
theorem yU(c:SlR X r)(d:PE X e te)(f:PO X lo tl)(g:PO X hi th):PE X (.Subscript e (.Slice lo hi none p2) pos) (tSl r te tl th):=by
 intro pins s a H Q I h;refine Subscript_ (thP (d pins s a H _ I h) λv i x j m n o=>wpAny_Slice (thP (f pins i a j _ m o) λp t l w y pl z=>thP (g pins t a w _ y z) λA B u C E G J=>Z3 ?_));obtain⟨T,id,L,M,N⟩:=c pins _ a C x v p A l u ⇑B Q (E.kept λb O q=>Z6 _ q) n (Heap.IsSliceOf.new ..) pl G J;exact tail_any M L N (by with_unfolding_all rfl)
noncomputable def rG(xs:List V)(lo hi:Option Int):List V:=(xs.drop (HT.sIx xs.length 0 lo)).take (HT.sIx xs.length xs.length hi-HT.sIx xs.length 0 lo)
theorem lz(xs:List V)(lo hi:Option Int):(rG xs lo hi).length<=xs.length:=by
 unfold rG;rw[Ye,Ya]
 lia
def DH(K:ZA):V->Option Int->Option Int->Hp->VK->Prop:=λx lo hi H Q=>∃a xs,x= .ref a/\SqT K H a xs/\
 ¬ (HT.sIx xs.length 0 lo=0/\HT.sIx xs.length xs.length hi=xs.length)/\∀p,H p=none->Q (.ref p) (upd H p (.tup (rG xs lo hi)))
theorem DJ:SlR X (DH X.K):=by
 intro pins s m H x v n o lo hi p Q I g i pl j h;obtain⟨a,xs,rfl,l,hw,q⟩:=h;cases g;obtain⟨its,r,d,f⟩:=I.tuple l;have c:its.toArray.size=xs.length:=r.length.symm;refine%["tuple",_,PyProof.Rows.slot_tuple_getitem.lookup,d.typeIs|HT.getItem_tuple_cut d i pl j (c▸hw) ?_ (c▸f)];rw[c];refine%[.ref ⇑s,_,I.laid (λb t q=>Z6 _ q) (Zh _) ?_,rfl|q _ (I.hok.fresh (Zh _))];exact%[Y9 (lz xs lo hi) f,_,(r.drop _).take _|IsTup.new _ _]
end
noncomputable def ixN(n:Nat)(i:Int):Option Nat:=if 0<=i then(if i<n then some i.toNat else none)else if -n<=i then some (i+n).toNat else none
noncomputable def atI{a:Type}(xs:List a)(i:Int):Option a:=(ixN xs.length i).bind λj=>xs[j]?
theorem Bf(h:ixN n i=some j):seqIndex? i n=some j/\j<n/\ -(n:Int)<=i/\i<n:=by
 unfold ixN at h;by_cases b:0<=i
 .rw[if_pos b]at h;by_cases a:i<n
  .rw[if_pos a]at h;exact%[by rw[seqIndex_of b a,(Z9 h)],⋯,⋯|a]
  simp_all
 .rw[if_neg b]at h;by_cases a: -n<=i
  .rw[if_pos a]at h;exact%[by rw[seqIndex_neg ⋯ a,(Z9 h)],⋯,a|⋯]
  .rw[if_neg a]at h;cases h
theorem qc{a:Type}{xs:List a}{i:Int}{v:a}(h:atI xs i=some v):∃j,seqIndex? i xs.length=some j/\xs[j]? =some v/\j<xs.length/\ -xs.length<=i/\i<xs.length:=by
 unfold atI at h;cases e:ixN xs.length i with
 | none=>simp_all
 | some j=>
   rw[e]at h;obtain⟨b,c,d,f⟩:=Bf e;exact%[j,b,h,c,d|f]
theorem cF{a:Type}{xs:List a}{j:Nat}{v:a}(h:xs[j]? =some v):atI xs j=some v:=by
 have b:=(X7 h).1;have e:ixN xs.length j=some j:=by
  unfold ixN
  simp_all
 unfold atI;exact e▸h
theorem iA(xs:List a)(v:a):atI (xs++[v]) (-1)=some v:=by
 have b:(xs++[v]).length=xs.length+1:=by simp
 have e:ixN (xs++[v]).length (-1)=some xs.length:=by
  unfold ixN;rw[b,if_neg (by decide),if_pos ⋯]
  congr 1
  lia
 unfold atI
 simp_all
def lZ(b:Expr):Prop:=∀o i,subscripted b false o i=operate [o,i] (getItem o i)
def IxR(X:Cx)(r:R2):Prop:=
 ∀b a pins s (c:St) H x y v u Q,Inv X pins c H s->aN x v->aN y u->r x y H Q->
  subscripted a false v u=operate [v,u] (getItem v u)->(~~~X) (subscriptTail b a v u) (EP X pins c Q) X.xe s
def MtR(X:Cx)(id:String)(r:V->List V->Hp->VK->Prop):Prop:=
 ∀pins s (a:St) H x xs v us Q,Inv X pins a H s->aN x v->aH xs us->r x xs H Q->
  (~~~X) (call (.builtin id) (v::us)) (EP X pins a Q) X.xe s
section
variable{X:Cx}{a b:Expr}{ta tb:TE}{pos:Pos}
theorem yV(c:IxR X r)(d:PE X a ta)(e:PE X b tb)(f:lZ b):PE X (.Subscript a b pos) (tOp r ta tb):=by
 intro pins s g H Q I h;exact Subscript_ (Dq d e I h λv u i x y j l m n q=>c a b pins i g j x y v u Q l m n q (f _ _))
def DK(K:ZA):R2:=λx y H Q=>asR x λp=>asI y λi=>∃xs,SqL K H p xs/\∃v,atI xs i=some v/\Q v H
def DL(K:ZA):R2:=λx y H Q=>asR x λp=>asI y λi=>∃xs,SqT K H p xs/\∃v,atI xs i=some v/\Q v H
def DM:R2:=λx y H Q=>∃z i c,x= .str z/\y= .int i/\z.length<=sizeLine/\atI z.cps.toList i=some c/\Q (.str ⟨#[c]⟩) H
theorem Bg:IxR X (DK X.K):=by
 intro d e pins s A H x y v u Q I B C h m;obtain⟨p,rfl,f⟩:=eP h;obtain⟨i,rfl,xs,E,z,G,q⟩:=iw f;cases B;obtain⟨t,rfl⟩:=C;obtain⟨its,r,pl,N⟩:=I.list E;obtain⟨j,c,f,O,J,L⟩:=qc G;obtain⟨w,n,g⟩:=r.get f;have M:=r.length;have T:=p7;have fin:EP X pins A Q w s:=%[z,H,I,g|q]
 by_cases o:0<=i
 .have l:=by
   rw[seqIndex_of o L]at c;exact Z9 c
  exact item_listR pl.isList o ⋯ (by rw[l];simpa using n) fin m
 .have l:(i+its.toArray.size).toNat=j:=by
   rw[seqIndex_neg ⋯ J]at c;rw[Zo,<-M];exact Z9 c
  exact subscriptTail_builtinR pl.isList.typeIs slot_list_getitem.lookup
   (wpAny_getItem_list_neg pl.isList ⋯ (by simp_all) ⋯ (by rw[l];simpa using n) %[rfl|fin]) m
theorem DN:IxR X (DL X.K):=by
 intro c d pins s g H x y v u Q I l m h n;obtain⟨p,rfl,e⟩:=eP h;obtain⟨i,rfl,xs,o,z,A,q⟩:=iw e;cases l;obtain⟨t,rfl⟩:=m;obtain⟨its,r,pl,E⟩:=I.tuple o;obtain⟨j,B,e,G,J,L⟩:=qc A;obtain⟨w,C,f⟩:=r.get e;have M:=p7;have fin:EP X pins g Q w s:=%[z,H,I,f|q]
 exact subscriptTail_builtinR pl.typeIs slot_tuple_getitem.lookup
  (getItem_tuple pl ⋯ ⋯ (by rw[Zo,<-r.length];exact B) (by simpa using C) %[rfl|fin]) n
theorem DO:IxR X DM:=by
 intro d e pins s A H x y v u Q I g l h m;obtain⟨z,i,c,rfl,rfl,B,n,q⟩:=h;obtain⟨t,rfl⟩:=g;obtain⟨t',rfl⟩:=l;obtain⟨j,f,o,C,p,r⟩:=qc n;have w:z.cps.toList.length=z.length:=by simp[Str.length]
 rw[w]at f p r;have E:=p7;exact tail_any (typeIs_str s z t) slot_str_getitem.lookup (getItem_str (by
  lia) (by rw[f];simpa using o) %[.str _,H,I.tok _,%[_|rfl]|q]) m
theorem qd(lo hi:Option Int)(n:Nat):(sliceBounds lo hi none n).1=((HT.sIx n 0 lo:Nat):Int)/\(sliceBounds lo hi none n).2.1=((HT.sIx n n hi:Nat):Int)/\(sliceBounds lo hi none n).2.2=1:=by
 refine%[?_,?_|rfl]
 .cases lo with
  | none=>simp[sliceBounds,HT.sIx]
  | some i=>
    simp only[sliceBounds,HT.sIx,getD_none,show(1:Int)>0 by decide,if_true];by_cases h:i<0
    .simp only[h,if_true]<;> lia
    .simp only[h,if_false]<;> lia
 .cases hi with
  | none=>simp[sliceBounds,HT.sIx]
  | some i=>
    simp only[sliceBounds,HT.sIx,getD_none,show(1:Int)>0 by decide,if_true];by_cases h:i<0
    .simp only[h,if_true]<;> lia
    .simp only[h,if_false]<;> lia
theorem nW(its:ZF)(lo hi:Option Int):slicePick its.toArray lo hi none=((its.drop (HT.sIx its.length 0 lo)).take (HT.sIx its.length its.length hi-HT.sIx its.length 0 lo)).toArray:=by
 obtain⟨c,d,e⟩:=qd lo hi its.toArray.size;unfold slicePick;rw[c,d,e];simp only[sliceRange_one,pick_run]<;> rfl
def DP(K:ZA):V->Option Int->Option Int->Hp->VK->Prop:=λx lo hi H Q=>∃a xs,x= .ref a/\SqL K H a xs/\∀p,H p=none->Q (.ref p) (upd H p (.lst (rG xs lo hi)))
theorem Bh:SlR X (DP X.K):=by
 intro pins s l H x v m n lo hi o Q I e f pl g h;obtain⟨a,xs,rfl,i,q⟩:=h;cases e;obtain⟨its,r,d,j⟩:=I.list i;have c:=r.length;refine%["list",_,slot_list_getitem.lookup,d.isList.typeIs|wpAny_getItem_list_slice d.isList f pl g .none ∅ ?_ (by simp_all)];rw[nW,<-c];refine%[.ref ⇑s,_,I.laid (λb p q=>Z6 _ q) (Zh _) ?_,rfl|q _ (I.hok.fresh (Zh _))];exact%[Y9 (lz xs lo hi) j,_,0,(r.drop _).take _|Zi _ rfl]
noncomputable def fD:V->Bool
 | .non=>true
 | .bl _=>true
 | .int _=>true
 | .str _=>true
 | _=>false
noncomputable def eqV:V->V->Bool
 | .non,.non=>true
 | .bl a,.bl b=>a==b
 | .bl a,.int b=>(if a then 1 else 0)==b
 | .int a,.bl b=>a==(if b then 1 else 0)
 | .int a,.int b=>a==b
 | .str a,.str b=>a==b
 | _,_=>false
theorem DQ(d:aN y u)(c:aN x v)(f:fD y=true)(e:fD x=true):SeqAt.EqAt A s u v (eqV y x):=by
 cases y with
 | non=>
   cases d;cases x with
   | non=>cases c;exact SeqAt.EqAt.same _
   | bl b=>cases c;exact SeqAt.EqAt.none_bool b
   | int b=>obtain⟨t,rfl⟩:=c;exact SeqAt.EqAt.none_int b t
   | str b=>obtain⟨t,rfl⟩:=c;exact SeqAt.EqAt.none_str b t
   | _=>exact absurd (show false=true from e) Zs
 | bl a=>
   cases d;cases x with
   | non=>cases c;exact SeqAt.EqAt.bool_none a
   | bl b=>cases c;exact SeqAt.EqAt.bool_bool a b
   | int b=>obtain⟨t,rfl⟩:=c;exact SeqAt.EqAt.bool_int a b t
   | str b=>obtain⟨t,rfl⟩:=c;exact SeqAt.EqAt.bool_str a b t
   | _=>exact absurd (show false=true from e) Zs
 | int a=>
   obtain⟨t',rfl⟩:=d;cases x with
   | non=>cases c;exact SeqAt.EqAt.int_none a t'
   | bl b=>cases c;exact SeqAt.EqAt.int_bool a t' b
   | int b=>obtain⟨t,rfl⟩:=c;exact SeqAt.EqAt.int_int a t' b t
   | str b=>obtain⟨t,rfl⟩:=c;exact SeqAt.EqAt.int_str a t' b t
   | _=>exact absurd (show false=true from e) Zs
 | str a=>
   obtain⟨t',rfl⟩:=d;cases x with
   | non=>cases c;exact SeqAt.EqAt.str_none a t'
   | bl b=>cases c;exact SeqAt.EqAt.str_bool a t' b
   | int b=>obtain⟨t,rfl⟩:=c;exact SeqAt.EqAt.str_int a t' b t
   | str b=>obtain⟨t,rfl⟩:=c;exact SeqAt.EqAt.str_str a t' b t
   | _=>exact absurd (show false=true from e) Zs
 | _=>exact absurd (show false=true from f) Zs
noncomputable def eqU(x:V)(u:Value):Bool:=match u with
 | .none=>eqV .non x
 | .bool b=>eqV (.bl b) x
 | .int i _=>eqV (.int i) x
 | .str z _=>eqV (.str z) x
 | _=>false
theorem yX(r:aN y u)(f:fD y=true):eqU x u=eqV y x:=by
 cases y with
 | non=>cases r;rfl
 | bl b=>cases r;rfl
 | int i=>obtain⟨t,rfl⟩:=r;rfl
 | str z=>obtain⟨t,rfl⟩:=r;rfl
 | _=>exact absurd (show false=true from f) Zs
theorem jH:∀{xs:List V} {us:ZF},aH xs us->xs.all fD=true->us.any (eqU x)=xs.any λy=>eqV y x
 | _,_,.nil,_=>rfl
 | y::xs,u::us,.cons r t,f=>by
   rw[List.all_cons,Zu]at f;rw[Zv,Zv,yX r f.1,jH t f.2]
theorem iB(d:aN x v)(e:fD x=true):∀{xs:List V} {us:ZF},aH xs us->xs.all fD=true->∀u∈us,SeqAt.EqAt A s u v (eqU x u)
 | _,_,.nil,_=>λu c=>by cases c
 | y::xs,u::us,.cons r t,f=>λg c=>by
   rw[List.all_cons,Zu]at f;rcases mem_cons.mp c with rfl|c
   .rw[yX r f.1];exact DQ r d f.1 e
   .exact iB d e t f.2 g c
noncomputable def inV(x:V)(xs:List V):Bool:=xs.any λy=>eqV y x
def rIn(K:ZA)(c:Bool):R2:=λx y H Q=>∃p xs,y= .ref p/\(SqL K H p xs\/SqT K H p xs)/\fD x=true/\xs.all fD=true/\Q (.bl (if c then !inV x xs else inV x xs)) H
theorem wp:OpR X (compareOp .In) (rIn X.K false):=by
 intro pins s i H x y v u Q I d f h;obtain⟨p,xs,rfl,c,e,fs,q⟩:=h;cases f;rcases c with c|c
 .obtain⟨its,r,pl,g⟩:=I.list c;refine SeqAt.in_listAt _ pl.isList (λw hw=>iB d e r fs w (by simpa using hw)) %[.bl _,H,I,rfl|?_];rw[show its.toArray.any _=its.any (eqU x) by simp,jH r fs];exact q
 .obtain⟨its,r,pl,g⟩:=I.tuple c;refine SeqAt.in_tupleAt _ pl (λw hw=>iB d e r fs w (by simpa using hw)) %[.bl _,H,I,rfl|?_];rw[show its.toArray.any _=its.any (eqU x) by simp,jH r fs];exact q
theorem qe:OpR X (compareOp .NotIn) (rIn X.K true):=by
 intro pins s i H x y v u Q I d f h;obtain⟨p,xs,rfl,c,e,fs,q⟩:=h;cases f;rcases c with c|c
 .obtain⟨its,r,pl,g⟩:=I.list c;refine SeqAt.notIn_listAt _ pl.isList (λw hw=>iB d e r fs w (by simpa using hw)) %[.bl _,H,I,rfl|?_];rw[show its.toArray.any _=its.any (eqU x) by simp,jH r fs];exact q
 .obtain⟨its,r,pl,g⟩:=I.tuple c;refine SeqAt.notIn_tupleAt _ pl (λw hw=>iB d e r fs w (by simpa using hw)) %[.bl _,H,I,rfl|?_];rw[show its.toArray.any _=its.any (eqU x) by simp,jH r fs];exact q
theorem qf:OpR X (compareOp .NotIn) (λx y H Q=>∃i j,x= .str i/\y= .str j/\Q (.bl (!(!(Builtin.Str.occurrences j i 0 j.length 1).isEmpty))) H):=by
 intro pins s e H x y v u Q I c d h;obtain⟨i,j,rfl,rfl,q⟩:=h;obtain⟨t,rfl⟩:=c;obtain⟨t',rfl⟩:=d;exact notIn_str %[.bl _,H,I,rfl|q]
theorem qg:bX X (.type "list") (λxs H Q=>∃p ys,xs=[.ref p]/\(SqL X.K H p ys\/SqT X.K H p ys)/\∀l,H l=none->Q (.ref l) (upd H l (.lst ys))):=by
 intro pins s y H xs us Q I r h;obtain⟨p,ys,rfl,f,q⟩:=h;obtain⟨u,rfl,z⟩:=cI r;cases z;have fin:∀its,aH ys its->ys.length<=sizeLine->∀h' d,(∀b w,s.heap.get? b=some w->h'.get? b=some w)->
  h'.get? ⇑s=some _->EP X pins y Q _ (s>>>h'):=λits c g h' d i e=>
  %[.ref ⇑s,_,I.laid i (Zh _) (show bQ X.prog X.w _ h' _ (.lst ys)from%[g,its,d,c|e]),rfl|q _ (I.hok.fresh (Zh _))]
 rcases f with f|f
 .obtain⟨its,c,pl,g⟩:=I.list f;have j:=c.length;obtain⟨o,m,t,n,v⟩:=pl.isList;exact call_list_seq p (.inl rfl) m t v (λh' d i e=>fin its c g h' d i e) (by simp only[Zo]<;> lia)
 .obtain⟨its,c,pl,g⟩:=I.tuple f;have j:=c.length;obtain⟨o,m,t,n,v⟩:=pl;exact call_list_seq p (.inr rfl) m t v (λh' d i e=>fin its c g h' d i e) (by simp only[Zo]<;> lia)
def tyV(K:ZA)(T:String)(x:V)(H:Hp):Prop:=match x with
 | .str _=>T="str"
 | .int _=>T="int"
 | .ref p=>(T="list"/\∃xs,SqL K H p xs)\/(T="tuple"/\∃o,K.lookup p=some o/\o.cls= .type "tuple"/\o.dict=none)\/
  (T="dict"/\((∃c,H p=some (.dK c))\/∃c,H p=some (.dT c)))\/(T="set"/\∃S n,H p=some (.set S n))
 | _=>False
theorem yY(I:Inv X pins q H s)(r:aN x v)(ty:tyV X.K T x H):
 s.TypeIs v T/\∀a,v= .ref a->∃j,s.heap.get? a=some j/\j.dict=none:=by
 cases x with
 | str z=>
   obtain⟨t,rfl⟩:=r;cases(show T="str" from ty);exact%[typeIs_str s z t|λ_ e=>nomatch e]
 | int i=>
   obtain⟨t,rfl⟩:=r;cases(show T="int" from ty);exact%[typeIs_int s i t|λ_ e=>nomatch e]
 | ref p=>
   cases r;rcases ty with⟨rfl,xs,l⟩|⟨rfl,o,d,m,f⟩|⟨rfl,d⟩|⟨rfl,S,n,d⟩
   .obtain⟨its,_,pl,_⟩:=I.list l;refine%[pl.isList.typeIs|λa e=>?_];cases e;obtain⟨o,n,e,c,f,_⟩:=pl;exact%[o,e|f]
   .refine%[%[o,I.kIn p o d|m]|λa e=>?_];cases e;exact%[o,I.kIn _ o d|f]
   .have z:∃o,s.heap.get? p=some o/\o.ExactDict:=by
     rcases d with⟨g,d⟩|⟨g,d⟩
     .obtain⟨_,_,_,_,o,_,_,e,ex,_⟩:=I.hok p _ d;exact%[o,e|ex]
     .obtain⟨_,_,_,_,o,_,_,e,ex,_⟩:=I.hok p _ d;exact%[o,e|ex]
    obtain⟨o,e,ex⟩:=z;refine%[%[o,e|ex.1]|λa h=>?_];cases h;exact%[o,e|ex.2.1]
   .obtain⟨o,_,_,_,e,ex,_⟩:=I.hok p _ d;refine%[%[o,e|ex.1]|λa h=>?_];cases h;exact%[o,e|ex.2.1]
 | _=>exact False.elim ty
def Bi(K:ZA)(T:String)(r:V->List V->Hp->VK->Prop)(d:TE):TE:=λe H Q=>d e H λx c=>tyV K T x c/\r x [] c Q
def tBM(K:ZA)(T:String)(r:V->List V->Hp->VK->Prop)(e:TE)(t:TA):TE:=λc H Q=>e c H λx d=>tyV K T x d/\t c d λxs f=>r x xs f Q
variable{o e:Expr}{es:List Expr}{to:TE}{t:TA}{name:Str}{apos cpos:Pos}{T id:String}{r:V->List V->Hp->VK->Prop}
theorem DR(l:PlainAttrs T)(slot:Slot T name id)(f:typeOf (.builtin id)=pure (.type "method_descriptor"))(m:MtR X id r)(n:PE X o to)
 (c:attributeBase o name X.env (eval o X.env)=eval o X.env) (d:(apos.endLine==cpos.line)=true):PE X (.Call (.Attribute o name apos) [] [] cpos) (Bi X.K T r to):=by
 intro pins s g H Q I h;refine wpAny_Call_method0_late c d (thP (n pins s g H _ I h) λv p x q i j ⟨ty,u⟩=>?_);obtain⟨w,y⟩:=yY i j ty;exact%[T,id,l,slot,f,w,y|Calls.callWith_builtin rfl (PySem.evalArgs_none (m pins p g q x [] v [] Q i j .nil u))]
theorem FD(p:PlainAttrs T)(slot:Slot T name id)(i:typeOf (.builtin id)=pure (.type "method_descriptor"))(q:MtR X id r)(u:PE X o to)(w:PA X (e::es) t)
 (d:attributeBase o name X.env (eval o X.env)=eval o X.env)
 (g:((backTo cpos (starEach (e::es) X.env)).all (λx=>!x.1)&&(backToKw cpos (keywordEach [] X.env)).all (λx=>x.1.isSome)
  && decide ((e::es).length+([]:List Keyword).length+(if([]:List Keyword).isEmpty then 0 else 1)<30))=true)
 (f:(apos.endLine==cpos.line)=true) (y:starEach (e::es) X.env=(false,eval e X.env)::starEach es X.env) (c:(backTo cpos (starEach es X.env)).any (·.1)=false):
 PE X (.Call (.Attribute o name apos) (e::es) [] cpos) (tBM X.K T r to t):=by
 intro pins s j H Q I h;refine wpAny_Call_method_late d g f rfl (thP (u pins s j H _ I h) λv z x A l m ⟨ty,B⟩=>?_);obtain⟨C,E⟩:=yY l m ty;refine%[T,id,p,slot,i,C,E|?_];have n:=w cpos pins z j A _ l B;rw[y]at n ⊢;exact Calls.callWith_builtin (by show(false||(backTo cpos _).any _)=false;rw[c]<;> rfl) (Calls.evalArgs_plain (thn n λus G ⟨vs,J,L,M,N⟩=>q pins G j J x vs v us Q L m M N))
end
def MtM(X:Cx)(id:String)(r:V->List V->Hp->VK->Prop):Prop:=
 ∀pins s (a:St) H x xs v us Q,Inv X pins a H s->aN x v->aH xs us->r x xs H Q->
  (~~~X) (call (.builtin id) (v::us)) (EP X pins a Q) X.xe s
theorem aH.one:∀{x:V} {us:ZF},aH [x] us->∃u,us=[u]/\aN x u
 | _,_,.cons r .nil=>%[_,rfl|r]
theorem aH.zero:∀{us:ZF},aH [] us->us=[]
 | _,.nil=>rfl
theorem aH.dropLast{xs:List V}{us:ZF}(h:aH xs us):aH xs.dropLast us.dropLast:=by
 induction h with
 | nil=>exact .nil
 | cons r t a=>
   cases t with
   | nil=>exact .nil
   | cons q t'=>exact .cons r a
theorem aH.eraseIdx:∀{xs:List V} {us:ZF} i,aH xs us->aH (xs.eraseIdx i) (us.eraseIdx i)
 | _,_,_,.nil=> .nil
 | _,_,0,.cons _ t=>t
 | _,_,i+1,.cons r t=> .cons r (aH.eraseIdx i t)
theorem aH.reverse(h:aH xs us):aH xs.reverse us.reverse:=by
 induction h with
 | nil=>exact .nil
 | cons r t a=>rw[List.reverse_cons,List.reverse_cons];exact aH.append a (.cons r .nil)
theorem aH.rep(h:aH xs us):∀k:Nat,aH (List.replicate k xs).flatten (List.replicate k us).flatten
 | 0=> .nil
 | k+1=>by
   exact aH.append h (aH.rep h k)
theorem kq:∀(l:List a) (i:Nat),(l.eraseIdx i).length<=l.length
 |[],_=>Zh _
 | _::_,0=>Y8 _
 | _::r,i+1=>Nat.succ_le_succ (kq r i)
theorem oS(its:ZF):∀k acc,
 List.foldl (λa x2=>a++x2) acc.toArray (List.replicate k its.toArray)=(acc++(List.replicate k its).flatten).toArray
 | 0,acc=>by simp
 | k+1,acc=>by
   have e:acc.toArray++its.toArray=(acc++its).toArray:=by simp
   have b:(acc++its) ++(List.replicate k its).flatten=acc++(List.replicate (k+1) its).flatten:=by
    rw[List.replicate_succ,List.flatten_cons,Zd]
   rw[<-b,<-oS its k _,<-e,List.replicate_succ,foldl_cons]
section
#version
variable{l b:Addr}{xs ys zs:List V}
theorem Inv.lset{its its':ZF}{n:Nat}{f:ZI->ZI}{t':Nat}(I:Inv X pins σ H s)(a:H l=some (.lst xs))
 (e:s.heap.get? l=some {cls:= .type "list",data:= .seq its.toArray n}) (c:f its.toArray=its'.toArray) (d:aH ys its') (g:ys.length<=sizeLine):
 Inv X pins σ (upd H l (.lst ys)) {s with heap:=s.heap.update l (Obj.mapSeq f),toks:=t'}:=by
 have q:=PySem.IsL.update e f;rw[c]at q;refine I.write (a▸trivial) (.inl rfl) (λj u h i=>(get?_update_other s.heap _ (Ne.symm h)).trans i) %[_|q] ?_;exact%[g,its',_,d|q]
theorem Inv.lnew(I:Inv X pins σ H s)(a:aH ys its)(c:ys.length<=sizeLine):
 Inv X pins σ (upd H ⇑s (.lst ys)) {s with heap:=s.heap.push {cls:= .type "list",data:= .seq its.toArray},toks:=t'}:=
 I.laid (λ_ _ q=>Z6 _ q) (Zh _) %[c,its,0,a|Zi _ rfl]
theorem Inv.fresh(I:Inv X pins σ H s):H ⇑s=none:=I.hok.fresh (Zh _)
theorem Inv.lstM(I:Inv X pins σ H s)(a:H l=some (.lst xs)):xs.length<=sizeLine/\∃its n,aH xs its/\xs.length=its.length/\s.heap.get? l=some {cls:= .type "list",data:= .seq its.toArray n}:=by
 obtain⟨z,its,n,r,e⟩:=I.hok l _ a;exact%[z,its,n,r,r.length|e]
theorem rH{n:Nat}(h:n<=sizeLine):Builtin.List.listTooLong n=false:=by
 unfold Builtin.List.listTooLong
 simp_all
end
section
variable{X:Cx}
def qh:V->List V->Hp->VK->Prop:=λx vs H Q=>asR x λl=>∃y,vs=[y]/\∃xs,H l=some (.lst xs)/\xs.length<sizeLine/\Q .non (upd H l (.lst (xs++[y])))
theorem oU:MtM X "list.append" qh:=by
 intro pins s f H x vs v us Q I b c h;obtain⟨l,rfl,y,rfl,xs,a,g,q⟩:=eP h;cases b;obtain⟨u,rfl,d⟩:=c.one;obtain⟨z,its,n,r,i,e⟩:=I.lstM a;refine call_meets F.slot_list_append %[_,e|rfl] F.entry_list_append (F.args_list_append_2 _ _) (PySem.list_append l its.toArray n u (by simp_all)) %[e,.non,_,I.lset a e ∅ (r.append (.cons d .nil)) ?_,rfl|q];rw[Z8,Yd]
 lia
def qj:V->List V->Hp->VK->Prop:=λx vs H Q=>∃l b xs zs,x= .ref l/\vs=[.ref b]/\H l=some (.lst xs)/\H b=some (.lst zs)/\xs.length+zs.length<=sizeLine/\Q .non (upd H l (.lst (xs++zs)))
theorem wq:MtM X "list.extend" qj:=by
 intro pins s w H x vs v us Q I f g h;obtain⟨l,b,xs,zs,rfl,rfl,d,i,y,q⟩:=h;cases f;obtain⟨u,rfl,j⟩:=g.one;cases j;obtain⟨z,its,n,r,A,e⟩:=I.lstM d;obtain⟨B,its2,m,o,p,t⟩:=I.lstM i;have c:its.toArray.size+its2.toArray.size<=sizeLine:=by simp_all
 have a: ¬ (!its.toArray.isEmpty&&Builtin.List.listTooLong (its.toArray.size+its2.toArray.size))=true:=by
  rw[rH c,Bool.and_false];exact Zs
 refine call_meets F.slot_list_extend %[_,e|rfl] F.entry_list_extend (F.args_list_extend_2 _ _)
  (AutoSeq1.list_extend_list_list_0 l its.toArray n b its2.toArray m a ⋯ ⋯) %[e,t,.non,_,I.lset d e ∅ (r.append o) ?_,rfl|q]
 simp_all
def FE:V->List V->Hp->VK->Prop:=λx vs H Q=>∃l xs y,x= .ref l/\vs=[]/\H l=some (.lst xs)/\xs[xs.length-1]? =some y/\Q y (upd H l (.lst xs.dropLast))
theorem DS:MtM X "list.pop" FE:=by
 intro pins s j H x vs v us Q I d f h;obtain⟨l,xs,y,rfl,rfl,c,g,q⟩:=h;cases d;have a:=f.zero;subst a;obtain⟨z,its,n,r,m,e⟩:=I.lstM c;obtain⟨u,o,i⟩:=r.get g;have b:its.toArray[its.toArray.size-1]? =some u:=by
  simp_all
 refine call_meets F.slot_list_pop %[_,e|rfl] F.entry_list_pop (F.args_list_pop_1 _) (MeetsSeq.list_pop_last l its.toArray n u b (by simp_all)) %[e,y,_,I.lset c e ?_ r.dropLast ?_,i|q]
 .simp
 .rw[List.length_dropLast]
  lia
def t8:V->List V->Hp->VK->Prop:=λx vs H Q=>∃l xs i k y,x= .ref l/\vs=[.int i]/\H l=some (.lst xs)/\ -(2^63)<=i/\i<2^63/\seqIndex? i xs.length=some k/\xs[k]? =some y/\Q y (upd H l (.lst (xs.eraseIdx k)))
theorem yZ:MtM X "list.pop" t8:=by
 intro pins s A H x vs v us Q I c d h;obtain⟨l,xs,i,k,y,rfl,rfl,b,f,g,j,m,q⟩:=h;cases c;obtain⟨u,rfl,o⟩:=d.one;obtain⟨t,rfl⟩:=o;obtain⟨z,its,n,r,p,e⟩:=I.lstM b;obtain⟨w,hw,a⟩:=r.get m;refine call_meets F.slot_list_pop %[_,e|rfl] F.entry_list_pop (F.args_list_pop_2 _ _)
  (MeetsSeq.list_pop_at l its.toArray n i t k w (fitsIndex_both f g) (by rw[Zo,<-p];exact j) (by rw[<-Y6];exact hw) (by rw[Zo];lia)) %[e|?_]
 refine%[y,_,I.lset (its':=its.eraseIdx k) b e ?_ (r.eraseIdx k) ?_,a|q]
 .show its.toArray.eraseIdxIfInBounds k=(its.eraseIdx k).toArray;rw[List.eraseIdxIfInBounds_toArray]
 .have:=kq xs k
  lia
def DT:R2:=λx y H Q=>∃l b xs zs,x= .ref l/\y= .ref b/\H l=some (.lst xs)/\H b=some (.lst zs)/\xs.length+zs.length<=sizeLine/\∀p,H p=none->Q (.ref p) (upd H p (.lst (xs++zs)))
theorem DU:OpR X (binaryOp .Add) DT:=by
 intro pins s o H x y v u Q I a c h;obtain⟨l,b,xs,zs,rfl,rfl,d,f,p,q⟩:=h;cases a;cases c;obtain⟨z,its,n,r,t,e⟩:=I.lstM d;obtain⟨w,its2,A,g,i,j⟩:=I.lstM f;refine PySem.P.add_list e j ?_ (by rw[Zo,Zo];lia);have m:its.toArray++its2.toArray=(its++its2).toArray:=by simp
 rw[m];exact%[.ref _,_,I.lnew (r.append g) (by rw[Z8];lia),rfl|q _ I.fresh]
def DV:R2:=λx y H Q=>∃l k xs,x= .ref l/\y= .int k/\H l=some (.lst xs)/\ -(2^63)<=k/\k<2^63/\xs.length*k.toNat<=sizeLine/\
 ∀p,H p=none->Q (.ref p) (upd H p (.lst (List.replicate k.toNat xs).flatten))
theorem Bj(xs:List a)(k:Nat):(List.replicate k xs).flatten.length=k*xs.length:=by
 simp
theorem DW:OpR X (binaryOp .Mult) DV:=by
 intro pins s E H x y v u Q I o p h;obtain⟨l,k,xs,rfl,rfl,w,A,B,j,q⟩:=h;cases o;obtain⟨t,rfl⟩:=p;obtain⟨z,its,n,r,C,e⟩:=I.lstM w;have c:its.toArray.size*k.toNat<=sizeLine:=by rw[Zo,<-C];exact j
 have d: ¬ its.toArray.size*k.toNat>(2^63-1)/8:=by
  have:sizeLine<=(2^63-1)/8:=by decide
  lia
 have f: ¬ (!Builtin.List.listFitsIndex k)=true:=by
  rw[fitsIndex_both A B];exact Zs
 have b: ¬ Builtin.List.listTooLong (its.toArray.size*k.toNat)=true:=by
  rw[rH c];exact Zs
 have g:List.foldl (λi x2=>i++x2) #[] (List.replicate (if its.toArray.isEmpty=true then 0 else k.toNat) its.toArray)=(List.replicate k.toNat its).flatten.toArray:=by
  have G:∀m,List.foldl (λi x2=>i++x2) #[] (List.replicate m its.toArray)=(List.replicate m its).flatten.toArray:=λm=>by
   have:=oS its m []
   simp_all
  cases its with
  | nil=>simp
  | cons a J=>simp_all
 refine wpAny_binaryOp_repeat_ref (by decide) %[_,e|rfl] (λs'=>typeIs_int s' k t) noFill_list_mul F.fills_int_mul F.slot_int_rmul repeat_list F.slot_int_index.lookup
  (call_meets F.slot_int_rmul (typeIs_int s k t) F.entry_int_rmul (F.args_int_rmul_2 _ _) (int___rmul___int_list k t l its.toArray n)
   %[e,rfl,%[_,e|rfl]|call_meets F.slot_list_mul %[_,e|rfl] F.entry_list_mul (F.args_list_mul_2 _ _) (AutoListH.list___mul___list_int_3 l its.toArray n k t f d b) %[e|?_]])
 rw[g];exact%[.ref _,_,I.lnew (r.rep k.toNat) (by rw[Bj,Nat.mul_comm];exact j),rfl|q _ I.fresh]
end
section
#where
end
section
variable{X:Cx}
end
section
variable{κ:Type}[DecidableEq κ]
noncomputable def bz(a:List (κ×V))(k:κ):Option V:=(a.find? λb=>decide (b.1=k)).map (·.2)
noncomputable def cJ(a:List (κ×V))(k:κ)(v:V):List (κ×V):=
 if(a.any λb=>decide (b.1=k))=true then a.map (λb=>if b.1=k then(b.1,v)else b)else a++[(k,v)]
theorem eR{p:κ×V}{r:List _}{k:κ}(e:p.1=k):bz (p::r) k=some p.2:=by simp[bz,e]
theorem c9{p:κ×V}{r:List _}{k:κ}(e: ¬ p.1=k):bz (p::r) k=bz r k:=by simp[bz,e]
theorem iC(k:κ):∀a,(a.any λb=>decide (b.1=k))=(bz a k).isSome
 |[]=>rfl
 | p::r=>by
   rw[Zv];by_cases e:p.1=k
   .simp only[eR e,Ze e,Bool.true_or,Option.isSome_some]
   .rw[c9 e,Zg e,Bool.false_or];exact iC k r
theorem fE(a:List _)(k:κ)(v:V):(cJ a k v).length<=a.length+1:=by
 unfold cJ
 split
 .simp
 simp_all
theorem dP{k:κ}(v:V)(h:bz a k=none):cJ a k v=a++[(k,v)]:=by
 unfold cJ;rw[iC,h];exact if_neg (by decide)
theorem fV.isSome_eq(r:fV o u):o.isSome=u.isSome:=by
 cases o with
 | none=>cases u with
   | none=>rfl
   | some _=>exact(r).elim
 | some _=>cases u with
   | none=>exact(r).elim
   | some _=>rfl
theorem fV.getD{o:Option V}{u:Option Value}{d:V}{d':Value}(r:fV o u)(a:aN d d'):aN (o.getD d) (u.getD d'):=by
 cases o with
 | none=>cases u with
   | none=>exact a
   | some _=>exact(r).elim
 | some _=>cases u with
   | none=>exact(r).elim
   | some _=>exact r
theorem KV.val{vs:List (κ×Value)}(r:KV a vs)(k:κ):fV (bz a k) (valueAt vs k):=by
 induction r with
 | nil=>exact True.intro
 | @cons p q ps qs h t f=>
   obtain⟨d,g⟩:=h;by_cases e:p.1=k
   .have c:=d.symm.trans e;have b:valueAt (q::qs) k=some q.2:=by simp[valueAt,c]
    rw[eR e,b];exact g
   .have c: ¬ q.1=k:=λz=>e (d.trans z)
    have b:valueAt (q::qs) k=valueAt qs k:=by simp[valueAt,c]
    rw[c9 e,b];exact f
theorem KV.any(r:KV a vs)(k:κ):(a.any λb=>decide (b.1=k))=vs.any λb=>decide (b.1=k):=by
 induction r with
 | nil=>rfl
 | cons h t c=>simp_all
theorem KV.repl(r:KV c vs)(k:κ)(d:aN y u):
 KV (c.map λa=>if a.1=k then(a.1,y)else a) (vs.map λa=>if a.1=k then(a.1,u)else a):=by
 induction r with
 | nil=>exact .nil
 | @cons p q ps qs h t f=>
   rw[Yj,Yj];refine .cons ?_ f;obtain⟨b,g⟩:=h;by_cases e:p.1=k
   .rw[if_pos e,if_pos (b.symm.trans e)];exact%[b|d]
   .rw[if_neg e,if_neg (λz=>e (b.trans z))];exact%[b|g]
theorem KV.put(r:KV a vs)(k:κ)(b:aN y u):KV (cJ a k y) (stored vs k u):=by
 unfold cJ stored;rw[r.any k];by_cases e:(vs.any λc=>decide (c.1=k))=true
 .rw[if_pos e,if_pos e];exact r.repl k b
 .rw[if_neg e,if_neg e];exact Paired.snoc r %[rfl|b]
theorem KV.keys{a:List (κ×V)}{vs:List (κ×Value)}(r:KV a vs):a.map (·.1)=vs.map (·.1):=by
 induction r with
 | nil=>rfl
 | cons h t b=>simp_all
theorem KV.length{a:List (κ×V)}{vs:List _}(r:KV a vs):a.length=vs.length:=Paired.length r
end
theorem lA{P:Program}(r:aN (kV k) u):(aM P w).is k u=true:=by
 cases k with
 | inl i=>obtain⟨t,e⟩:=(r);subst e;exact rC P w i t
 | inr x=>obtain⟨t,e⟩:=(r);subst e;exact rD P w x t
theorem oV{P:Program}:∀{ks:List Key} {us:ZF},aH (ks.map kV) us->ItemsAre (aM P w) ks us
 |[],_,r=>by cases r;exact .nil
 | k::ks,_,r=>by
   cases r with
   | cons h t=>exact .cons (lA h) (oV t)
noncomputable abbrev KT(H:Hp):List (List Key×V)->List (List Key×Addr×Value)->Prop:=Paired λp q=>p.1=q.1/\H q.2.1=some (.tup (p.1.map kV))/\aN p.2 q.2.2
theorem KT.val{a:List (List Key×V)}{xs:List (List Key×Addr×Value)}(r:KT H a xs)(k:List Key):fV (bz a k) ((atKey xs k).map (·.2)):=by
 induction r with
 | nil=>exact True.intro
 | @cons p q ps qs h t f=>
   obtain⟨d,_,g⟩:=h;by_cases e:p.1=k
   .have c:=d.symm.trans e;have b:atKey (q::qs) k=some q.2:=by simp[atKey,c]
    rw[eR e,b];exact g
   .have c: ¬ q.1=k:=λz=>e (d.trans z)
    have b:atKey (q::qs) k=atKey qs k:=by simp[atKey,c]
    rw[c9 e,b];exact f
theorem KT.repl(r:KT H b xs)(k:List Key)(f:aN y u):
 KT H (b.map λc=>if c.1=k then(c.1,y)else c) (xs.map (putAt k u)):=by
 induction r with
 | nil=>exact .nil
 | @cons p q ps qs h t g=>
   rw[Yj,Yj];refine .cons ?_ g;obtain⟨a,d,i⟩:=h;unfold putAt;by_cases e:p.1=k
   .rw[if_pos e,if_pos (a.symm.trans e)];exact%[a,d|f]
   .rw[if_neg e,if_neg (λz=>e (a.trans z))];exact%[a,d|i]
theorem KT.put(r:KT H a xs)(k:List Key)(d:H b=some (.tup (k.map kV)))(c:aN y u):
 KT H (cJ a k y) (storedH xs k b u):=by
 have e:(a.any λf=>decide (f.1=k))=(atKey xs k).isSome:=by
  rw[iC,(r.val k).isSome_eq,isSome_map]
 unfold cJ storedH;rw[e];by_cases q:(atKey xs k).isSome=true
 .rw[if_pos q,if_pos q];exact r.repl k c
 .rw[if_neg q,if_neg q];exact Paired.snoc r %[rfl,d|c]
theorem KT.keeps(r:KT H a xs)(c:∀b ys,H b=some (.tup ys)->d b=some (.tup ys)):KT d a xs:=
 Paired.mapP r λ_ _ z=>%[z.1,c _ _ z.2.1|z.2.2]
section
variable{P:Program}{w:World}{H:Hp}{h:Heap}{a:Addr}
theorem CJ(ok:HOk P w H h)(e:Rd H a u):bQ P w H h a u:=e.ok ok
theorem lB(ok:HOk P w H h)(e:Rd H a (.dK b)):b.length<=sizeLine/\(a==sysModules)=false/\∃vs,KV b vs/\h.DictOf (aM P w) a vs:=
 CJ ok e
theorem jI(ok:HOk P w H h)(e:H a=some (.dK b)):b.length<=sizeLine/\(a==sysModules)=false/\∃vs,KV b vs/\h.DictOf (aM P w) a vs:=lB ok (.inl e)
theorem mB(ok:HOk P w H h)(e:H a=some (.tup (ks.map kV))):(tupleKind (aM P w)).is h ks a:=by
 obtain⟨_,its,r,o,b,c,n,d⟩:=(ok a _ e)
 exact%[o,its.toArray,n,b,c,d|oV r]
theorem oW(ok:HOk P w H h)(e:Rd H a (.dT b)):b.length<=sizeLine/\(a==sysModules)=false/\
 ∃xs,KT H b xs/\h.DictOfH (tupleKind (aM P w)) a xs:=by
 obtain⟨z,y,xs,r,o,es,d,f,g,i,j,n⟩:=(CJ ok e)
 refine%[z,y,xs,r,o,es,d,f,g,i,j,λx c=>?_|n];have all:∀{l:List _} {m:List _},KT H l m->∀x∈m,(tupleKind (aM P w)).is h x.1 x.2.1:=by
  intro l m q
  induction q with
  | nil=>simp
  | @cons p q ps qs u t s=>
    intro x c;rcases mem_cons.mp c with e|c
    .exact mB ok (by simp_all)
    .exact s x c
 exact all r x c
theorem FF(ok:HOk P w H h)(e:H a=some (.dT b)):b.length<=sizeLine/\(a==sysModules)=false/\
 ∃xs,KT H b xs/\h.DictOfH (tupleKind (aM P w)) a xs:=oW ok (.inl e)
end
def bJ(H:Hp)(a:Addr)(y:V)(r:Option V):Prop:=
 (∃c k,Rd H a (.dK c)/\y=kV k/\r=bz c k)\/∃c k b,Rd H a (.dT c)/\y= .ref b/\H b=some (.tup (k.map kV))/\r=bz c k
def gE(H:Hp)(a:Addr)(y v:V)(d:Hp):Prop:=
 (∃c k,H a=some (.dK c)/\y=kV k/\c.length<sizeLine/\d=upd H a (.dK (cJ c k v)))\/
 ∃c k b,H a=some (.dT c)/\y= .ref b/\H b=some (.tup (k.map kV))/\c.length<sizeLine/\d=upd H a (.dT (cJ c k v))
theorem bJ.k{k:Key}(e:H a=some (.dK b)):bJ H a (kV k) (bz b k):= .inl %[b,k,.inl e,rfl|rfl]
theorem gE.k{k:Key}(e:H a=some (.dK b))(c:b.length<sizeLine):gE H a (kV k) v (upd H a (.dK (cJ b k v))):= .inl %[b,k,e,rfl,c|rfl]
section
#version
variable{a:Addr}{y v:V}{u r:Value}{o:Option V}{A:Around}{E:ZD}
theorem Inv.big(I:Inv X pins σ H s):sysModules<⇑s:=by
 exact Nat.lt_trans (by decide) ((I.mod.glob.keeps I.bk).lt)
theorem wt(t:A.units+1<cLine)(I:Inv X pins σ H s)(g:bJ H a y (some v))(q:aN y u)(h:∀f s',Inv X pins σ H s'->aN v f->Q f s'):
 wpAny (model X.prog X.w) A (getItem (.ref a) u) Q E s:=by
 rcases g with⟨i,k,e,j,l⟩|⟨i,k,b,e,j,w,l⟩
 .subst j;obtain⟨z,B,vs,c,m⟩:=lB I.hok e;obtain⟨f,hw,d⟩:=fV.some_of (l▸c.val k);exact wpAny_getItem_of (lA q) m.mapOf hw (h f _ (I.tok _) d)
 .subst j;cases(q);obtain⟨z,B,xs,c,m⟩:=oW I.hok e;obtain⟨f,hw,d⟩:=fV.some_of (l▸c.val k);obtain⟨p,C,n⟩:=map_eq_some_iff.mp hw;refine wpAny_getItem_heap (tupleKind_room_in1 t) (mB I.hok w) m C ?_;rw[n];exact h f _ (I.tok _) d
theorem d_in(n:A.units+1<cLine)(I:Inv X pins σ H s)(g:bJ H a y o)(m:aN y u)(h:∀s',Inv X pins σ H s'->Q (.bool o.isSome) s'):
 wpAny (model X.prog X.w) A (compareOp .In u (.ref a)) Q E s:=by
 rcases g with⟨d,k,e,f,l⟩|⟨d,k,b,e,f,p,l⟩
 .subst f;obtain⟨z,i,vs,c,j⟩:=lB I.hok e;refine wpAny_in_of (lA m) i j.mapOf ?_;rw[<-(c.val k).isSome_eq,<-l];exact h _ (I.tok _)
 .subst f;cases(m);obtain⟨z,i,xs,c,j⟩:=oW I.hok e;refine wpAny_in_heap (tupleKind_room_in1 n) (mB I.hok p) i j ?_;have q:=(c.val k).isSome_eq;rw[isSome_map]at q;rw[<-q,<-l];exact h _ (I.tok _)
theorem Bk(n:A.units+1<cLine)(I:Inv X pins σ H s)(g:bJ H a y o)(m:aN y u)(h:∀s',Inv X pins σ H s'->Q (.bool (!o.isSome)) s'):
 wpAny (model X.prog X.w) A (compareOp .NotIn u (.ref a)) Q E s:=by
 rcases g with⟨d,k,e,f,l⟩|⟨d,k,b,e,f,p,l⟩
 .subst f;obtain⟨z,i,vs,c,j⟩:=lB I.hok e;refine wpAny_notIn_of (lA m) i j.mapOf ?_;rw[<-(c.val k).isSome_eq,<-l];exact h _ (I.tok _)
 .subst f;cases(m);obtain⟨z,i,xs,c,j⟩:=oW I.hok e;refine wpAny_notIn_heap (tupleKind_room_in1 n) (mB I.hok p) i j ?_;have q:=(c.val k).isSome_eq;rw[isSome_map]at q;rw[<-q,<-l];exact h _ (I.tok _)
theorem l7(I:Inv X pins σ H s)(d:Mut (H a))(e:SameBut a s.heap h')(f:∃q,h'.get? a=some q)(new:bQ X.prog X.w (upd H a c) h' a c):
 Inv X pins σ (upd H a c) {s with heap:=h',toks:=t'}:=
 I.write d (.inl rfl) (λb q g z=>(e.2 b g).trans z) f new
theorem t9{P:Program}(z:b.length<=sizeLine)(d:(a==sysModules)=false)(c:KV b vs)(e:h'.DictOf (aM P w) a vs):
 bQ P w f h' a (.dK b):=%[z,d,vs,c|e]
theorem wu(M:A.units+1<cLine)(I:Inv X pins σ H s)(g:gE H a y v N)(C:aN y u)(G:aN v r)(h:∀s',Inv X pins σ N s'->Q () s'):
 wpAny (model X.prog X.w) A (setItem (.ref a) u r) Q E s:=by
 rcases g with⟨d,k,e,m,l,n⟩|⟨d,k,b,e,m,J,l,n⟩
 .subst m n;obtain⟨z,p,vs,f,t⟩:=jI I.hok e;have O:vs.length<=sizeLine:=f.length▸z;have w:(cJ d k v).length<=sizeLine:=by have:=fE d k v;lia
  exact wpAny_setItem_pairs (lA C) t λh' i B=>h _ (l7 I (e▸True.intro) B (let⟨q,_,_,j,_⟩:=i;%[q|j]) (t9 w p (f.put k G) i))
 .subst m n;cases(C);obtain⟨z,p,xs,f,t⟩:=FF I.hok e;have O:xs.length<=sizeLine:=(Paired.length f)▸z;have w:(cJ d k v).length<=sizeLine:=by have:=fE d k v;lia
  refine wpAny_setItem_heap (tupleKind_room_in1 M) (mB I.hok J) t λh' i B=>h _ ?_
  obtain⟨q,es,T,j,U,Y,h4,_,h5⟩:=i;refine l7 I (e▸True.intro) B %[q|j] %[w,p,_,(f.put k J G).keeps λc ys L=>?_,q,es,T,j,U,Y,h4|h5];rw[am (Ff L e (λz=>nomatch z))];exact L
end
section
#version
variable{a:Addr}{kvs:List (Key×V)}{k:Key}{u:Value}{A:Around}{E:ZD}
theorem FG(I:Inv X pins σ H s)(e:Rd H a (.dK kvs))(h:∀t s',Inv X pins σ H s'->Q (.int kvs.length t) s'):wpAny (model X.prog X.w) A (call (.builtin "len") [.ref a]) Q E s:=by
 obtain⟨z,c,vs,b,d⟩:=lB I.hok e;refine call_len_dict c d (by rw[<-b.length];rw[sizeLine_eq]at z;lia) ?_;rw[<-b.length];exact h _ _ (I.tok _)
end
def DX(i:Expr):Prop:=∀a b,subscripted i false a b=operate [a,b] (getItem a b)
theorem Bl{T id:String}
 (l:typeLookup (.type T) "__getitem__"=pure (some (.builtin id))) (m:DX a)
 (h:↥A (eval c env) (λo e=>↥A (eval a env) (λi b=>b.TypeIs o T/\↥A (getItem o i) Q E b) E e) E s):
 ↥A (eval (.Subscript c a pos) env) Q E s:=by
 refine Subscript_ (wpAny_mono h (λo e g=>wpAny_mono g (λi b d=>?_) λ_ _ x=>x) λ_ _ x=>x);obtain⟨n,d⟩:=d;refine Z2 (Z2 (wpAny_specialOf n l ?_));have fin:↥A (subscripted a false o i) (λr f=>↥A (letTemporaryGo c o r>>= λ_=>pure r) Q E f) E b:=by
  rw[m o i];exact wpAny_operating (wpAny_mono d (λr f j=>Z2 (wpAny_letTemporaryGo (Z3 j))) λ_ _ x=>x)
 first
  | exact Z3 (Z2 fin)
  | lia
  | lia
theorem lC{X:Cx}(I:Inv X pins f H s)(g:bJ H a y o):s.TypeIs (.ref a) "dict":=by
 rcases g with⟨c,k,e,_,_⟩|⟨c,k,b,e,_,_,_⟩
 .obtain⟨_,_,vs,_,d⟩:=lB I.hok e;exact d.typeIs
 .obtain⟨_,_,xs,_,d⟩:=oW I.hok e;exact d.typeIs
theorem rJ{X:Cx}(I:Inv X pins i H s)(g:bJ H a y o):
 ∀b,Value.ref a= .ref b->∃c,s.heap.get? b=some c/\c.dict=none:=λb q=>by
 cases q;rcases g with⟨d,k,e,_,_⟩|⟨d,k,b,e,_,_,_⟩
 .obtain⟨_,_,vs,_,c,_,_,f,h,_⟩:=lB I.hok e;exact%[c,f|h.2.1]
 .obtain⟨_,_,xs,_,c,_,_,f,h,_⟩:=oW I.hok e;exact%[c,f|h.2.1]
def y3(d ty:TE):TE:=λb H Q=>d b H λx e=>ty b e λy c=>∃a v,x= .ref a/\bJ c a y (some v)/\Q v c
def DY(ty d:TE):TE:=λb H Q=>ty b H λy e=>d b e λx c=>∃a o,x= .ref a/\bJ c a y o/\Q (.bl o.isSome) c
def qk(ty d:TE):TE:=λb H Q=>ty b H λy e=>d b e λx c=>∃a o,x= .ref a/\bJ c a y o/\Q (.bl (!o.isSome)) c
def jJ(d ty e:TE):TS:=λD b H=>e b H λv f=>d b f λx g=>ty b g λy h=>∃a c,x= .ref a/\gE h a y v c/\D.nx b c
section
variable{X:Cx}{o i e value:Expr}{pos pos' tpos:Pos}{td ty tv:TE}
theorem Bm(f:X.A.units+1<cLine)(j:PE X o td)(hi:PE X i ty)(l:DX i):PE X (.Subscript o i pos) (y3 td ty):=by
 intro pins s c H Q I h;refine Bl PySem.F.slot_dict_getitem.lookup l (thP (j pins s c H _ I h) λu m x n p q r=>thP (hi pins m c n _ p r) λB C y t d w ⟨a,v,ex,g,z⟩=>?_);subst ex;obtain rfl:u=Value.ref a:=q;exact%[lC d g|wt f d g w λE G A b=>%[v,t,A,b|z]]
theorem DZ(c:X.A.units+1<cLine)(hi:PE X i ty)(d:PE X o td):PC X .In i o (DY ty td):=by
 intro pins s b H Q I h;refine thP (hi pins s b H _ I h) λz f y j l m n=>thP (d pins f b j _ l n) λu A x p q r ⟨a,t,ex,g,v⟩=>?_
 subst ex;obtain rfl:u=Value.ref a:=r;exact d_in c q g m λB w=>%[.bl t.isSome,p,w,rfl|v]
theorem wv(c:X.A.units+1<cLine)(hi:PE X i ty)(d:PE X o td):PC X .NotIn i o (qk ty td):=by
 intro pins s b H Q I h;refine thP (hi pins s b H _ I h) λw f y j l m n=>thP (d pins f b j _ l n) λu z x p q r ⟨a,A,ex,g,t⟩=>?_
 subst ex;obtain rfl:u=Value.ref a:=r;exact Bk c q g m λB v=>%[.bl _,p,v,rfl|t]
theorem Bn(c:X.A.units+1<cLine)(d:PE X o td)(hi:PE X i ty)(f:PE X value tv)(j:swapsWith value (some (.Subscript o i pos')) pos.line X.env=pure false):
 PS X (.Assign [.Subscript o i pos'] value pos) (jJ td ty tv):=by
 intro pins s b H D I h;refine wpAny_Assign_Subscript (thP (f pins s b H _ I h) λr l v m n p q=>thP (d pins l b m _ n q) λu t x w z A B=>thP (hi pins t b w _ z B) λM N y O C E ⟨a,G,ex,g,J⟩=>?_) j;subst ex;obtain rfl:u=Value.ref a:=A;exact wu c C g E p λQ L=>%[b,G,L|J]
end
theorem y4{P:Program}(h:Heap)(a:sysModules<h.objs.size):bQ P w H (h.push {cls:= .type "dict",data:= .dict #[]}) h.objs.size (.dK []):=
 %[X1 _,beq_eq_false_iff_ne.mpr (Ne.symm (Zr a)),[],.nil|Heap.DictOf.new h]
def ua:TE:=λ_ H Q=>∀p,H p=none->Q (.ref p) (upd H p (.dK []))
section
variable{X:Cx}{pos:Pos}
theorem y6:PE X (.Dict [] [] pos) ua:=λpins s a H Q I h=>
 wpAny_Dict_empty %[.ref ⇑s,_,I.laid (λ_ _ q=>Z6 _ q) (Zh _) (y4 s.heap I.big),rfl|h _ (I.hok.fresh (Zh _))]
end
noncomputable def kr(a more:List (Key×V)):List (Key×V):=more.foldl (λacc b=>cJ acc b.1 b.2) a
theorem KV.merge:∀{more:List _} {rs:List _} {a:List _} {vs:List _},KV more rs->KV a vs->KV (kr a more) (merged vs rs):=by
 intro more rs a vs r
 induction r generalizing a vs with
 | nil=>intro q;exact q
 | @cons p q ps qs h t b=>
   intro c;have e:KV (cJ a p.1 p.2) (stored vs q.1 q.2):=by
    have:=c.put p.1 h.2;exact h.1▸this
   exact b e
theorem jk:∀more a,(kr a more).length<=a.length+more.length
 |[],a=>by show a.length<=a.length+0;lia
 | p::r,a=>by
   have b:=jk r (cJ a p.1 p.2);have c:=fE a p.1 p.2;show(kr _ r).length<=_
   grind
structure M1 (X:Cx) (o:Expr) (m:Str) (apos:Pos) (e:Expr) (cpos:Pos):Prop where
 base:attributeBase o m X.env (eval o X.env)=eval o X.env
 few:((backTo cpos (starEach [e] X.env)).all (λx=>!x.1)&&(backToKw cpos (keywordEach [] X.env)).all (λx=>x.1.isSome)
  && decide (([e]).length+([]:List Keyword).length+(if([]:List Keyword).isEmpty then 0 else 1)<30))=true
 line:(apos.endLine==cpos.line)=true
 trees:backTo cpos (starEach [e] X.env)=[(false,eval e X.env)]
structure M2 (X:Cx) (o:Expr) (m:Str) (apos:Pos) (e f:Expr) (cpos:Pos):Prop where
 base:attributeBase o m X.env (eval o X.env)=eval o X.env
 few:((backTo cpos (starEach [e,f] X.env)).all (λx=>!x.1)&&(backToKw cpos (keywordEach [] X.env)).all (λx=>x.1.isSome)
  && decide (([e,f]).length+([]:List Keyword).length+(if([]:List Keyword).isEmpty then 0 else 1)<30))=true
 line:(apos.endLine==cpos.line)=true
 trees:backTo cpos (starEach [e,f] X.env)=[(false,eval e X.env),(false,eval f X.env)]
section
#version
variable{a:Addr}{y d:V}{u r:Value}{o:Option V}{A:Around}{E:ZD}
end
section
variable{X:Cx}{o e f:Expr}{apos cpos:Pos}{td ty tx:TE}
end
section
#version
variable{a:Addr}{kvs:List (Key×V)}{A:Around}{E:ZD}
end
section
#version
variable{a:Addr}{y:V}{u:Value}{A:Around}{E:ZD}
end
end L2
namespace Att
open PySem PySem.W PySem.Calls PyProof.Rows
theorem lP{P:Params}:∀(c:ZK) (vs:ZF),WellAll P h vs (c.map WData.int)->IntsAre vs c:=by
 intro c
 induction c with
 | nil=>
   intro vs w;cases w;exact .nil
 | cons n c d=>
   intro vs w;cases w with
   | cons a b=>
     cases a;exact .cons _ _ (d _ b)
theorem ww{l:OpenLaw}(o:l.most=some n){P:Params}
 (b:l.row.toRowW.claim.pre args=true) (j:WellAll P h e args):
 ∃a vs c,e=[Value.ref a]/\args=[WData.list (c.map WData.int)]/\h.get? a=some {cls:= .type "list",data:= .seq vs.toArray}/\IntsAre vs c/\c.length<=n:=by
 have m:l.pre.holds [] _=true:=(pre_splitW b).2;obtain⟨d,r,rfl,p,q⟩:=hasAllW_cons ((pre_splitW b).1);obtain rfl:=hasAllW_nil q;obtain⟨xs,rfl,s⟩:=hasW_list p;obtain⟨c,rfl⟩:=items_int s;have f:c.length<=n:=by
  unfold OpenLaw.pre at m;have i:=by
   have i:=(holds_andW m).1;rw[o]at i;exact i
  have w:=condW_of i (w_not (w_lt w_lit (w_len_list (w_arg rfl))))
  grind
 cases j with
 | cons t u=>
   cases u;cases t with
   | list v g=>exact%[_,_,c,rfl,rfl,v,lP c _ g|f]
theorem wx(l:OpenLaw)(args:List WData):l.row.toRowW.claim.post args (.bool true) args=true:=
 postW_of
  (by first|rfl|simp|lia)
  (w_eq_bool (w_res rfl) w_lit) rfl
theorem attach_call{l:OpenLaw}{n:Nat}{q:Program}
 (H:l.most=some n) (t:d.params.defaults=[])
 (call:∀(w:World) (s₀ b:Shared) (mg u:ZC) (h:Addr) (o:Obj) (v p c:Value) (a:Addr) (vs:ZF) (s:ZK),
  Ground q e [] I w s₀ mg u b.heap->J w b.heap->
  b.heap.get? h=some o->o.data= .func (docDef d.name d.params d.body d.scope v p c)->b.heap.CodeRec p d.name->mg d.name=some (.ref h)->
  b.heap.get? a=some {cls:= .type "list",data:= .seq vs.toArray}->IntsAre vs s->s.length<=n->b.gens= #[]->
  codeAny (model l.prog w) callerA (.call (.ref h) %[[.ref a]|[]]) (λr s'=>r= .ok (.ret (.bool true))/\OldK b.heap s'.heap/\s'.os=b.os/\AllBare s'.gens) b):
 WalkO q e I J l.row.toRowW d [] (λf vs=>PySem.call f vs):=by
 intro w s₀ b mg u G Y h o v p c L kV M N y B z O args C as i E Q A T;obtain rfl:L= .none:=Dflts.none B t;obtain rfl:kV= .none:=Dflts.noKw B;obtain⟨a,vs,s,rfl,rfl,j,g,m⟩:=ww H i A;refine enter_call (codeAny_mono (call w s₀ b mg u h o v p c a vs s G Y M (fd_plain N) y z j g m O) λr s' U=>?_);obtain⟨rfl,h2,h3,h4⟩:=U;exact%[.inl %[.bool true,.bool true,[],rfl,λ_=>rfl,.bool true,wx l _|λ_=>%[List.Pairwise.nil|λ_ hm=>(nomatch hm)]],h2,h3|h4]
section
#where
variable{K:Frag}
end
end Att
namespace L2
open PySem PySem.Spec PyProof.Rows
theorem oX:∀{vs:ZF} {a:ZK},IntsAre vs a->aH (a.map V.int) vs
 | _,_,.nil=> .nil
 | _,_,.cons n t h=> .cons %[t|rfl] (oX h)
def Bo(H:Hp):Prop:=∀b,H b=none\/∃o xs,H b=some (.frz o (.lst xs))
theorem law_call{P:Program}{K:ZA}{mg G:ZC}{vs:ZF}
 (T:K.In c.heap) (p:c.heap.Ns mainGlobals mg) (g:c.heap.Ns builtinsNs G) (I:∀x:Str,x≠"__name__"->G x=bootBuiltins x) (t:c.heap.NoLimit) (hg:c.gens= #[])
 (J:c.heap.get? a=some {cls:= .type "list",data:= .seq vs.toArray}) (hi:IntsAre vs L) (U:L.length<=sizeLine) (hr:bV k callerA)
 (F:∀base:Heap,K.In base->base.Ns mainGlobals mg->eC P w K mg base CX k Y fd [x] sp) (l:∀(s:Shared) (u:Value),BindsTo s fd %[[u]|[]] [(x,u)])
 (M:∀H:Hp,Bo H->SqL K H a (L.map V.int)->sp [.ref a] H (λv _=>v= .bl true) λ_ _ _=>False)
 (N:∀H e s',CX [] H c (λ_ _ _=>False) e s'->False):
 codeAny (model P w) callerA (.call (.ref Y) %[[.ref a]|[]]) (λr s'=>r= .ok (.ret (.bool true))/\OldK c.heap s'.heap/\s'.os=c.os/\AllBare s'.gens) c:=by
 have rv:=oX hi;have j:∀H,Bo H->SqL K H a (L.map V.int)->HOk P w H c.heap->(∀b,H b≠none->b=a)->(H a≠none->K.lookup a=none)->
  codeAny (model P w) callerA (.call (.ref Y) %[[.ref a]|[]]) (λr s'=>r= .ok (.ret (.bool true))/\OldK c.heap s'.heap/\s'.os=c.os/\AllBare s'.gens) c:=by
  intro H hO hS y hA hK;have f:∀{b:Addr} {o:Obj},c.heap.get? b=some o->H b=none->(vY c.heap H).get? b=some o:=λe n=>x9 e n
  have O:∀{b:Addr} {o:Obj} {es:Array DictEntry} {E:Nat},c.heap.get? b=some o->o.data= .dict es E->H b=none:=λ{b o es E} e d=>by
   grind
  have i:∀{b:Addr} {m:ZC},c.heap.Ns b m->(vY c.heap H).Ns b m:=λ{b m} ⟨o,es,E,e,d,r⟩=>%[o,es,E,f e (O e d),d|r]
  have A:=λb o e=>f (T b o e) (by
   grind)
  refine codeAny_mono ((F _ A (i p)).run callerA [] c H _ _ [.ref a] _ _ hr %[rfl,%[A,i p,%[G,i g|I]|let⟨mc,h1,h2⟩:=t;%[mc,i h1|h2]],λb o e=>AO e,Nat.le_of_eq (vZ _ _),trivial,λb g=>absurd (show b∈([])from g) ∅,y|.of_eq hg] (l c _) (.cons rfl .nil) (M H hO hS)) λr s' h=>?_
  cases r with
  | error e=>exact(N H e s' h).elim
  | ok fl=>
    cases fl with
    | next=>exact False.elim h
    | brk=>exact False.elim h
    | cont=>exact False.elim h
    | ret u=>
      obtain⟨v,H',os,B,un,C,r',q⟩:=h;subst q;obtain rfl:u=Value.bool true:=r';refine%[rfl,OldK.of_keep λb o e=>?_,os|B];cases q:H b with
      | none=>exact un.keep b o e q (by intro z;exact absurd (show b∈([])from z) ∅) ∅
      | some u=>
        rcases hO b with z|⟨ob,xs,z⟩
        .rw[q]at z;cases z
        .obtain⟨e1,_⟩:=y b _ z;obtain⟨e2,_⟩:=C b _ (un.frzs b ob _ z);rw[e]at e1;cases e1;exact e2
 cases Q:K.lookup a with
 | some o=>
   have e:=T a o Q;rw[J]at e;cases e;refine j _ (λ_=> .inl rfl) (.inr %[_,vs.toArray,_,Q,rfl,rfl,rfl,by rw[Zo,hi.length];exact U|rv]) (λb u z=>by simp_all) (λb z=>absurd rfl z) λz=>absurd rfl z
 | none=>
   refine j (λb=>if b=a then some (.frz {cls:= .type "list",data:= .seq vs.toArray} _)else none) (λb=>?_) (.inl (.inr %[{cls:= .type _,data:= .seq vs.toArray}|if_pos rfl])) (λb u z=>?_) (λb z=>?_) λ_=>Q
   .by_cases g:b=a
    .exact .inr %[_,_|if_pos g]
    .exact .inl (if_neg g)
   .by_cases g:b=a
    .have z':=(if_pos g).symm.trans z;cases z';subst g;exact%[J,by rw[Z5];exact U,vs,_,rv|J]
    simp_all
   .by_cases g:b=a
    .exact g
    .exact absurd (if_neg g) z
theorem walk_of{l:PySem.W.OpenLaw}{I:(Str->Option Value)->Heap->Prop}{C:World->Heap->Prop}{d:DefRec}{K:Params->ZA}{CX:World->CXT}{sp:World->Sp}{x:Str}
 (J:l.most=some n) (p:n<=sizeLine) (r:d.params.defaults=[]) (L:bV k callerA)
 (M:∀(w:World) (h:Heap),C w h->(K w.params).In h)
 (F:∀(w:World) (mg:ZC) (j:Addr) (h:Heap),(K w.params).In h->h.Ns mainGlobals mg->mg d.name=some (.ref j)->
  ∃t:FuncData,(∀(s:Shared) (u:Value),BindsTo s t %[[u]|[]] [(x,u)])/\
   ∀base:Heap,(K w.params).In base->base.Ns mainGlobals mg->eC l.prog w (K w.params) mg base (CX w) k j t [x] (sp w))
 (y:∀(w:World) (H:Hp) (a:Addr) (m:ZK),m.length<=n->Bo H->SqL (K w.params) H a (m.map V.int)->sp w [.ref a] H (λv _=>v= .bl true) λ_ _ _=>False)
 (z:∀(w:World) (H:Hp) (s:Shared) (e:Value) (s':Shared),CX w [] H s (λ_ _ _=>False) e s'->False):
 PySem.W.WalkO q A I C l.row.toRowW d [] (λf vs=>PySem.call f vs):=by
 refine Att.attach_call J r λw s₀ g mg mb j o pm cd N a vs m G Y ho hd O B i c b Q=>?_
 have E:=M w _ Y;obtain⟨t,T,U⟩:=F w mg j _ E G.T.g B;exact law_call E G.T.g G.T.b G.T.builtins G.T.nolimit Q i c (Y9 b p) L U T (λH hO hS=>y w H a m b hO hS) λH e s'=>z w H g e s'
noncomputable def jK(s:Stmt)(j:Nat):Stmt:=match s with
 | .ClassDef _ _ _ a _ _ _ _ _ _ _=>a.getD j (.Pass %[0,0,0|0])
 | _=> .Pass %[0,0,0|0]
noncomputable def cc(s:Stmt):Arguments:=match s with
 | .FunctionDef _ a _ _ _ _ _ _ _ _=>a
 | _=>{posonlyargs:=[],args:=[],vararg:=none,kwonlyargs:=[],kw_defaults:=[],kwarg:=none,defaults:=[]}
noncomputable def bB(s:Stmt):List Stmt:=match s with
 | .FunctionDef _ _ b _ _ _ _ _ _ _=>b
 | _=>[]
noncomputable def ak(s:Stmt):Scope:=match s with
 | .FunctionDef _ _ _ _ _ _ a _ _ _=>a
 | _=>{kind:= .function,names:=[],isGenerator:=false,isCoroutine:=false}
noncomputable abbrev CX0:CXT:=λ_ _ _ _ _ _=>False
noncomputable abbrev E0:XK:=λ_ _ _=>False
theorem y8{X:Cx}:jp CX0 X E0:=λ_ _ _ _ _ _ _ h=>h.elim
structure Fun (K:ZA) (x qual:Str) (st:Stmt) (f:Addr) (fd:FuncData):Prop where
 ex:∃oc od kV doc pm an cdv ct osl,
  fd=fnOf x qual (cc st) (bB st) (ak st) .none kV doc pm an cdv ct/\K.lookup f=some %[oc,od,.func fd|osl]/\codeIn K cdv qual=true
 kp:keepIn K (.ref f)=true
section
variable{P:Program}{w:World}{K:ZA}{mg:ZC}{base:Heap}
theorem Fun.ok{x a:Str}{st:Stmt}{f:Addr}{g:FuncData}{N ps:ZB}{k:Nat}{sp:Sp}(F:Fun K x a st f g)(S:au N ps (ak st))(len:∀vs H Q E,sp vs H Q E->vs.length=ps.length)
 (c:∀b (A:Around) (outer:List Env) s H (vs:List V) Q E,bV k (A.deeper (envOfC a (ak st) ⇑s f b))->sp vs H Q E->
  ∃t,PSs (p8 CX0 P w K mg base N a (ak st) f b A outer s H E).nox (bB st) t/\t {nx:=λ_ i=>Q .non i,rt:=Q} (start N vs) H):eC P w K mg base CX0 (k+1) f g ps sp:=by
 obtain⟨n,o,kV,j,p,r,b,ct,l,rfl,lk,d⟩:=F.ex;refine FC lk d S len λA outer s H vs Q E m e=>?_
 obtain⟨t,h,q⟩:=c b A outer s H vs Q E m e;exact%[t,h.nox|q]
theorem Fun.binds{st:Stmt}(F:Fun K x c st f g)
 (h:∀(kV a d:Value) (e:ZH) (b ct:Value) (us:ZF),us.length=ps.length->bindArgs (fnOf x c (cc st) (bB st) (ak st) .none kV a d e b ct) %[us|[]]=pure (ps.zip us)):fC K g ps []:=by
 obtain⟨l,m,kV,a,d,e,b,ct,i,rfl,lk,j⟩:=F.ex;exact .all (h kV a d e b ct)
theorem eS{st:Stmt}{kV d e b ct:Value}(l:K.lookup f=some %[i,j,.func (fnOf x a (cc st) (bB st) (ak st) .none kV d e h b ct)|g])
 (c:codeIn K b a=true) (k:keepIn K (.ref f)=true):Fun K x a st f (fnOf x a (cc st) (bB st) (ak st) .none kV d e h b ct):=%[%[i,j,kV,d,e,h,b,ct,g,rfl,l|c]|k]
end
section
variable{X:Cx}
theorem pv(i:Nat)(b:X.N[i]? =some x)(c:Vis X.env.scope x)(d:(x==("__debug__":Str))=false)
 (a:(x==("__classdict__":Str))=false):PE X (.Name x pos) (nV i):=yb b c d a
end
theorem D0{A B:Prop}(h:B):if false=true then A else B:=by
 simp_all
theorem bi{c A B:Prop}[Decidable c](a:c->A)(b: ¬ c->B):if c then A else B:=by
 simp_all
def af(H a:Hp):Prop:=∀b o,H b=some o->a b=some o
theorem af.refl(H:Hp):af H H:=λ_ _ h=>h
theorem af.trans{H d e:Hp}(a:af H d)(b:af d e):af H e:=λc o h=>b c o (a c o h)
theorem af.free{H a:Hp}(e:af H a){l:Addr}(h:a l=Option.none):H l=Option.none:=by
 cases q:H l with
 | none=>rfl
 | some o=>
   rw[e l o q]at h;cases h
theorem af.seq{K:ZA}(e:af H b)(h:SqL K H a xs):SqL K b a xs:=by
 rcases h with(h|⟨o,h⟩)|h
 .exact .inl (.inl (e _ _ h))
 .exact .inl (.inr %[o|e _ _ h])
 .exact .inr h
section
variable{X:Cx}
theorem wz:bX X (.builtin "len") (λxs H Q=>∃a b,xs=[V.ref a]/\H a=some (.dK b)/\Q (.int b.length) H):=by
 intro pins s f H xs us Q I r h;obtain⟨a,b,rfl,c,q⟩:=h;obtain⟨u,rfl,d⟩:=cI r;cases d;exact FG I (.inl c) λt s' e=>%[.int b.length,H,e,%[t|rfl]|q]
end
section
variable{κ:Type}[DecidableEq κ]
theorem Bp{a:List (κ×V)}(h:bz a k=some v):k∈a.map (·.1):=by
 have q:(a.any λb=>decide (b.1=k))=true:=by
  rw[iC,h]
  all_goals rfl
 simp_all
theorem l8:∀{l:List κ} {k:κ},l.Nodup-> ¬ k∈l->(l++[k]).Nodup
 |[],k,_,_=>by simp
 | a::r,k,h,b=>by
   obtain⟨c,d⟩:=nodup_cons.mp h;refine nodup_cons.mpr %[λm=>?_|l8 d λm=>b (mem_cons.mpr (Or.inr m))];rcases X8 m with q|q
   .exact c q
   .exact b (mem_cons.mpr (Or.inl (X9 q).symm))
end
noncomputable def mC(env:Env):List (Str×NameKind)->List (Str×Addr)->List (Str×Addr)
 |[],acc=>acc
 |(n,k)::r,acc=>mC env r (if k= .free then(n,(env.cells.lookup n).getD 0)::acc else acc)
theorem mD:∀(names:List (Str×NameKind)) (acc:List (Str×Addr)),(∀y∈names,y.2= .free->∃c,env.cells.lookup y.1=some c)->
 (forIn names acc λx r=>match x with
  |(name,kind)=>if(kind==NameKind.free)=true then do let a<-cellOf env name;pure (ForInStep.yield ((name,a)::r))else pure (ForInStep.yield r):Sem (List (Str×Addr)))=pure (mC env names acc)
 |[],acc,_=>rfl
 |(n,k)::r,acc,h=>by
  have d:=λacc=>mD r acc λy f=>h y (Zj _ f)
  rw[forIn_cons];by_cases b:k= .free
  .subst b;obtain⟨c,e⟩:=h _ Zl rfl;have g:cellOf env n=pure c:=by unfold cellOf;rw[e]
   simp only[beq_self_eq_true,if_true,g,pure_bind];rw[d];show _=pure (mC env r _);rw[if_pos rfl,e]
   all_goals rfl
  .have i:(k==NameKind.free)=false:=by simpa using b
   simp only[i,Zx,if_false,pure_bind];rw[d];show _=pure (mC env r _);rw[if_neg b]
theorem Bq(h:∀y∈a.names,y.2= .free->∃c,env.cells.lookup y.1=some c):closureFor a env=pure (mC env a.names []):=by
 unfold closureFor;simp only[bind_pure];exact(mD a.names [] h)
theorem rK:∀(names:List (Str×NameKind)) (acc:List (Str×Addr)),(∀y∈names,y.2= .free->∃c,env.cells.lookup y.1=some c)->
 (∀y d,acc.lookup y=some d->env.cells.lookup y=some d)->(mC env names acc).lookup x=some c->env.cells.lookup x=some c
 |[],acc,_,a,e=>a x c e
 |(n,k)::r,acc,h,a,e=>by
  refine rK r _ (λy b=>h y (Zj _ b)) (λy d q=>?_) e;by_cases f:k= .free
  .rw[if_pos f,Yf]at q;obtain⟨g,i⟩:=h _ Zl f;cases b:y==n with
   | true=>
     simp_all
   | false=>rw[b]at q;exact a y d q
  .rw[if_neg f]at q;exact a y d q
theorem mE:∀(names:List (Str×NameKind)) (acc:List (Str×Addr)),(∃c,acc.lookup x=some c)->∃c,(mC env names acc).lookup x=some c
 |[],_,h=>h
 |(n,k)::r,acc,h=>by
  refine mE r _ ?_;by_cases a:k= .free
  .rw[if_pos a,Yf];cases b:x==n with
   | true=>exact%[_|rfl]
   | false=>exact h
  .rw[if_neg a];exact h
theorem mF:∀(names:List (Str×NameKind)) (acc:List (Str×Addr)),(x,NameKind.free)∈names->∃c,(mC env names acc).lookup x=some c
 |[],_,h=>by simp at h
 |(n,k)::r,acc,h=>by
  rcases mem_cons.mp h with e|h
  .refine mE r _ ?_
   simp_all
  .exact mF r _ h
noncomputable def bK(X:Cx)(a:Scope)(d:ZB)(b:Shared)(c:Hp)(e:List Addr):Cx:=
 {X with
  N:=d
  s₀:=b
  H₀:=c
  env:=compEnvC a (cellsFrom (⇑b+1) a.names (mC X.env a.names [])) ⇑b X.env
  outer:=X.stack
  stack:=X.stack
  ex:=e
  fn:=λx=>decide (a.names.lookup x=some .cell)
  pn:=[]
  xe:=λ_ _=>False}
structure ay (X:Cx) (scope:Scope) (N':ZB) (cap:List (Nat×Nat)):Prop where
 kind:scope.kind= .function
 cell:∀y∈scope.names,y.2= .cell->scope.names.lookup y.1=some .cell
 loc:∀y∈scope.names,y.2= .local->scope.names.lookup y.1=some .local
 free:∀y∈scope.names,y.2= .free->X.env.kindOf y.1=some .cell\/X.env.kindOf y.1=some .free
 capt:∀p∈cap,∃x,N'[p.1]? =some x/\X.N[p.2]? =some x/\scope.names.lookup x=some .free
noncomputable def oY(n:Nat)(a:List (Nat×Nat))(b:St):St:=(List.range n).map λj=>(a.lookup j).bind λi=>(b[i]?).join
theorem lD:∀{l:List _} {j i:Nat},l.lookup j=some i->(j,i)∈l
 |[],_,_,h=>by simp at h
 |(a,b)::r,j,i,h=>by
  rw[Yf]at h;cases c:j==a with
  | true=>
    simp_all
  | false=>rw[c]at h;exact Zj _ (lD h)
theorem lE{env:Env}{names:List (Str×NameKind)}{x:Str}{k:NameKind}(h:(names.map λ(n,k)=>if(k==NameKind.free&&env.scope.kind== .function&&env.kindOf n==some .cell)then(n,NameKind.cell)else(n,k)).lookup x=some k)
 (a:k= .cell\/k= .free):(x,NameKind.free)∈names\/(x,NameKind.cell)∈names:=by
 have m:=PySem.mem_of_lookup h
 grind
theorem eM:∀names n acc,cellsFrom n names acc=cellsFrom n names [] ++acc
 |[],_,_=>rfl
 |(x,k)::r,n,acc=>by
  unfold cellsFrom
  split
  .rw[eM r _ _,eM r _ [(x,n)],Zd];rfl
  .exact eM r n acc
theorem kz:∀{names:List (Str×NameKind)} {n:Nat},(x,c)∈cellsFrom n names []->(x,NameKind.cell)∈names
 |[],_,h=>nomatch h
 |(y,k)::r,n,h=>by
  unfold cellsFrom at h
  split at h
  .rw[eM]at h;rcases X8 h with q|q
   .exact Zj _ (kz q)
   grind
  .exact Zj _ (kz h)
theorem lF(h:(cellsFrom n names acc).lookup x=some c):(x,c)∈cellsFrom n names []\/((cellsFrom n names []).lookup x=none/\acc.lookup x=some c):=by
 rw[eM,List.lookup_append]at h;cases e:(cellsFrom n names []).lookup x with
 | none=>rw[e]at h;exact .inr %[rfl|h]
 | some d=>
   rw[e]at h;have:=by simpa using h
   exact this▸ .inl (PySem.mem_of_lookup e)
theorem jL{env:Env}:∀{names:List (Str×NameKind)} {x:Str},names.lookup x=some .free->
 (names.map λ(n,k)=>if(k==NameKind.free&&env.scope.kind== .function&&env.kindOf n==some .cell)then(n,NameKind.cell)else(n,k)).lookup x=some .cell\/
 (names.map λ(n,k)=>if(k==NameKind.free&&env.scope.kind== .function&&env.kindOf n==some .cell)then(n,NameKind.cell)else(n,k)).lookup x=some .free
 |[],_,h=>by simp at h
 |(n,k)::r,x,h=>by
  have c:= @jL env r x;simp only[Yj];cases a:x==n with
  | true=>
    rw[Yf,a]at h;have d:=Z9 h;subst d;by_cases b:((NameKind.free==NameKind.free)&&env.scope.kind== .function&&env.kindOf n==some .cell)=true
    .rw[if_pos b,Yf,a];exact .inl rfl
    .rw[if_neg b,Yf,a];exact .inr rfl
  | false=>
    rw[Yf,a]at h;by_cases b:(k==NameKind.free&&env.scope.kind== .function&&env.kindOf n==some .cell)=true
    .rw[if_pos b,Yf,a];exact(c h)
    .rw[if_neg b,Yf,a];exact(c h)
section
#version
theorem Inv.kindL(I:Inv X pins σ H s)(h:X.env.kindOf x=some .cell\/X.env.kindOf x=some .free):∃c,X.env.cells.lookup x=some c:=I.ok.has x h
theorem Inv.block{a:Scope}{C:ZB}{fp:List Addr}{f:Heap}{tk:Nat}(S:ay X a C n)(I:Inv X pins σ H s)(O:∀b∈fp,lO X pins H b)(J:∀b∈fp,b<⇑s)
 (hn:f.Ns ⇑s (λ_=>none)) (A:∀b u,s.heap.get? b=some u->f.get? b=some u) (nc:CellsOk f (⇑s+1) (cellsFrom (⇑s+1) a.names [])):
 Inv (bK X a C s H fp) [] (oY C.length n σ) H {s with heap:=f,toks:=tk}:=by
 have h:∀x c,(mC X.env a.names []).lookup x=some c->X.env.cells.lookup x=some c:=λx c e=>rK a.names [] (λy hy hk=>I.kindL (S.free y hy hk)) (λ_ _ q=>by simp at q) e
 have o:∀x c,(cellsFrom (⇑s+1) a.names (mC X.env a.names [])).lookup x=some c->((x,c)∈cellsFrom (⇑s+1) a.names []/\f.IsCell c none/\⇑s+1<=c)\/(X.env.cells.lookup x=some c/\c<⇑s):=λx c e=>by
  rcases lF e with q|⟨_,q⟩
  .exact .inl %[q|nc.empty x c q]
  .have q':=h x c q;obtain⟨v,G,L,_⟩:=I.cell x c q';exact .inr %[q'|Zt L]
 refine%[%[I.ok.mod,S.kind,I.ok.glob,I.ok.blt,Zh _,λx y c h1 h2=>?_,λx hx=>?_,λx c hq e=>?_,I.ok.hd,I.ok.frames,.inl rfl,λb g=>%[?_|λx c e=>?_],I.bs,
  Y9 I.ok.bsz I.sz,λb u e g=>?_,λb g Q=>?_,I.stack|I.stkFree],rfl,I.bare,Un.kept A,%[_,hn|λj x v e1 e2 e3=>?_],λx c e=>?_,I.hok.fresh (Zh _),λx c e=>?_,λp hp=>?_,I.hok.kept A|?_]
 .rcases o x c h1 with⟨q1,_,q2⟩|⟨q1,q2⟩<;> rcases o y c h2 with⟨r1,_,r2⟩|⟨r1,r2⟩
  .exact name_of_addr nc.apart q1 r1
  .exact absurd r2 (Nat.not_lt_of_le (Y9 (Y8 _) q2))
  .exact absurd q2 (Nat.not_lt_of_le (Y9 (Y8 _) r2))
  .exact I.ok.inj x y c q1 r1
 .have:(x,NameKind.free)∈a.names\/(x,NameKind.cell)∈a.names:=by
   rcases hx with q|q
   .exact lE q (.inl rfl)
   .exact lE q (.inr rfl)
  refine isSome_iff_exists.mp (cellsFrom_some a.names _ _ ?_);rcases this with q|q
  .exact .inr (isSome_iff_exists.mpr (mF a.names [] q))
  .exact .inl (S.cell _ q rfl)
 .rcases lF e with q|⟨q,_⟩
  .have:=(nc.empty x c q).2;show ⇑s<=c
   lia
  .have:=cellsFrom_some a.names (⇑s+1) [] (.inl (Zn hq));rw[q]at this;cases this
 .exact Zr (J b g)
 .rcases o x c e with⟨_,_,q⟩|⟨q,_⟩
  .exact λz=>absurd (J b g) (Nat.not_lt_of_le (Y9 (Y8 _) (z▸q)))
  .exact(O b g).2.2.2.2.1 x c q
 .rcases(O b g).2.2.2.1 with z|z
  .exact I.ok.noex b u e z
  .exact absurd (Zf (Zt e) (Y9 I.ok.bsz z)) (X5 _)
 .rcases mem_cons.mp (I.stkSub b Q)with z|z
  .exact(O b g).2.1 z
  .exact(O b g).2.2.1 z
 ·
  have hj:∃i,n.lookup j=some i/\σ[i]? =some (some v):=by
   have t:((List.range C.length).map _)[j]? =some _:=e2;rw[Zk]at t;cases hr:(List.range C.length)[j]? with
   | none=>rw[hr]at t;cases t
   | some j'=>
     rw[hr]at t;have ab:j'=j:=by
      have:=X7 hr;obtain⟨h1,h2⟩:=this;simpa using h2.symm
     subst ab;have B:((n.lookup j').bind _)=some v:=Z9 t;cases T:n.lookup j' with
     | none=>rw[T]at B;cases B
     | some i=>
       rw[T]at B;refine%[i,rfl|?_];have U:(σ[i]?).join=some v:=B;cases Q:σ[i]? with
       | none=>rw[Q]at U;cases U
       | some w=>rw[Q]at U;have:w=some v:=U;rw[this]
  obtain⟨i,T,hi⟩:=hj;obtain⟨y,n1,n2,Y⟩:=S.capt _ (lD T);have ae:=Z9 (n1.symm.trans e1);subst ae;have M:=S.free _ (PySem.mem_of_lookup Y) rfl;obtain⟨m,hm,hl⟩:=I.loc;obtain⟨u,r,l⟩:=hl i y v n2 hi (by rcases M with q|q;exact .inr (.inl q);exact .inr (.inr q));refine%[u,r|.inr %[?_|?_]]
  .exact jL Y
  .rcases l with⟨k,_⟩|⟨_,c,E,hv⟩
   .rcases M with q|q
    .rw[k]at q;cases q
    .rw[k]at q;cases q
   .obtain⟨c',N⟩:=mF a.names [] (PySem.mem_of_lookup Y);have:=h y c' N;rw[E]at this;have e5:=Z9 this;subst e5;obtain⟨G,L,hd⟩:=hv;refine%[c,?_,G,A c G L|hd];show(cellsFrom _ _ _).lookup y=some c;rw[eM,List.lookup_append];cases e6:(cellsFrom _ a.names []).lookup y with
    | none=>simpa using N
    | some d=>
      have:=S.cell _ (kz (PySem.mem_of_lookup e6)) rfl;rw[Y]at this;cases this
 .rcases o x c e with⟨_,q,_⟩|⟨q,_⟩
  .exact%[none|q]
  .obtain⟨v,G,L,hd⟩:=I.cell x c q;exact%[v,G,A c G L|hd]
 .rcases o x c e with⟨_,_,q⟩|⟨q,_⟩
  .exact I.hok.fresh ⋯
  .exact I.freeC x c q
 .exact absurd (show p∈([])from hp) ∅
 .show(oY C.length n σ).length=C.length;unfold oY;rw[Z5,Yc]
end
def PTs(X:Cx)(a:List Expr)(t:TT):Prop:=
 ∀pins s (b:St) H Q,Inv X pins b H s->t b H Q->
  (~~~X) (forIn a true λc r=>if r=true then do let ok<-isTrue c X.env (eval c X.env);pure (ForInStep.yield ok)else pure (ForInStep.yield r)) (TP X pins b Q) X.xe s
def wA:TT:=λ_ H Q=>Q true H
theorem Br{X:Cx}:PTs X [] wA:=λ_ _ _ H _ I h=>wpAny_tests_nil %[H,I|h]
theorem Bs{X:Cx}(h:PT X c t):PTs X [c] t:=λpins s a H Q I q=>wpAny_tests_one (h pins s a H Q I q)
def oZ(q:TI)(n:Nat)(f:List (Nat×Nat))(g:TG)(r:TT)(s:TE):TE:=λh H Q=>q h H λJ j=>∀D,j D=none->∃W:Nat->Nat->List V->St->Hp->Prop,
 (∃m,W 0 m [] (oY n f h) (upd j D (.lst [])))/\∀i m ys c d,W i m ys c d->(J.stop i d/\Q (.ref D) d)\/
  (J.go i d/\∀x l,J.yld i d x l->g x c l λa t=>r a t λb o=>if b=true then s a o λy p=>∃zs e,p D=some (.lst zs)/\zs.length<sizeLine/\e<m/\W (i+1) e (ys++[y]) a (upd p D (.lst (zs++[y])))
   else∃e,e<m/\W (i+1) e ys a o)
theorem Bt{code:Value}
 (j:∀h',h'.Ns ⇑s (λ_=>none)->(∀b u,s.heap.get? b=some u->h'.get? b=some u)->CellsOk h' (⇑s+1) (cellsFrom (⇑s+1) a.names [])->
  Q (newEnv a ⇑s d (cellsFrom (⇑s+1) a.names f) g h code (some env) c) (s>>>h')):wpAny M A (newFunctionEnv a d f [] g h code (some env) c) Q E s:=by
 refine Z2 (wpAny_alloc (Z2 (wpAny_layCells _ (λname kind i=>by lia) _ _ _ _ ?_)));have ok:=cellsFrom_ok a.names (s.heap.push {cls:= .type "dict",data:= .dict #[]}) (⇑s+1) [] %[λ_ _ l=>(nomatch l)|List.Pairwise.nil] ∅;rw[Zp]at ok;rw[Zp ..];exact Z2 (Z3 (Z3 (j _ ((Heap.Ns.new s.heap _).keeps (pushCells_keeps _ _)) (λb u e=>pushCells_keeps _ _ b u (Z6 _ e)) ok)))
theorem pc{X:Cx}{a:Scope}(S:ay X a N' a3)(hc:X.calm=true)(hi:PI X tg iter wi)
 (hg:∀L M A,PG (bK X a N' L M A) tg g) (ht:∀L M A,PTs (bK X a N' L M A) a4 tc) (he:∀L M A,PE (bK X a N' L M A) a5 te)
 (hs:∀x,foldedSetIterable iter X.env x=pure x) (I:Inv X pins σ H s) (h:oZ wi N'.length a3 g tc te σ H Q)
 (a6:∀(D C:Addr) (O:Hp) (s6:Shared) (fl:Flow) (m:ZC),s6.heap.Ns C m->lO X pins O C->(∀h',SameBut C s6.heap h'->Inv X pins σ O (s6>>>h'))->Q (.ref D) O->compPost (model X.prog X.w) X.A X.xe use QQ (.ref D) C (.ok fl) s6):
 (~~~X) (comprehension (.ListComp a5 [%[tg,iter,a4|0]] a pos) a X.env b9 (newList []) false (eval iter X.env) use) QQ X.xe s:=by
 refine wpAny_comprehension_free (use:=use) rfl hs (Bq (λy hy hk=>I.kindL (S.free y hy hk))) S.kind S.loc (thn (hi pins s σ H _ I h) λv s1 h1=>thn h1 λca l h2=>?_);obtain⟨it,A,tn,J,H2,e,I2,T,a7,f2,R⟩:=h2;subst e;refine wpAny_newObj_type (Bt λU Y N ab=>?_);dsimp only at Y N ab ⊢;have I3:Inv X pins σ (upd H2 ⇑l (.lst [])) {l with heap:=l.heap.push {cls:= .type "list",data:= .seq ([]:ZF).toArray}}:=I2.lnew (its:=[]) (t':=l.toks) .nil (X1 _);have hD:H2 ⇑l=none:=I2.fresh;have al:∀b∈A,b<⇑l:=λb j=>by obtain⟨o,ho,_⟩:=T.obj 0 _ a7 b j;exact Zt ho
 generalize a0:({l with heap:=l.heap.push {cls:= .type "list",data:= .seq ([]:ZF).toArray}}:Shared)=B at I3
 have G:B.heap=l.heap.push {cls:= .type "list",data:= .seq ([]:ZF).toArray}:=by rw[<-a0]
 have a8:⇑B=⇑l+1:=by rw[G,Zp]
 have f3:∀b∈A,lO X pins (upd H2 ⇑l (.lst [])) b:=λb j=>%[(am (Zr (al b j)))▸(f2 b j).1|(f2 b j).2]
 obtain⟨W,⟨m0,w0⟩,a9⟩:=R _ hD;have ag:∀b u,B.heap.get? b=some u->U.get? b=some u:=G▸N;have I4:Inv (bK X a N' B (upd H2 ⇑l (.lst [])) A) [] (oY N'.length a3 σ) (upd H2 ⇑l (.lst [])) {B with heap:=U,toks:=B.toks}:=I3.block S f3 (λb j=>a8▸Yg (al b j)) (G▸Y) ag (G▸ab);have bb:tn 0 U:=T.keep _ _ _ a7 λb j o e=>ag b o (G▸Z6 _ e)
 have cd:(bK X a N' B (upd H2 ⇑l (.lst [])) A).env=compEnvC a _ ⇑B X.env:=rfl;have ai:∀{H':Hp},(∀b∈A,H' b=none)->∀b∈A,lO _ [] H' b:=λhn b j=>
  %[hn b j,(I4.ok.exf b j).1,I4.ok.exfs b j,.inl j,(I4.ok.exf b j).2|λp hp=>absurd (show p∈([]:ZE)from hp) ∅]
 have an:codeAny (model X.prog X.w) X.A (.compLoop (.ListComp a5 [%[tg,iter,a4|0]] a pos) 0 (.ref it) (.ref ⇑l) (bK X a N' B (upd H2 ⇑l (.lst [])) A).env)
  (compPost (model X.prog X.w) X.A X.xe use QQ (.ref ⇑l) ⇑B) {B with heap:=U,toks:=B.toks}:=by
  refine codeAny_loop rfl (λn s'=>∃i ys bf H',Inv _ [] bf H' s'/\tn i s'.heap/\(∀b∈A,H' b=none)/\W i n ys bf H') ?_ m0 %[0,[],_,_,I4,bb,λb j=>(f3 b j).1|w0];rintro n s5 ⟨i,ys,aj,O,I5,bl,bm,w5⟩;show wpAny _ X.A _ _ _ s5;refine wpAny_noted ?_;rw[compTurn_list];refine Z2 (wpAny_standAt (Z2 ?_));rcases a9 i n ys aj O w5 with⟨stop,q⟩|⟨go,step⟩
  .refine thn (T.done (bK X a N' B (upd H2 ⇑l (.lst [])) A) rfl rfl rfl hc i [] s5 aj O _ I5 (ai bm) bl stop) λr s6 ⟨hr,I6⟩=>?_
   subst hr;refine Z3 ?_;obtain⟨m6,bt,_⟩:=I6.loc;refine a6 ⇑l ⇑B O s6 _ m6 bt (I2.fpOk (a8▸Y8 _) I6.free) (λh' sb=>?_) q;have u6:Un (frs X.stack) A (upd H2 ⇑l (.lst [])) O B.heap s6.heap:=I6.base;have a1:∀b u,B.heap.get? b=some u->b≠⇑B:=λb u e=>Zr (Zt e)
   have u7:Un (frs X.stack) A (upd H2 ⇑l (.lst [])) O B.heap h':=%[λb u e n j hx=>(sb.2 b (a1 b u e)).trans (u6.keep b u e n j hx),λb u e n j hx=>by
    obtain⟨sl,q⟩:=u6.slot b u e n j hx;exact%[sl|(sb.2 b (a1 b u e)).trans q],u6.free,λb u e hx=>by
    obtain⟨o',q⟩:=u6.there b u e hx;exact%[o'|(sb.2 b (a1 b u e)).trans q],u6.tups,u6.frzs|u6.tbls]
   have bU:HOk X.prog X.w O h':=λb u e=>by
    have bn:∀c w,O c=some w->c≠⇑B:=λc w q z=>by
     have:O ⇑B=none:=I6.free;rw[z,this]at q;cases q
    refine(I6.hok b u e).stay (λc w b0 q=>(sb.2 c ?_).trans q) (λ_ q=>q) λ_ _ q=>q
    rcases b0 with z|z
    .exact z▸bn b u e
    .exact bn c _ z
   exact I2.call' (s':=(s6>>>h')) (ch:=A) (by show s6.os=l.os;rw[I6.os,<-a0];rfl) ((Un.laid (λb u e=>G▸Z6 _ e) (Zh _) hD).trans u7) bU I6.bare λb j=>%[(f2 b j).2.2.2.1,(f2 b j).2.1,(f2 b j).2.2.2.2.1|(f2 b j).2.2.2.2.2]
  .refine thn (T.item (bK X a N' B (upd H2 ⇑l (.lst [])) A) rfl rfl rfl hc i [] s5 aj O _ I5 (ai bm) bl go) λr s6 ⟨u,hr,h6⟩=>?_
   subst hr;refine Z2 (thn h6 λ_ s7 ⟨x,H7,I7,r7,y7,a2,b1⟩=>?_);have ae:∀{α:Type} {t:Sem α} {Q1:α->Shared->Prop} {E2:ZD} {s':Shared},(~~~X) t Q1 (λ_ _=>False) s'->(~~~X) t Q1 E2 s':=λh=>wpAny_mono h (λ_ _ q=>q) λ_ _ f=>f.elim
   have as:∀{E:St} {H8:Hp} {s8:Shared},Inv (bK X a N' B (upd H2 ⇑l (.lst [])) A) ([] ++pZ A s7.heap) E H8 s8->
    Inv _ [] E H8 s8/\tn (i+1) s8.heap/\∀b∈A,H8 b=none:=λ{E H8 s8} I8=>by
    refine%[I8.unpinned,T.keep _ _ _ a2 λb j o e=>(I8.pin (b,o) (Yn _ (Yn _ (eQ j e)))).1|λb j=>?_];obtain⟨o,e,d⟩:=T.obj _ _ a2 b j;exact(I8.pin (b,o) (Yn _ (Yn _ (eQ j e)))).2.1
   refine Z2 (ae (thn (hg B _ A _ s7 aj H7 x u _ (I7.pinned (ai b1) (T.obj _ _ a2)) r7 (step x H7 y7)) λ_ s8 ⟨E,H8,I8,q8⟩=>Z2 (ae (thT (ht B _ A _ s8 E H8 _ I8 q8) λb s9 H9 I9 q9=>?_))));cases b with
   | false=>
     obtain⟨m',hm,w9⟩:=(q9)
     obtain⟨J1,J2,J3⟩:=as I9;exact Z3 %[rfl,m',hm,i+1,ys,E,H9,J1,J2,J3|w9]
   | true=>
     have q9:=(q9:te E H9 λy O=>∃zs m',O ⇑l=some (.lst zs)/\zs.length<sizeLine/\m'<n/\W (i+1) m' (ys++[y]) E _)
     refine Z2 (Z2 (ae (thP (he B _ A _ s9 E H9 _ I9 q9) λu2 b2 y bp b3 b4 ⟨zs,m',hz,hl,hm,b5⟩=>Z2 (ae (thP (oU _ b2 E bp (.ref ⇑l) [y] (.ref ⇑l) [u2] (λv H'=>v= .non/\H'=upd bp ⇑l (.lst (zs++[y]))) b3 rfl (.cons b4 .nil) %[_,rfl,_,hz,hl,rfl|rfl]) λu3 cl v3 co b6 cp ⟨cs,b7⟩=>?_)))));subst b7;obtain⟨J1,J2,J3⟩:=as b6;exact Z3 (Z3 %[rfl,m',hm,i+1,ys++[y],E,_,J1,J2,J3|b5])
 subst a0;exact(codeAny_compStart_list an (T.self _ 0 _ _ _ bb an))
theorem Bu{X:Cx}(S:ay X a e f)(n:X.calm=true)(hi:PI X l iter o)
 (p:∀b c d,PG (bK X a e b c d) l g) (r:∀b c d,PTs (bK X a e b c d) i t) (u:∀b c d,PE (bK X a e b c d) j v)
 (w:∀x,foldedSetIterable iter X.env x=pure x):
 PE X (.ListComp j [%[l,iter,i|0]] a pos) (oZ o e.length f g t v):=by
 intro pins s B H Q I h;exact pc S n hi p r u w I h λD C y E G m z _ k q=>%[m,z|λh' A=>%[.ref D,y,k h' A,rfl|q]]
noncomputable def Its(z:Str):It:=⟨λi _=>i<z.cps.size,λi H x a=>a=H/\∃c,z.cps[i]? =some c/\x= .str ⟨#[c]⟩,λi _=>z.cps.size<=i⟩
theorem ub{P:Program}{K:ZA}(it:Addr)(z:Str)(t:Tok):mw P w K tg (Its z) [it] it (λi h=>h.IsStrIter it "str_ascii_iterator" z t i) where
 mem:=by simp
 obj:=λi h st b hb=>by
  have e:=by simpa using hb
  subst e;obtain⟨o,e,c,d⟩:=st;exact%[o,e|λv z=>by lia]
 keep:=λi h h' st k=>by
  obtain⟨o,e,r⟩:=st;exact%[o,k it ∅ o e|r]
 item:=by
  intro X hP hw hK hc i pins s σ H E I hf st hg;have hlt:i<z.cps.size:=hg;obtain⟨f0,f1,f2,f3,f4,f5⟩:=hf it ∅;refine wpAny_pyNext_ascii_item st (c:=z.cps[i]) ∅ λh' st' sb=>?_
  obtain⟨o,e,c,d⟩:=id st';exact%[_,rfl|oN e c d (by decide) %[.str _,H,(I.turned (λb o hb e=>(sb.2 b hb).trans e) f0 f1 f3 f4 f5),%[_|rfl],%[rfl,_,by simp|rfl],st'|λb hb=>(hf b hb).1]]
 done:=by
  intro X hP hw hK hc i pins s σ H E I hf st hg;have hle:z.cps.size<=i:=hg;obtain⟨f0,f1,f2,f3,f4,f5⟩:=hf it ∅;exact wpAny_pyNext_ascii_end (I.ok.hd hc) st (by simp[hle]) λh' eb=>%[rfl|I.turned (λb o hb e=>eb b o hb e) f0 f1 f3 f4 f5]
 self:=λ_ _ _ _ _ st h=>wpAny_pyIter_striter_ascii st h
theorem wB{P:Program}{K:ZA}(it:Addr)(z:Str)(t:Tok):mw P w K tg (Its z) [it] it (λi h=>h.IsStrIter it "str_iterator" z t i) where
 mem:=by simp
 obj:=λi h st b hb=>by
  have e:=by simpa using hb
  subst e;obtain⟨o,e,c,d⟩:=st;exact%[o,e|λv z=>by rw[d]at z;cases z]
 keep:=λi h h' st k=>by
  obtain⟨o,e,r⟩:=st;exact%[o,k it ∅ o e|r]
 item:=by
  intro X hP hw hK hc i pins s σ H E I hf st hg;have hlt:i<z.cps.size:=hg;obtain⟨f0,f1,f2,f3,f4,f5⟩:=hf it ∅;refine wpAny_pyNext_wide_item st (c:=z.cps[i]) ∅ λh' st' sb=>?_
  obtain⟨o,e,c,d⟩:=id st';exact%[_,rfl|oN e c d (by decide) %[.str _,H,(I.turned (λb o hb e=>(sb.2 b hb).trans e) f0 f1 f3 f4 f5),%[_|rfl],%[rfl,_,by simp|rfl],st'|λb hb=>(hf b hb).1]]
 done:=by
  intro X hP hw hK hc i pins s σ H E I hf st hg;have hle:z.cps.size<=i:=hg;obtain⟨f0,f1,f2,f3,f4,f5⟩:=hf it ∅;exact wpAny_pyNext_wide_end (I.ok.hd hc) st (by simp[hle]) λh' eb=>%[rfl|I.turned (λb o hb e=>eb b o hb e) f0 f1 f3 f4 f5]
 self:=λ_ _ _ _ _ st h=>wpAny_pyIter_striter_wide st h
def CK(D:Addr)(n i:Nat)(Pv:Nat->List V->St->Hp->Prop)(ys:List V)(b:St)(y:V)(H:Hp):Prop:=
 ∃zs a,H D=some (.lst zs)/\zs.length<sizeLine/\a<n-i/\(a=n-(i+1)/\i+1<=n/\Pv (i+1) (ys++[y]) b (upd H D (.lst (zs++[y]))))
def CN(n i:Nat)(Pv:Nat->List V->St->Hp->Prop)(ys:List V)(b:St)(H:Hp):Prop:=∃a,a<n-i/\(a=n-(i+1)/\i+1<=n/\Pv (i+1) ys b H)
theorem CK.mk{Pv:Nat->List V->St->Hp->Prop}(hi:i<n)(a:H D=some (.lst zs))(b:zs.length<sizeLine)(p:Pv (i+1) (ys++[y]) c (upd H D (.lst (zs++[y])))):CK D n i Pv ys c y H:=
 %[zs,n-(i+1),a,b,⋯,rfl,hi|p]
theorem CN.mk{Pv:Nat->List V->St->Hp->Prop}(hi:i<n)(p:Pv (i+1) ys a H):CN n i Pv ys a H:=%[n-(i+1),⋯,rfl,hi|p]
theorem aV{J:It}{g:TG}{u:TT}{v:TE}{w:Hp->Prop}(Pv:Nat->List V->St->Hp->Prop)(z:Pv 0 [] c H)(s:∀i ys c H,i<n->Pv i ys c H->J.go i H)(d:∀ys c H,Pv n ys c H->J.stop n H)
 (A:∀i ys c H,i<n->Pv i ys c H->∀x f,J.yld i H x f->g x c f λa t=>u a t λb h=>if b=true then v a h λy r=>CK D n i Pv ys a y r else CN n i Pv ys a h) (B:∀ys c H,Pv n ys c H->w H):
 ∃W:Nat->Nat->List V->St->Hp->Prop,(∃m,W 0 m [] c H)/\∀i m ys j l,W i m ys j l->(J.stop i l/\w l)\/
  (J.go i l/\∀x f,J.yld i l x f->g x j f λa t=>u a t λb h=>if b=true then v a h λy r=>∃zs o,r D=some (.lst zs)/\zs.length<sizeLine/\o<m/\W (i+1) o (ys++[y]) a (upd r D (.lst (zs++[y])))
   else∃o,o<m/\W (i+1) o ys a h):=by
 refine%[λi m ys c H=>m=n-i/\i<=n/\Pv i ys c H,%[n,by simp,X1 _|z]|?_];rintro i m ys c H ⟨rfl,hi,p⟩;by_cases q:i<n
 .exact .inr %[s i ys c H q p|λx f y=>A i ys c H q p x f y]
 .have e:i=n:=by lia
  subst e;exact .inl %[d ys c H p|B ys c H p]
theorem vA:∀{bs:List Bool} {us:ZF} {i:Nat} {v:Value},aH (bs.map V.bl) us->us[i]? =some v->∃b,bs[i]? =some b/\v= .bool b
 |[],_,_,_,r,e=>by cases r;simp at e
 | b::bs,_,i,v,r,e=>by
   cases r with
   | cons a c=>
     cases(a);cases i with
     | zero=>simp at e;exact%[b,rfl|e.symm]
     | succ i=>
       obtain⟨d,f,g⟩:=vA c (e);exact%[d,f|g]
theorem mG(bs:List Bool):(List.range bs.length).all (λi=>bs.getD i false)=bs.all id:=by
 have e:(List.range bs.length).map (λi=>bs.getD i false)=bs:=by
  apply ext_getElem
  .simp
  .intro i a b
   simp_all
 have:(List.range bs.length).all (λi=>bs.getD i false)=((List.range bs.length).map λi=>bs.getD i false).all id:=by rw[all_map];rfl
 rw[this,e]
theorem y9{X:Cx}(g:X.calm=true):bX X (.builtin "all") (λxs H Q=>∃(p:Addr) (bs:List Bool),xs=[.ref p]/\SqL X.K H p (bs.map V.bl)/\Q (.bl (bs.all id)) H):=by
 intro pins s z H xs us Q I r h;obtain⟨p,bs,rfl,j,q⟩:=h;obtain⟨u,rfl,l⟩:=cI r;cases l;obtain⟨its,d,pl,A⟩:=I.list j;have m:X.A.in1.handled=none:=I.ok.hd g;have a:bs.length=its.toArray.size:=by rw[Zo,<-d.length,Z5]
 refine call_all_walk (wpAny_pyIter_list pl.isList %[⇑s,[⇑s,p],[⇑s],its.toArray.size,_,_,λi=>bs.getD i false,rfl,Walks.list m _ p (Zr (by obtain⟨o,n,_⟩:=pl.isList;exact Zt n)) its.toArray,%[%[_,Zi _ rfl,rfl|rfl]|pl.isList.push _],?_|?_])
 .intro i v s' t B w c;obtain⟨b,f,rfl⟩:=vA d (by simpa using w);have e:bs.getD i false=b:=by simp_all
  have c:t (bs.getD i false) s':=c;rw[e]at c;exact wpAny_truthy_bool c
 .intro h' tk y;rw[<-a,mG];refine%[.bl _,H,I.kept λb o e=>y b o ?_ (Z6 _ e),rfl|q];have:=Zt e;intro f;exact absurd (X9 f) (Zr this)
def Ea:V->Option Int->Option Int->Hp->VK->Prop:=λx lo hi H Q=>∃z,x= .str z/\z.length<=sizeLine/\Q (.str (Txt.slice z lo hi)) H
theorem Eb{X:Cx}:SlR X Ea:=by
 intro pins s g H x v m n lo hi o Q I e a pl c h;obtain⟨z,rfl,f,q⟩:=h;obtain⟨t,rfl⟩:=e;refine%["str",_,F.slot_str_getitem.lookup,typeIs_str _ _ _|?_];have fin:∀l u,(Txt.slice z l u).length<=sizeLine:=λl u=>Y9 (Txt.slice_le z _ _) f
 cases pl with
 | none=>
   cases c with
   | none=>exact wpAny_getItem_str_slice (l:=none) (u:=none) (st:=none) a rfl (post_val_or_str %[fin _ _|λt' k=>%[.str (Txt.slice z _ _),H,I.tok k,%[_|rfl]|q]])
   | int j b=>exact wpAny_getItem_str_slice (l:=none) (u:=some (j,b)) (st:=none) a rfl (post_val_or_str %[fin _ _|λt' k=>%[.str (Txt.slice z _ _),H,I.tok k,%[_|rfl]|q]])
 | int i d=>
   cases c with
   | none=>exact wpAny_getItem_str_slice (l:=some (i,d)) (u:=none) (st:=none) a rfl (post_val_or_str %[fin _ _|λt' k=>%[.str (Txt.slice z _ _),H,I.tok k,%[_|rfl]|q]])
   | int j b=>exact wpAny_getItem_str_slice (l:=some (i,d)) (u:=some (j,b)) (st:=none) a rfl (post_val_or_str %[fin _ _|λt' k=>%[.str (Txt.slice z _ _),H,I.tok k,%[_|rfl]|q]])
theorem gF:∀{ss:ZB} {us:ZF},aH (ss.map V.str) us->StrsAre us ss
 |[],_,r=>by cases r;exact .nil
 | x::ss,_,r=>by
   cases r with
   | cons a b=>
     obtain⟨t,e⟩:=a;subst e;exact .cons x t (gF b)
theorem pd:∀{ss:ZB} {us:ZF},StrsAre us ss->aH (ss.map V.str) us
 | _,_,.nil=> .nil
 | _,_,.cons x t h=> .cons %[t|rfl] (pd h)
def vB(K:ZA):V->List V->Hp->VK->Prop:=λx vs H Q=>∃z l ss,x= .str z/\vs=[.ref l]/\SqL K H l (ss.map V.str)/\(ss.map (·.length)).sum+ss.length*z.length<=16777216/\Q (.str (Txt.join z ss)) H
theorem Bv{X:Cx}:MtM X "str.join" (vB X.K):=by
 intro pins s e H x vs v us Q I a b h;obtain⟨z,l,ss,rfl,rfl,c,hw,q⟩:=h;obtain⟨t,rfl⟩:=a;obtain⟨u,rfl,d⟩:=b.one;cases d;obtain⟨its,r,pl,f⟩:=I.list c;exact PyProof.Rows.join_list pl.isList (gF r) hw λt' k=>%[.str _,H,I.tok k,%[_|rfl]|q]
theorem za{X:Cx}:bX X (.builtin "isinstance") (λxs H Q=>∃x n t b,xs=[x,.ty n]/\jo X.K H x t/\kitOne X.K t (.type n)=some b/\Q (.bl b) H):=by
 intro pins s d H xs us Q I r h;obtain⟨x,n,t,b,rfl,ty,e,q⟩:=h;obtain⟨u,f,rfl,c,a⟩:=jj r;cases(a);exact wj I c ty e λtk=>%[.bl b,H,I.tok tk,rfl|q]
theorem pf(z:Str)(c i:Nat):Builtin.Str.subAt z ⟨#[c]⟩ i=decide (z.cps[i]? =some c):=by
 unfold Builtin.Str.subAt;have b:(⟨#[c]⟩:Str).length=1:=rfl;rw[b];by_cases hi:i<z.cps.size
 .have e:z.cps.extract i (i+1)= #[z.cps[i]]:=by
   apply Array.ext
   .simp;lia
   .intro j d a;simp at a;subst a;simp
  rw[e,Array.getElem?_eq_getElem hi];by_cases f:z.cps[i]=c
  .subst f;simp
  simp_all
 .have e:z.cps.extract i (i+1)= #[]:=by
   apply Array.ext
   .simp;lia
   .intro j d a;simp at a
  rw[e,Array.getElem?_eq_none ⋯];simp
theorem zb(z:Str)(c:Nat):(!(Builtin.Str.occurrences z ⟨#[c]⟩ 0 z.length 1).isEmpty)=decide (c∈z.cps.toList):=by
 rcases StrLaws.occ_head z _ 1 (Zh _)with⟨e,d⟩|⟨i,r,e,f,_⟩
 .rw[e];refine(Zg λg=>?_).symm;obtain⟨j,h,l⟩:=List.mem_iff_getElem.mp g;have a:=by simpa using h
  refine d j %[?_|?_]
  .show j+1<=z.cps.size;lia
  .rw[pf];exact Ze (by rw[Array.getElem?_eq_getElem a];simpa using l)
 .rw[e];refine(Ze ?_).symm;have b:=f.2;rw[pf]at b;have:=Array.mem_of_getElem? (Zn b);simpa using this
section
variable{X:Cx}
abbrev CL:R2:=λx y H Q=>∃i j,x= .str i/\y= .str j/\i.length+j.length<=sizeLine/\Q (.str (i++j)) H
abbrev zd:R2:=λx y H Q=>rI0 (λi j=> .int (i+j)) x y H Q\/(CL x y H Q\/DT x y H Q)
theorem Bw:OpR X (binaryOp .Add) zd:=yC.or (tO.or DU)
abbrev ze:R2:=λx y H Q=>rI yB (λi j=> .int (i*j)) x y H Q\/DV x y H Q
theorem Bx:OpR X (binaryOp .Mult) ze:=yD.or DW
abbrev Ec:R2:=rEq
theorem Ee:OpR X (compareOp .Eq) Ec:=Fx
abbrev Ef:R2:=rNe
theorem Eg:OpR X (compareOp .NotEq) Ef:=Fy
abbrev FH:R2:=λx y H Q=>∃i j,x= .str i/\y= .str j/\Q (.bl (!(Builtin.Str.occurrences j i 0 j.length 1).isEmpty)) H
abbrev By(K:ZA):R2:=λx y H Q=>FH x y H Q\/rIn K false x y H Q
theorem Eh:OpR X (compareOp .In) (By X.K):=v9.or wp
abbrev Bz(K:ZA):V->Option Int->Option Int->Hp->VK->Prop:=λx lo hi H Q=>DP K x lo hi H Q\/(DH K x lo hi H Q\/Ea x lo hi H Q)
theorem Ei:SlR X (Bz X.K):=Bh.or (DJ.or Eb)
def BA(K:ZA)(c:TE):TI:=λd H R=>c d H λx b=>(∃a,x= .ref a/\(∃xs,SqL K b a xs)/\R (Itl K a) b)\/(∃a,x= .ref a/\(∃xs,SqT K b a xs)/\R (Itt K a) b)\/∃z,x= .str z/\R (Its z) b
theorem Ej(n:PE X l r):PI X C l (BA X.K r):=by
 intro pins s u H R I h;refine thP (n pins s u H _ I h) λv d x g f i w=>?_
 have c:∀b∈[⇑d],lO X pins g b:=λb y=>by
  have e:b=⇑d:=by simpa using y
  subst e;exact f.fpOk (Zh _) (f.hok.fresh (Zh _))
 rcases w with⟨a,e,⟨xs,j⟩,q⟩|⟨a,e,⟨xs,j⟩,q⟩|⟨z,e,q⟩
 .subst e;cases i;obtain⟨its,A,p,B⟩:=f.list j;exact wpAny_pyIter_list p.isList %[⇑d,[⇑d],_,_,g,rfl,f.kept (t':=d.toks) λb o e=>Z6 _ e,v6 a _,%[_,Zi _ rfl,rfl|rfl],c|q]
 .subst e;cases i;obtain⟨its,A,p,B⟩:=f.tuple j;exact wpAny_pyIter_tuple (p) %[⇑d,[⇑d],_,_,g,rfl,f.kept λb o e=>Z6 _ e,tK a _,%[_,Zi _ rfl,rfl|rfl],c|q]
 .subst e;obtain⟨t,rfl⟩:=i;cases m:z.cps.all _ with
  | true=>
    exact wpAny_pyIter_ascii m %[⇑d,[⇑d],_,_,g,rfl,f.kept λb o e=>Z6 _ e,ub _ z t,%[_,Zi _ rfl,rfl|rfl],c|q]
  | false=>
    exact wpAny_pyIter_wide m %[⇑d,[⇑d],_,_,g,rfl,f.kept λb o e=>Z6 _ e,wB _ z t,%[_,Zi _ rfl,rfl|rfl],c|q]
end
noncomputable def bq(c:Scope)(N:ZB)(a:Scope)(d:ZB)(b:List (Nat×Nat)):Bool:=
 decide (a.kind= .function)&&a.names.all (λy=>(decide (y.2≠ .cell)||decide (a.names.lookup y.1=some .cell))&&(decide (y.2≠ .local)||decide (a.names.lookup y.1=some .local))&&(decide (y.2≠ .free)||decide (c.names.lookup y.1=some .cell)||decide (c.names.lookup y.1=some .free)))&&
  b.all λp=>match d[p.1]? with
   | some x=>decide (N[p.2]? =some x)&&decide (a.names.lookup x=some .free)
   | none=>false
theorem ay.of{X:Cx}(h:bq X.env.scope X.N a g c=true):ay X a g c:=by
 unfold bq at h;rw[Zu,Zu,all_eq_true,all_eq_true]at h;obtain⟨⟨i,d⟩,j⟩:=h;refine%[Zn i,λy b f=>?_,λy b f=>?_,λy b l=>?_|λp m=>?_]
 .have:=d y b;simp only[Zu,or_eq_true,decide_eq_true_eq]at this;exact this.1.1.resolve_left λq=>q f
 .have:=d y b;simp only[Zu,or_eq_true,decide_eq_true_eq]at this;exact this.1.2.resolve_left λq=>q f
 .have:=d y b;simp only[Zu,or_eq_true,decide_eq_true_eq]at this;rcases this.2 with(q|q)|q
  .exact absurd l q
  .exact .inl q
  .exact .inr q
 .have:=j p m;cases e:g[p.1]? with
  | none=>simp_all
  | some x=>
    rw[e]at this;simp only[Zu,decide_eq_true_eq]at this;exact%[x,rfl,this.1|this.2]
structure Gv (mg:ZC) (x:Str) (v:V):Prop where
 ex:∃u,mg x=some u/\aN v u
theorem CM{X:Cx}(g:Gv X.mg x v)(a:Gl X x)(b:(x==("__debug__":Str))=false):PE X (.Name x pos) (tC v):=by
 obtain⟨u,h,r⟩:=g.ex;exact AR a h r b
structure Cal (P:Program) (w:World) (K:ZA) (mg:ZC) (base:Heap) (k:Nat) (x:Str) (ps:ZB) (sp:Sp):Prop where
 ex:∃f fd,eC P w K mg base CX0 k f fd ps sp/\mg x=some (.ref f)/\keepIn K (.ref f)=true/\fC K fd ps []
structure aF (K:ZA) (mg:ZC) (x:Str) (st:Stmt) (ps:ZB):Prop where
 ex:∃f fd,Fun K x x st f fd/\mg x=some (.ref f)/\fC K fd ps []
theorem aF.cal{P:Program}{K:ZA}{st:Stmt}(D:aF K mg x st ps)(S:au N ps (ak st))
 (a:∀(H:Hp) (vs:List V) (Q:VK) (E:XK),sp vs H Q E->vs.length=ps.length/\∀(f:Addr) (b:Value) (A:Around) (outer:List Env) (s:Shared),bV k (A.deeper (envOfC x (ak st) ⇑s f b))->
  ∃t,PSs (p8 CX0 P w K mg base N x (ak st) f b A outer s H E).nox (bB st) t/\t {nx:=λ_ c=>Q .non c,rt:=Q} (start N vs) H):Cal P w K mg base (k+1) x ps sp:=by
 obtain⟨f,d,F,e,g⟩:=D.ex;exact%[f,d,F.ok S (λv H Q E h=>(a H v Q E h).1) (λb A o s H v Q E r h=>(a H v Q E h).2 f b A o s r),e,F.kp|g]
theorem Ek{X:Cx}(C:Cal X.prog X.w X.K X.mg X.base j x ps sp)(d:bV k X.A)(g:Gl X x)(h:jp CX0 X E0)(i:PA X (e::es) t)(a:j<=k)
 (b:(x==("__debug__":Str))=false) (l:starEach (e::es) X.env=(false,eval e X.env)::starEach es X.env) (c:(backTo pos (starEach es X.env)).any (·.1)=false):
 PE X (.Call (.Name x p) (e::es) [] pos) (rE sp [] E0 t):=by
 obtain⟨f,q,F,m,n,o⟩:=C.ex;exact Ba F (d.mono a) g m n o .nil h i b l c
theorem El{K:ZA}{h:Heap}{st:Stmt}{kV e g d ct:Value}(X:K.In h)(G:h.Ns mainGlobals mg)
 (a:nsIn K mainGlobals x=some (some (.ref f))) (l:K.lookup f=some %[m,n,.func (fnOf x x (cc st) (bB st) (ak st) .none kV e g i d ct)|j]) (c:codeIn K d x=true) (k:keepIn K (.ref f)=true)
 (b:∀(kV e g:Value) (i:ZH) (d ct:Value) (us:ZF),us.length=ps.length->bindArgs (fnOf x x (cc st) (bB st) (ak st) .none kV e g i d ct) %[us|[]]=pure (ps.zip us)):aF K mg x st ps:=
 %[f,_,eS l c k,mg_of X G a|(eS l c k).binds b]
theorem iD{K:ZA}{h:Heap}(X:K.In h)(G:h.Ns mainGlobals mg)(a:nsIn K mainGlobals x=some (some u))(r:aN v u):Gv mg x v:=%[u,mg_of X G a|r]
theorem kA(h:∀nx:St->Hp->Prop,(∀a b,u D a b->nx a b)->t {D with nx:=nx} c H):aY t u D c H:=h _ λ_ _ x=>x
theorem aw(h:∀a:It->Hp->Prop,(∀J f,(∃W:Nat->Nat->St->Hp->Prop,(∃m,W 0 m b f)/\∀i m b H,W i m b H->
 (J.stop i H/\D.nx b H)\/(J.go i H/\∃N:St->Hp->Prop,(∀c d,N c d->∃j,j<m/\W (i+1) j c d)/\∀x d,J.yld i H x d->g x b d λe l=>n {D with nx:=N,ct:=N,bk:=D.nx} e l))->a J f)->o b H a):yA o g n D b H:=h _ λ_ _ x=>x
theorem aC(h:∀c:It->Hp->Prop,(∀J j,(∀D,j D=none->∃W:Nat->Nat->List V->St->Hp->Prop,
 (∃m,W 0 m [] (oY n l o) (upd j D (.lst [])))/\∀i m ys d e,W i m ys d e->(J.stop i e/\Q (.ref D) e)\/
  (J.go i e/\∀x p,J.yld i e x p->g x d p λa s=>t a s λb q=>if b=true then u a q λy r=>∃zs f,r D=some (.lst zs)/\zs.length<sizeLine/\f<m/\W (i+1) f (ys++[y]) a (upd r D (.lst (zs++[y])))
   else∃f,f<m/\W (i+1) f ys a q))->c J j)->v o H c):oZ v n l g t u o H Q:=h _ λ_ _ x=>x
section
variable{X:Cx}{K:ZA}
theorem Em(h:X.K=K):OpR X (compareOp .In) (By K):=by subst h;exact Eh
theorem slK(h:X.K=K):SlR X (Bz K):=by subst h;exact Ei
theorem wC(h:X.K=K):bX X (.builtin "len") (λxs H Q=>∃x n,xs=[x]/\A5 K x H n/\Q (.int n) H):=by subst h;exact yK
theorem wD(h:X.K=K)(a:X.calm=true):bX X (.builtin "all") (λxs H Q=>∃(p:Addr) (bs:List Bool),xs=[.ref p]/\SqL K H p (bs.map V.bl)/\Q (.bl (bs.all id)) H):=by subst h;exact y9 a
theorem wE(h:X.K=K):bX X (.builtin "isinstance") (λxs H Q=>∃x n t b,xs=[x,.ty n]/\jo K H x t/\kitOne K t (.type n)=some b/\Q (.bl b) H):=by subst h;exact za
theorem uc(h:X.K=K):bX X (.type "list") (λxs H Q=>∃p ys,xs=[.ref p]/\(SqL K H p ys\/SqT K H p ys)/\∀l,H l=none->Q (.ref l) (upd H l (.lst ys))):=by subst h;exact qg
theorem zf(h:X.K=K):MtR X "str.join" (vB K):=by subst h;exact Bv
theorem wF(h:X.K=K)(d:PE X a e)(f:∀b,isTrue a X.env b=(do let v<-b;standAt a.pos;holding [v] (truthy v))):PT X a (λg H Q=>e g H λx c=>∃k,yH K x c k/\Q k c):=by subst h;exact yI d f
theorem BB(h:X.K=K)(a:PE X l b):PI X c l (BA K b):=by subst h;exact Ej a
variable{o e:Expr}{es:List Expr}{to:TE}{t:TA}{name:Str}{apos cpos:Pos}{T id:String}{r:V->List V->Hp->VK->Prop}
theorem BC(h:X.K=K)(d:PlainAttrs T)(slot:Slot T name id)(c:typeOf (.builtin id)=pure (.type "method_descriptor"))(f:MtR X id r)(g:PE X o to)
 (a:attributeBase o name X.env (eval o X.env)=eval o X.env) (b:(apos.endLine==cpos.line)=true):PE X (.Call (.Attribute o name apos) [] [] cpos) (Bi K T r to):=by
 subst h;exact DR d slot c f g a b
theorem zg(h:X.K=K)(g:PlainAttrs T)(slot:Slot T name id)(f:typeOf (.builtin id)=pure (.type "method_descriptor"))(i:MtR X id r)(j:PE X o to)(l:PA X (e::es) t)
 (b:attributeBase o name X.env (eval o X.env)=eval o X.env)
 (d:((backTo cpos (starEach (e::es) X.env)).all (λx=>!x.1)&&(backToKw cpos (keywordEach [] X.env)).all (λx=>x.1.isSome)
  && decide ((e::es).length+([]:List Keyword).length+(if([]:List Keyword).isEmpty then 0 else 1)<30))=true)
 (c:(apos.endLine==cpos.line)=true) (m:starEach (e::es) X.env=(false,eval e X.env)::starEach es X.env) (a:(backTo cpos (starEach es X.env)).any (·.1)=false):
 PE X (.Call (.Attribute o name apos) (e::es) [] cpos) (tBM K T r to t):=by
 subst h;exact FD g slot f i j l b d c m a
end
structure ue (z TI TO i1 i2:Addr):Prop where
 TIz:TI≠z
 TOz:TO≠z
 i1z:i1≠z
 i2z:i2≠z
 TITO:TI≠TO
 TIi1:TI≠i1
 TIi2:TI≠i2
 TOi1:TO≠i1
 TOi2:TO≠i2
 i12:i1≠i2
section
#where
variable{z TI TO i1 i2:Addr}{fp1 fp2:List Addr}{n1 n2 i:Nat}{P1 P2:Nat->Value->Prop}{St1 St2:Nat->Heap->Prop}
theorem zh{Q:ZD}(D1:Draws prog w A i1 fp1 n1 P1 St1)(D2:Draws prog w A i2 fp2 n2 P2 St2)(D:ue z TI TO i1 i2)(O:∀b∈fp1,b≠z/\b≠TO/\b≠i2)(m2:∀b∈fp2,b≠z/\b≠TO/\b≠i1)
 (T:IsZip s.heap z TI TO .none) (ae:IsPair s.heap TI (.ref i1) (.ref i2)) (ag:IsPair s.heap TO a b) (h1:St1 i s.heap) (h2:St2 i s.heap) (l1:i<n1) (l2:i<n2)
 (hQ:∀x y h' tk,P1 i x->P2 i y->IsZip h' z TI TO (rawInt ⇑s)->IsPair h' TO x y->St1 (i+1) h'->St2 (i+1) h'->IsPair h' ⇑s x y->
  (∀c o,c≠z->c≠TO->c≠i1->c≠i2->s.heap.get? c=some o->h'.get? c=some o)->Q (.ref ⇑s) {s with heap:=h',toks:=tk}):
 ↥A (Builtin.«zip.__next__» %[[.ref z]|[]]) (λfin s'=>∃v,fin= .done (.ret v)/\Q v s') E s:=by
 have r:∀{k h h' c},(∀b∈fp1,b≠c)->SameBut c h h'->St1 k h->St1 k h':=λhc sb st=>D1.frame _ _ _ st λb d o e=>(sb.2 b (hc b d)).trans e
 have t:∀{k h h' c},(∀b∈fp2,b≠c)->SameBut c h h'->St2 k h->St2 k h':=λhc sb st=>D2.frame _ _ _ st λb d o e=>(sb.2 b (hc b d)).trans e
 show wpAny _ _ (field (.ref z) 2>>= _) _ _ _;refine Z2 (wpAny_field T rfl (x:= .bool false) rfl ?_);show wpAny _ _ (field (.ref z) 3>>= _) _ _ _;refine Z2 (wpAny_field T rfl (x:= .ref TI) rfl (Z2 (wpAny_seqItems ae rfl ?_)));show wpAny _ _ (Builtin.SmallTypes.ownedTupleIsFree (.ref z)>>= _) _ _ _;refine Z2 ?_;unfold Builtin.SmallTypes.ownedTupleIsFree;refine Z2 (wpAny_field T rfl (x:= .none) rfl (Z3 ?_));simp only[if_true];refine Z2 (wpAny_rule (Z2 (wpAny_field T rfl (x:= .ref TO) rfl (Z2 (wpAny_setField_rec T ∅ λg1 L n=>?_)))));replace L:IsZip g1 z TI TO .ellipsis:=L;refine Z2 ?_;simp only[List.zipIdx_cons,List.zipIdx_nil,forIn_cons,List.forIn_nil];refine Z2 (Z2 (wpAny_onRaise ?_));show wpAny _ _ (Builtin.SmallTypes.nextOf (.ref i1)>>= _) _ _ _;refine Z2 (D1.item i _ _ _ l1 (r (λb d=>(O b d).1) n h1) λx g2 ai px aj f=>Z3 ?_);replace f:SameBut i1 g1 g2:=f;have H:IsPair g2 TO a b:=(f.2 _ D.TOi1).trans ((n.2 _ D.TOz).trans ag);refine Z2 (wpAny_seqItems H rfl (Z2 (wpAny_updateSeq_pair (s:={s with heap:=g2,toks:=ai}) H λg3 p g=>?_)));replace p:IsPair g3 TO x b:=p;replace g:SameBut TO g2 g3:=g;refine Z2 (wpAny_letGo (Z3 (Z2 (Z2 (wpAny_onRaise ?_)))));show wpAny _ _ (Builtin.SmallTypes.nextOf (.ref i2)>>= _) _ _ _;refine Z2 (D2.item i _ _ _ l2 (t (λb d=>(m2 b d).2.1) g (t (λb d=>(m2 b d).2.2) f (t (λb d=>(m2 b d).1) n h2))) λy g4 u py al j=>Z3 ?_);replace j:SameBut i2 g3 g4:=j;have I:IsPair g4 TO x b:=(j.2 _ D.TOi2).trans p;refine Z2 (wpAny_seqItems I rfl (Z2 (wpAny_updateSeq_pair (s:={s with heap:=g4,toks:=u}) I λq m l=>?_)));replace m:IsPair q TO x y:=m;replace l:SameBut TO g4 q:=l;refine Z2 (wpAny_letGo (Z3 (Z3 (Z2 (wpAny_seqItems m rfl (Z2 (wpAny_newTuple ?_)))))));have U:q.objs.size=⇑s:=by rw[l.1,j.1,g.1,f.1,n.1]
 have Y:IsZip q z TI TO .ellipsis:=(l.2 _ D.TOz.symm).trans ((j.2 _ D.i2z.symm).trans ((g.2 _ D.TOz.symm).trans ((f.2 _ D.i1z.symm).trans L)));have an:∀c o,c≠z->c≠TO->c≠i1->c≠i2->s.heap.get? c=some o->q.get? c=some o:=λc o M c2 c3 c4 e=>
  (l.2 c c2).trans ((j.2 c c4).trans ((g.2 c c2).trans ((f.2 c c3).trans ((n.2 c M).trans e))))
 have J:z<q.objs.size:=Zt Y;refine Z2 (Z2 (wpAny_setField_rec (s:={s with heap:=q.push {cls:= .type "tuple",data:= .seq #[x,y]},toks:=u}) (Z6 _ Y) ∅ λg7 N B=>?_));replace N:IsZip g7 z TI TO (rawInt q.objs.size):=N;replace B:SameBut z (q.push _) g7:=B;refine wpAny_setField_rec (s:={s with heap:=g7,toks:=u}) N ∅ λg8 C G=>?_
 replace C:IsZip g8 z TI TO (rawInt q.objs.size):=C;replace G:SameBut z g7 g8:=G;have up:∀c o,c≠z->q.get? c=some o->g8.get? c=some o:=λc o M e=>(G.2 c M).trans ((B.2 c M).trans (Z6 _ e))
 have ab:=(G.2 _ (Yr J)).trans ((B.2 _ (Yr J)).trans (Zi _ rfl));rw[U]at C ab;refine Z3 %[_,rfl|?_];rw[U];exact hQ x y g8 u px py C (up _ _ D.TOz m) (D1.frame _ _ _ (r (λb d=>(O b d).2.1) l (r (λb d=>(O b d).2.2) j (r (λb d=>(O b d).2.1) g aj))) λb d o e=>up b o (O b d).1 e) (D2.frame _ _ _ (t (λb d=>(m2 b d).2.1) l al) λb d o e=>up b o (m2 b d).1 e) ab λc o M c2 c3 c4 e=>up c o M (an c o M c2 c3 c4 e)
theorem zi(J:Draws prog w A i1 fp1 n1 P1 St1)(D2:Draws prog w A i2 fp2 n2 P2 St2)(D:ue z TI TO i1 i2)(m1:∀b∈fp1,b≠z/\b≠TO/\b≠i2)(m2:∀b∈fp2,b≠z/\b≠TO/\b≠i1)
 (y:IsZip s.heap z TI TO .none) (L:IsPair s.heap TI (.ref i1) (.ref i2)) (M:IsPair s.heap TO a b) (h1:St1 i s.heap) (h2:St2 i s.heap) (l1:i<=n1) (l2:i<=n2) (ab:i=n1\/i=n2)
 (hE:∀h' e tk,(∀c o,c≠z->c≠TO->c≠i1->c≠i2->s.heap.get? c=some o->h'.get? c=some o)->(∃o,h'.get? e=some o/\o.cls= .type "StopIteration")->E (.ref e) {s with heap:=h',toks:=tk}):
 ↥A (Builtin.«zip.__next__» %[[.ref z]|[]]) Q E s:=by
 have N:∀{k h h' c},(∀b∈fp1,b≠c)->SameBut c h h'->St1 k h->St1 k h':=λO T st=>J.frame _ _ _ st λb j o e=>(T.2 b (O b j)).trans e
 have t:∀{k h h' c},(∀b∈fp2,b≠c)->SameBut c h h'->St2 k h->St2 k h':=λO T st=>D2.frame _ _ _ st λb j o e=>(T.2 b (O b j)).trans e
 show wpAny _ _ (field (.ref z) 2>>= _) _ _ _;refine Z2 (wpAny_field y rfl (x:= .bool false) rfl ?_);show wpAny _ _ (field (.ref z) 3>>= _) _ _ _;refine Z2 (wpAny_field y rfl (x:= .ref TI) rfl (Z2 (wpAny_seqItems L rfl ?_)));show wpAny _ _ (Builtin.SmallTypes.ownedTupleIsFree (.ref z)>>= _) _ _ _;refine Z2 ?_;unfold Builtin.SmallTypes.ownedTupleIsFree;refine Z2 (wpAny_field y rfl (x:= .none) rfl (Z3 ?_));simp only[if_true];refine Z2 (wpAny_rule (Z2 (wpAny_field y rfl (x:= .ref TO) rfl (Z2 (wpAny_setField_rec y ∅ λg1 n l=>?_)))));replace n:IsZip g1 z TI TO .ellipsis:=n;refine Z2 ?_;simp only[List.zipIdx_cons,List.zipIdx_nil,forIn_cons,List.forIn_nil];refine Z2 (Z2 (wpAny_onRaise ?_));show wpAny _ _ (Builtin.SmallTypes.nextOf (.ref i1)>>= _) _ _ _;have B:St1 i g1:=N (λb j=>(m1 b j).1) l h1;by_cases c1:i<n1
 .have e2:i=n2:=by lia
  refine Z2 (J.item i _ _ _ c1 B λx g2 u px ag d=>Z3 ?_);replace d:SameBut i1 g1 g2:=d;have r:IsPair g2 TO a b:=(d.2 _ D.TOi1).trans ((l.2 _ D.TOz).trans M);refine Z2 (wpAny_seqItems r rfl (Z2 (wpAny_updateSeq_pair (s:={s with heap:=g2,toks:=u}) r λg3 ae f=>?_)));replace f:SameBut TO g2 g3:=f;refine Z2 (wpAny_letGo (Z3 (Z2 (Z2 (wpAny_onRaise ?_)))));show wpAny _ _ (Builtin.SmallTypes.nextOf (.ref i2)>>= _) _ _ _;refine Z2 (D2.done _ _ _ (e2▸t (λb j=>(m2 b j).2.1) f (t (λb j=>(m2 b j).2.2) d (t (λb j=>(m2 b j).1) l h2))) λI e p U=>?_);replace p:ExtBut i2 g3 I:=p;obtain⟨Y,g,m⟩:=U;have C:IsZip I z TI TO .ellipsis:=p _ _ D.i2z.symm ((f.2 _ D.TOz.symm).trans ((d.2 _ D.i1z.symm).trans n));have v:e≠z:=λx=>by subst x;rw[C]at g;cases g;simp at m
  refine wpAny_setField_rec (s:={s with heap:=I,toks:=u}) C ∅ λg5 _ q=>?_
  replace q:SameBut z I g5:=q;exact hE g5 e u (λc o G d2 d3 d4 x=>(q.2 c G).trans (p c o d4 ((f.2 c d2).trans ((d.2 c d3).trans ((l.2 c G).trans x))))) %[Y,(q.2 e v).trans g|m]
 .have e1:i=n1:=by lia
  refine Z2 (J.done _ _ _ (e1▸B) λg2 e d U=>?_);replace d:ExtBut i1 g1 g2:=d;obtain⟨Y,g,m⟩:=U;have H:=d _ _ D.i1z.symm n;have v:e≠z:=λx=>by subst x;rw[H]at g;cases g;simp at m
  refine wpAny_setField_rec (s:=(s>>>g2)) H ∅ λg3 _ f=>?_
  replace f:SameBut z g2 g3:=f;exact hE g3 e s.toks (λc o G _ d3 _ x=>(f.2 c G).trans (d c o d3 ((l.2 c G).trans x))) %[Y,(f.2 e v).trans g|m]
end
noncomputable def Itz(x y:Str):It:=⟨λi _=>i<x.cps.size/\i<y.cps.size,λi H v a=>∃c d T,x.cps[i]? =some c/\y.cps[i]? =some d/\H T=none/\v= .ref T/\a=upd H T (.tup [.str ⟨#[c]⟩,.str ⟨#[d]⟩]),
 λi _=>i<=x.cps.size/\i<=y.cps.size/\(i=x.cps.size\/i=y.cps.size)⟩
def ZSt(z TI TO c d:Addr)(e f:Nat->Heap->Prop)(i:Nat)(h:Heap):Prop:=IsZip h z TI TO .none/\IsPair h TI (.ref c) (.ref d)/\(∃a b,IsPair h TO a b)/\e i h/\f i h
theorem iT(prog:Program)(w:World)(x:Str)(t:Tok)(a:Addr):∀A,A.handled=none->
 Draws prog w A a [a] x.cps.size (λi v=>∃c u,x.cps[i]? =some c/\v= .str ⟨#[c]⟩ u) (λi h=>h.IsStrIter a (strIterType x) x t i):=by
 intro A b;unfold strIterType;cases d:x.cps.all _ with
 | true=>exact Draws.strAscii b a x t
 | false=>exact Draws.strWide b a x t
theorem zj{P:Program}{K:ZA}(z TI TO i1 i2:Addr)(x y:Str)(t u:Tok)(D:ue z TI TO i1 i2):
 mw P w K (.Tuple elts kt tp) (Itz x y) [z,TI,TO,i1,i2] z (ZSt z TI TO i1 i2 (λi h=>h.IsStrIter i1 (strIterType x) x t i) (λi h=>h.IsStrIter i2 (strIterType y) y u i)) where
 mem:=by simp
 obj:=λi h st b hb=>by
  obtain⟨hz,hTI,⟨a,c,hTO⟩,⟨o1,e1,_,d1⟩,o2,e2,_,d2⟩:=st
  grind
 keep:=λi h h' st k=>by
  obtain⟨hz,hTI,⟨a,c,hTO⟩,⟨o1,e1,r1⟩,o2,e2,r2⟩:=st;exact%[k z ∅ _ hz,k TI ∅ _ hTI,%[a,c|k TO ∅ _ hTO],%[o1,k i1 ∅ _ e1|r1],o2,k i2 ∅ _ e2|r2]
 item:=by
  intro X hP hw hK hc i pins s σ H E I hf st hg;subst hP hw hK;obtain⟨hz,hTI,⟨a,c,hTO⟩,h1,h2⟩:=st;obtain⟨g1,g2⟩:i<x.cps.size/\i<y.cps.size:=hg;have hT:s.TypeIs (.ref z) "zip":=%[_,hz|rfl]
  have hh:X.A.in1.handled=none:=I.ok.hd hc;unfold pyNext;refine Z2 (wpAny_attempt (wpAny_callSpecial?_slot (name:=Str.ofString "__next__") hT F.slot_zip_next (wpAny_call_entry F.slot_zip_next hT F.entry_zip_next
   (zh (iT _ _ x t i1 _ hh) (iT _ _ y u i2 _ hh) D (λb hb=>(show b=i1 by simpa using hb)▸%[D.i1z,Ne.symm D.TOi1|D.i12]) (λb hb=>(show b=i2 by simpa using hb)▸%[D.i2z,Ne.symm D.TOi2|Ne.symm D.i12]) hz hTI hTO h1 h2 g1 g2 λv1 v2 h' tk p1 p2 a1 a2 a3 a4 a5 hk=>Z3 ?_) (F.args_zip_next_1 _))))
  obtain⟨c1,u1,e1,rfl⟩:=p1;obtain⟨c2,u2,e2,rfl⟩:=p2;refine%[_,rfl|wpAny_letOwnedTupleGo_zip (s:={s with heap:=h',toks:=tk}) a1 λh'' hz'' sb=>?_];replace sb:SameBut z h' h'':=sb;have turn1:Inv X pins σ H {s with heap:=h'',toks:=tk}:=by
   have nit:∀b v,H b=some v->b∉[z,TI,TO,i1,i2]:=λb v e hb=>by rw[(hf b hb).1]at e;cases e
   have kk:∀b o,b∉[z,TI,TO,i1,i2]->s.heap.get? b=some o->h''.get? b=some o:=λb o hb e=>by
    simp only[Yo,Yw,or_false,not_or]at hb;exact(sb.2 b hb.1).trans (hk b o hb.1 hb.2.2.1 hb.2.2.2.1 hb.2.2.2.2 e)
   refine I.step (g':=s.gens) (d':=s.drawn) (ch:=[z,TI,TO,i1,i2]) (λb hb=>%[(hf b hb).2.2.2.1,(hf b hb).2.1,(hf b hb).2.2.2.2.1|(hf b hb).2.2.2.2.2]) (λb o _ _ hc e _=>kk b o hc e) (λb o _ _ hc e _=>%[o.slots|kk b o hc e]) (λ_ _ _ _ n=>n)
    (λb o hc e=>%[o|kk b o hc e]) (λ_ _ e=>e) (λ_ _ _ e=>e) (λb ps e=>%[#[]|by rw[e];simp]) (λm hm=>?_) (λb v e=>?_) I.bare
   .obtain⟨o,es,ep,ho,r⟩:=hm;exact%[o,es,ep,kk _ o (λhb=>(hf _ hb).2.1 rfl) ho|r]
   .refine(I.hok b v e).stay (λc' v' hc' q=>kk c' v' ?_ q) (λ_ q=>q) λ_ _ q=>q
    rcases hc' with q'|q'
    .exact q'▸nit b v e
    .exact nit c' _ q'
  have Hn:H ⇑s=none:=I.fresh;have I2:Inv X pins σ (upd H ⇑s (.tup [.str ⟨#[c1]⟩,.str ⟨#[c2]⟩])) {s with heap:=h'',toks:=tk}:=by
   have nf:⇑s∉X.fs:=I.nofs (Zh _);refine%[turn1.ok,turn1.os,turn1.bare,?_,turn1.loc,turn1.cell,?_,?_,?_,?_|turn1.len]
   .refine%[turn1.base.keep,turn1.base.slot,λb o e n hx=>?_,turn1.base.there,λb xs e=>?_,λb o v e=>?_|λb ps e=>?_]
    .rw[am ((λb o e=>Zr (Zf (Zt e) I.sz)) b o e)];exact turn1.base.free b o e n hx
    .rw[am (ar (turn1.base.tups b xs e) Hn)];exact turn1.base.tups b xs e
    .rw[am (ar (turn1.base.frzs b o v e) Hn)];exact turn1.base.frzs b o v e
    .obtain⟨m,q⟩:=turn1.base.tbls b ps e;exact%[m|(am (ar q Hn))▸q]
   .rw[am (Zr I.lt)];exact turn1.free
   .intro x' c' e;obtain⟨v',q⟩:=I.cell x' c' e;rw[am (Zr q.lt)];exact turn1.freeC x' c' e
   .intro p hp;obtain⟨e,n,r⟩:=turn1.pin p hp;refine%[e,?_|r];rw[am (Zr (Zt (I.pin p hp).1))];exact n
   .intro b v e;by_cases hb:b=⇑s
    .subst hb;rw[aa]at e;cases e;exact%[by show 2<=sizeLine;decide,[.str _ u1,.str _ u2],.cons %[_|rfl] (.cons %[_|rfl] .nil),_,((sb.2 _ (Yr (Zt hz))).trans a5),rfl,_|rfl]
    .rw[am hb]at e;refine(turn1.hok b v e).stay (λ_ _ _ q=>q) (λc' q=>?_) λc' xs q=>?_
     .rw[am (ar q Hn)];exact q
     .rw[am (ar q Hn)];exact q
  refine%[.ref ⇑s,_,I2,rfl,%[c1,c2,_,e1,e2,Hn,rfl|rfl],%[hz'',(sb.2 _ D.TIz).trans (hk _ _ D.TIz D.TITO D.TIi1 D.TIi2 hTI),%[_,_|(sb.2 _ D.TOz).trans a2],?_|?_]|λb hb=>?_]
  .obtain⟨o,e,r⟩:=a3;exact%[o,(sb.2 _ D.i1z).trans e|r]
  .obtain⟨o,e,r⟩:=a4;exact%[o,(sb.2 _ D.i2z).trans e|r]
  .have:b<⇑s:=by
    simp only[Yo,Yw,or_false]at hb;obtain⟨o1,q1,_⟩:=h1;obtain⟨o2,q2,_⟩:=h2;rcases hb with rfl|rfl|rfl|rfl|rfl
    .exact Zt hz
    .exact Zt hTI
    .exact Zt hTO
    .exact Zt q1
    .exact Zt q2
   rw[am (Zr this)];exact(hf b hb).1
 done:=by
  intro X hP hw hK hc i pins s σ H E I hf st hg;obtain⟨hz,hTI,⟨a,c,hTO⟩,h1,h2⟩:=st;obtain⟨g1,g2,g3⟩:i<=x.cps.size/\i<=y.cps.size/\(i=x.cps.size\/i=y.cps.size):=hg;have hT:s.TypeIs (.ref z) "zip":=%[_,hz|rfl]
  have hh:=I.ok.hd hc;refine Z2 (wpAny_attempt (wpAny_callSpecial?_slot hT F.slot_zip_next (wpAny_call_entry F.slot_zip_next hT F.entry_zip_next
   (zi (iT _ _ x t i1 _ hh) (iT _ _ y u i2 _ hh) D (λb hb=>(show b=i1 by simpa using hb)▸%[D.i1z,Ne.symm D.TOi1|D.i12]) (λb hb=>(show b=i2 by simpa using hb)▸%[D.i2z,Ne.symm D.TOi2|Ne.symm D.i12]) hz hTI hTO h1 h2 g1 g2 g3 λh' e tk hk he=>?_) (F.args_zip_next_1 _))))
  obtain⟨o,ho,hco⟩:=he;refine Z2 (wpAny_isInstance %[o,ho|hco] isSubtype_stop (Z3 %[rfl|?_]));have nit:∀b v,H b=some v->b∉[z,TI,TO,i1,i2]:=λb v e hb=>by rw[(hf b hb).1]at e;cases e
  have kk:∀b o,b∉[z,TI,TO,i1,i2]->s.heap.get? b=some o->h'.get? b=some o:=λb o hb e=>by
   simp only[Yo,Yw,or_false,not_or]at hb;exact hk b o hb.1 hb.2.2.1 hb.2.2.2.1 hb.2.2.2.2 e
  refine I.step (λb hb=>%[(hf b hb).2.2.2.1,(hf b hb).2.1,(hf b hb).2.2.2.2.1|(hf b hb).2.2.2.2.2]) (λb o _ _ hc e _=>kk b o hc e) (λb o _ _ hc e _=>%[o.slots|kk b o hc e]) (λ_ _ _ _ n=>n)
   (λb o hc e=>%[o|kk b o hc e]) (λ_ _ e=>e) (λ_ _ _ e=>e) (λb ps e=>%[#[]|by rw[e];simp]) (λm hm=>?_) (λb v e=>?_) I.bare
  .obtain⟨o',es,ep,ho',r⟩:=hm;exact%[o',es,ep,kk _ o' (λhb=>(hf _ hb).2.1 rfl) ho'|r]
  .refine(I.hok b v e).stay (λc' v' hc' q=>kk c' v' ?_ q) (λ_ q=>q) λ_ _ q=>q
   rcases hc' with q'|q'
   .exact q'▸nit b v e
   .exact nit c' _ q'
 self:=λ_ _ _ _ _ st h=>wpAny_pyIter_zip st.1 h
noncomputable def ba:Expr->Bool
 | .Starred _ _=>true
 | _=>false
theorem aD(h:ba e=false):starEach (e::es) env=(false,eval e env)::starEach es env:=by
 cases e<;> first|rfl|cases(show true=false from h)
theorem dz(h:ba e=false):assignEach (e::es) env=(false,assign e env)::assignEach es env:=by
 cases e<;> first|rfl|cases(show true=false from h)
theorem gG:∀{es:List Expr},es.any ba=false->(backTo pos (starEach es env)).any (·.1)=false
 |[],_=>rfl
 | e::es,h=>by
   rw[Zv,Yx]at h;rw[aD h.1];have:=gG (pos:=pos) (env:=env) h.2;cases es with
   | nil=>rfl
   | cons b a=>
     simp only[backTo]at this ⊢;simpa using this
theorem qo:∀{es:List Expr},es.any ba=false->(backTo pos (starEach es env)).all (λx=>!x.1)=true
 |[],_=>rfl
 | e::es,h=>by
   rw[Zv,Yx]at h;rw[aD h.1];have:=qo (pos:=pos) (env:=env) h.2;cases es with
   | nil=>rfl
   | cons b a=>
     simp only[backTo]at this ⊢;simpa using this
theorem jq:∀{es:List Expr},es.any ba=false->(assignEach es env).length=es.length/\(assignEach es env).findIdx? (·.1)=none
 |[],_=>%[rfl|rfl]
 | e::es,h=>by
   rw[Zv,Yx]at h;rw[dz h.1];have a:=jq (env:=env) h.2;refine%[by rw[Zq,Zq,a.1]|?_];rw[List.findIdx?_cons,a.2];rfl
noncomputable def gH:Expr->Bool
 | .ListComp _ _ _ _=>true
 | .SetComp _ _ _ _=>true
 | .DictComp _ _ _ _ _=>true
 | _=>false
theorem jM(h:gH e=false):swapsWith e t l env=pure false:=by
 cases e<;> first|rfl|cases(show true=false from h)
noncomputable def uf:Expr->Bool
 | .Tuple _ _ _=>true
 | _=>false
theorem ug(h:uf e=false):swappedStores [t] e env=pure none:=by
 cases e with
 | Tuple _ _ _=>cases(show true=false from h)
 | _=>cases t<;> rfl
noncomputable def gJ:Expr->Bool
 | .Call _ _ _ _=>true
 | _=>false
theorem fF(h:gJ o=false):attributeBase o a env w=w:=by
 cases o<;> first|rfl|cases(show true=false from h)
noncomputable def mH:Expr->Bool
 | .Set _ _ _=>true
 | _=>false
theorem kB(h:mH e=false)(x:Value):foldedSetIterable e env x=pure x:=by
 cases e<;> first|rfl|cases(show true=false from h)
structure QE (X:Cx) (e:Expr) (t:TE):Prop where
 h:PE X e t
structure QT (X:Cx) (e:Expr) (t:TT):Prop where
 h:PT X e t
structure QW (X:Cx) (e:Expr) (t:TT):Prop where
 h:PW X e t
structure QA (X:Cx) (es:List Expr) (t:TA):Prop where
 h:PA X es t
structure QS (X:Cx) (st:Stmt) (t:TS):Prop where
 h:PS X st t
structure QSs (X:Cx) (st:List Stmt) (t:TS):Prop where
 h:PSs X st t
structure QG (X:Cx) (e:Expr) (t:TG):Prop where
 h:PG X e t
structure QGs (X:Cx) (es:List Expr) (t:TGs):Prop where
 h:PGs X es t
structure QI (X:Cx) (tg iter:Expr) (wi:TI):Prop where
 h:PI X tg iter wi
structure QO (X:Cx) (e:Option Expr) (t:TO):Prop where
 h:PO X e t
structure QTs (X:Cx) (ifs:List Expr) (t:TT):Prop where
 h:PTs X ifs t
structure OpQ (X:Cx) (f:Value->Value->Sem Value) (r:R2):Prop where
 h:OpR X f r
structure cw (X:Cx) (f:Value) (r:List V->Hp->VK->Prop):Prop where
 h:bX X f r
structure MtQ (X:Cx) (id:String) (r:V->List V->Hp->VK->Prop):Prop where
 h:MtR X id r
section
variable{X:Cx}{K:ZA}{pos:Pos}
theorem av{i j}:QE X (.Constant (.int i) j pos) (tC (.int i)):=⟨Da⟩
theorem eBl{b j}:QE X (.Constant (.bool b) j pos) (tC (.bl b)):=⟨Fn⟩
theorem uh{j}:QE X (.Constant .none j pos) (tC .non):=⟨Db⟩
theorem fW{x j}:QE X (.Constant (.str x) j pos) (tC (.str x)):=⟨Dc⟩
theorem vn(i:Nat)(b:X.N[i]? =some x)(c:Vis X.env.scope x)(d:(x==("__debug__":Str))=false)(a:(x==("__classdict__":Str))=false):QE X (.Name x pos) (nV i):=⟨yb b c d a⟩
theorem gvE(g:Gv X.mg x v)(a:Gl X x)(b:(x==("__debug__":Str))=false):QE X (.Name x pos) (tC v):=⟨CM g a b⟩
theorem blE(a:Gl X x)(b:X.mg x=none)(c:bootBuiltins x=some u)(r:aN v u)(f:(x==("__name__":Str))=false)(d:(x==("__debug__":Str))=false):QE X (.Name x pos) (tC v):=
 ⟨AS a b c r (λe=>by lia) d⟩
theorem ap:QA X [] tW:=⟨yN⟩
theorem paE(a:ba e=false)(b:QE X e c)(d:QA X es t):QA X (e::es) (vt c t):=⟨vv b.h d.h (aD a)⟩
theorem calE(C:Cal X.prog X.w X.K X.mg X.base j x ps sp)(d:bV k X.A)(f:Gl X x)(a:Nat.ble j k=true)
 (b:(x==("__debug__":Str))=false) (c:(e::es).any ba=false) (g:QA X (e::es) t):
 QE X (.Call (.Name x p) (e::es) [] pos) (rE sp [] E0 t):=by
 rw[Zv,Yx]at c;exact⟨Ek C d f y8 g.h (Nat.le_of_ble_eq_true a) b (aD c.1) (gG c.2)⟩
theorem cbE{id:String}(c:cw X (.builtin id) r)(d:Gl X x)(f:X.mg x=none)(g:bootBuiltins x=some (.builtin id))(i:(x==("__name__":Str))=false)(a:(x==("__debug__":Str))=false)
 (b:(e::es).any ba=false) (h:QA X (e::es) t):QE X (.Call (.Name x p) (e::es) [] pos) (tCB r t):=by
 rw[Zv,Yx]at b;exact⟨yR c.h d f g h.h (λe=>by lia) a (aD b.1) (gG b.2)⟩
theorem ctE(c:cw X (.type T) r)(d:Gl X x)(f:X.mg x=none)(g:bootBuiltins x=some (.type T))(i:(x==("__name__":Str))=false)(a:(x==("__debug__":Str))=false)
 (b:(e::es).any ba=false) (h:QA X (e::es) t):QE X (.Call (.Name x p) (e::es) [] pos) (tCB r t):=by
 rw[Zv,Yx]at b;exact⟨wo c.h d f g h.h (λe=>by lia) a (aD b.1) (gG b.2)⟩
theorem bmE{T id:String}(h:X.K=K)(l:PlainAttrs T)(slot:Slot T name id)(g:typeOf (.builtin id)=pure (.type "method_descriptor"))(m:MtQ X id r)
 (b:gJ o=false) (a:(e::es).any ba=false) (i:Nat.blt (e::es).length 30=true) (c:(d.endLine==f.line)=true) (n:QE X o p) (q:QA X (e::es) t):
 QE X (.Call (.Attribute o name d) (e::es) [] f) (tBM K T r p t):=by
 have j:=a;rw[Zv,Yx]at j;refine⟨zg h l slot g m.h n.h q.h (fF b) ?_ c (aD j.1) (gG j.2)⟩;rw[qo a];have:decide ((e::es).length+([]:List Keyword).length+(if([]:List Keyword).isEmpty then 0 else 1)<30)=true:=Ze ((Nat.blt_eq.mp i));rw[this];rfl
theorem FI{T id:String}(h:X.K=K)(f:PlainAttrs T)(slot:Slot T name id)(e:typeOf (.builtin id)=pure (.type "method_descriptor"))(g:MtQ X id r)
 (a:gJ o=false) (b:(c.endLine==d.line)=true) (i:QE X o j):QE X (.Call (.Attribute o name c) [] [] d) (Bi K T r j):=⟨BC h f slot e g.h i.h (fF a) b⟩
theorem mI(b:Gl X "range")(c:X.mg "range"=none)(d:ba a=false)(e:QA X [a] f):QI X g (.Call (.Name "range" p) [a] [] pos) (yz f):=⟨v7 b c e.h (aD d)⟩
theorem bW(h:X.K=K)(a:QE X l b):QI X c l (BA K b):=⟨BB h a.h⟩
section
variable{a b c:Expr}{ta tb tc:TE}{op op':CmpOp}{r r':R2}
theorem uk(e:OpQ X (compareOp op) r)(d:OpQ X (compareOp op') r')(f:lastMarks [op,op'] [b,c]=false)(g:QE X a ta)(h:QE X b tb)(i:QE X c tc):QE X (.Compare a [op,op'] [b,c] pos) (tM r r' ta tb tc):=⟨yG e.h d.h g.h h.h i.h f⟩
theorem lQ(d:OpQ X (compareOp op) r)(e:behindInMarks op b=false)(f:QE X a ta)(g:QE X b tb):QE X (.Compare a [op] [b] pos) (tOp r ta tb):=⟨A3 d.h f.h g.h e⟩
theorem bA(d:OpQ X (compareOp op) r)(e:behindInMarks op b=false)(f:QE X a ta)(g:QE X b tb):QT X (.Compare a [op] [b] pos) (yF (tOp r ta tb)):=⟨A4 d.h f.h g.h e⟩
theorem opE{op:Operator}(d:OpQ X (binaryOp op) r)(e:QE X a ta)(f:QE X b tb):QE X (.BinOp a op b pos) (tOp r ta tb):=⟨Ft d.h e.h f.h⟩
theorem nX(d:QE X a ta):QE X (.UnaryOp .USub a pos) (tUn (rU λi=> .int (-i)) ta):=⟨Fu Du d.h⟩
theorem slE{lo hi:Option Expr}(h:X.K=K)(d:QE X a ta)(e:QO X lo f)(g:QO X hi i):QE X (.Subscript a (.Slice lo hi none j) pos) (tSl (Bz K) ta f i):=⟨yU (slK h) d.h e.h g.h⟩
theorem noO:QO X none p9:=⟨Bd⟩
theorem rL(h:QE X a ta):QO X (some a) (yT ta):=⟨Be h.h⟩
theorem rN{op}(h:QE X a ta):QE X (.BoolOp op [a] pos) ta:=⟨Di h.h⟩
theorem qp{rest:List Expr}(d:QE X a ta)(e:QE X (.BoolOp .And (b::rest) pos) tb):QE X (.BoolOp .And (a::b::rest) pos) (yf ta tb):=⟨Dj d.h e.h⟩
theorem orV{rest:List Expr}(d:QE X a ta)(e:QE X (.BoolOp .Or (b::rest) pos) tb):QE X (.BoolOp .Or (a::b::rest) pos) (Dh ta tb):=⟨Fq d.h e.h⟩
theorem cj(h:QA X es t):QE X (.List es pos) (DD t):=⟨DF h.h⟩
theorem jN{d}(h:QA X es t):QE X (.Tuple es d pos) (DC t):=⟨DE h.h⟩
theorem fG:QE X (.Dict [] [] pos) ua:=⟨y6⟩
variable{tA tB':TT}{rest:List Expr}
theorem ifE(d:QT X c tA)(e:QE X a ta)(f:QE X b tb):QE X (.IfExp c a b pos) (tIf tA ta tb):=⟨yg d.h e.h f.h⟩
theorem mJ(d:QT X a tA):QT X (.UnaryOp .Not a pos) (Dd tA):=⟨Dg d.h⟩
theorem jO(d:QT X a tA):QW X (.BoolOp .And [a] pos) tA:=⟨AU d.h⟩
theorem nY(d:QT X a tA):QW X (.BoolOp .Or [a] pos) tA:=⟨De d.h⟩
theorem mK(d:QT X a tA)(e:QW X (.BoolOp .And (b::rest) pos) tB'):QW X (.BoolOp .And (a::b::rest) pos) (AT tA tB'):=⟨Df d.h e.h⟩
theorem orW(d:QT X a tA)(e:QW X (.BoolOp .Or (b::rest) pos) tB'):QW X (.BoolOp .Or (a::b::rest) pos) (tOr tA tB'):=⟨Fp d.h e.h⟩
theorem wT(h:QW X a tA):QT X a tA:=⟨PW.pt h.h⟩
theorem jb(h:X.K=K)(f:∀d,isTrue a X.env d=(do let v<-d;standAt a.pos;holding [v] (truthy v)))(g:QE X a ta):QT X a (λi H Q=>ta i H λx e=>∃k,yH K x e k/\Q k e):=⟨wF h g.h f⟩
theorem jr:QTs X [] wA:=⟨Br⟩
theorem iE(h:QT X c tA):QTs X [c] tA:=⟨Bs h.h⟩
end
theorem cZ(S:ay X c e f)(l:X.calm=true)(m:mH iter=false)(hi:QI X j iter n)
 (o:∀a b d,QG (bK X c e a b d) j g) (p:∀a b d,QTs (bK X c e a b d) h q) (r:∀a b d,QE (bK X c e a b d) i s):
 QE X (.ListComp i [%[j,iter,h|0]] c pos) (oZ n e.length f g q s):=⟨Bu S l hi.h (λa b d=>(o a b d).h) (λa b d=>(p a b d).h) (λa b d=>(r a b d).h) (kB m)⟩
theorem bw:QSs X [] yh:=⟨AV⟩
theorem ah{st:Stmt}{rest:List Stmt}(a:QS X st t)(b:QSs X rest u):QSs X (st::rest) (aY t u):=⟨yj a.h b.h⟩
theorem aq{st:Stmt}(a:QS X st t):QSs X [st] t:=⟨AW a.h⟩
theorem ifS(d:QT X c e)(f:QSs X a t)(g:QSs X b u):QS X (.If c a b pos) (jG e t u):=⟨Fs d.h f.h g.h⟩
theorem aO(a:QE X e b):QS X (.Return (some e) pos) (jF b):=⟨Dk a.h⟩
theorem gK{st:Stmt}:QS X st yk:=⟨yo⟩
theorem cq(c:PassesOwn (model X.prog X.w) X.A X.env X.xe)(d:X.calm=true)(e:mH iter=false)(hi:QI X b iter f)(h:QG X b g)(i:QSs X a j):
 QS X (.For b iter a [] pos) (yA f g j):=⟨Dp c d hi.h h.h i.h (kB e)⟩
theorem kC(i:Nat)(b:X.N.Nodup)(hi:X.N[i]? =some x)(c:Loc X.env.scope x)(d:X.fn x=true\/X.env.scope.names.lookup x=some .local)(f:gH e=false)(g:QE X e h):
 QS X (.Assign [.Name x a] e pos) (pY h (jh i)):=⟨yv b hi c g.h (jM f) d⟩
theorem bD(a:gH e=false)(b:QE X e c):QS X (.Expr e pos) (jE c):=⟨AX b.h (jM a)⟩
theorem BD(c:gH e=false)(hw:uf e=false)(a:ba b=false)(d:QE X e f)(h:QG X b g):QS X (.Assign [b] e pos) (pY f g):=
 ⟨Do d.h h.h (jM c) (ug hw) (by rw[dz a];rfl)⟩
theorem mL(i:Nat)(a:X.N.Nodup)(hi:X.N[i]? =some x)(b:Loc X.env.scope x)(c:X.fn x=true\/X.env.scope.names.lookup x=some .local):QG X (.Name x pos) (jh i):=⟨AY a hi b c⟩
theorem cL:QGs X [] Dl:=⟨AZ⟩
theorem gsE(a:ba e=false)(b:QG X e t)(c:QGs X es u):QGs X (e::es) (yp t u):=⟨yq b.h c.h (by rw[dz a];rfl)⟩
theorem fP(b:X.K=K)(c:X.calm=true)(a:es.any ba=false)(h:QGs X es t):QG X (.Tuple es k pos) (yr K es.length t):=by
 subst b;exact⟨Dm c h.h (jq a).1 (jq a).2⟩
theorem mM:OpQ X (binaryOp .Add) zd:=⟨Bw⟩
theorem ph:OpQ X (binaryOp .Sub) (rI0 λi j=> .int (i-j)):=⟨Ds⟩
theorem um:OpQ X (binaryOp .Mult) ze:=⟨Bx⟩
theorem bY:OpQ X (binaryOp .Mod) (rI (λ_ j=>0<j) λi j=> .int (i%j)):=⟨Dt⟩
theorem dA:OpQ X (binaryOp .FloorDiv) (rI Fw λi j=> .int (i/j)):=⟨A1⟩
theorem dQ:OpQ X (compareOp .Eq) Ec:=⟨Ee⟩
theorem im:OpQ X (compareOp .NotEq) Ef:=⟨Eg⟩
theorem uo:OpQ X (compareOp .Lt) (rI0 λi j=> .bl (decide (i<j))):=⟨Fz⟩
theorem wG:OpQ X (compareOp .LtE) (rI0 λi j=> .bl (decide (i<=j))):=⟨FA⟩
theorem qq:OpQ X (compareOp .Gt) (rI0 λi j=> .bl (decide (j<i))):=⟨FB⟩
theorem FJ:OpQ X (compareOp .Is) (λx y H Q=>y= .non/\Q (.bl (decide (x= .non))) H):=⟨Dw⟩
theorem qr:OpQ X (compareOp .IsNot) (λx y H Q=>y= .non/\Q (.bl (!decide (x= .non))) H):=⟨A2⟩
theorem uq(h:X.K=K):OpQ X (compareOp .In) (By K):=⟨Em h⟩
abbrev vC:R2:=λx y H Q=>∃i j,x= .str i/\y= .str j/\Q (.bl (!(!(Builtin.Str.occurrences j i 0 j.length 1).isEmpty))) H
abbrev vD(K:ZA):R2:=λx y H Q=>vC x y H Q\/rIn K true x y H Q
theorem BE(h:X.K=K):OpQ X (compareOp .NotIn) (vD K):=by subst h;exact⟨qf.or qe⟩
theorem bZ(h:X.K=K):cw X (.builtin "len") (λxs H Q=>∃x n,xs=[x]/\A5 K x H n/\Q (.int n) H):=⟨wC h⟩
theorem zk(h:X.K=K)(a:X.calm=true):cw X (.builtin "all") (λxs H Q=>∃(p:Addr) (bs:List Bool),xs=[.ref p]/\SqL K H p (bs.map V.bl)/\Q (.bl (bs.all id)) H):=⟨wD h a⟩
theorem CO(a:X.calm=true):cw X (.builtin "max") (λxs H Q=>∃i j,xs=[.int i,.int j]/\Q (.int (if j>i then j else i)) H):=⟨wa a⟩
theorem CP(a:X.calm=true):cw X (.builtin "min") (λxs H Q=>∃i j,xs=[.int i,.int j]/\Q (.int (if j<i then j else i)) H):=⟨wb a⟩
theorem jP(h:X.K=K):cw X (.builtin "isinstance") (λxs H Q=>∃x n t b,xs=[x,.ty n]/\jo K H x t/\kitOne K t (.type n)=some b/\Q (.bl b) H):=⟨wE h⟩
theorem CQ:cw X (.type "int") (λxs H Q=>(∃i,xs=[.int i]/\Q (.int i) H)\/∃k,xs=[.bl k]/\Q (.int (if k then 1 else 0)) H):=⟨wc⟩
theorem gM(h:X.K=K):cw X (.type "list") (λxs H Q=>∃p ys,xs=[.ref p]/\(SqL K H p ys\/SqT K H p ys)/\∀l,H l=none->Q (.ref l) (upd H l (.lst ys))):=⟨uc h⟩
theorem aP:MtQ X "list.append" qh:=⟨oU⟩
theorem rO:MtQ X "list.extend" qj:=⟨wq⟩
theorem ur(h:X.K=K):MtQ X "str.join" (vB K):=⟨zf h⟩
end
open PySem PySem.Spec PyProof.Rows PySem.SeqAt
section
#version
variable{h':Heap}{tk:Nat}{fp:List Addr}
theorem Inv.moved(I:Inv X pins σ H s)(c:∀b∈fp,lO X pins H b)(d:∀b o,b∉fp->s.heap.get? b=some o->h'.get? b=some o):Inv X pins σ H {s with heap:=h',toks:=tk}:=by
 have f:∀b v,H b=some v->b∉fp:=λb v e a=>by rw[(c b a).1]at e;cases e
 refine I.step (λb a=>%[(c b a).2.2.2.1,(c b a).2.1,(c b a).2.2.2.2.1|(c b a).2.2.2.2.2]) (λb o _ _ g e _=>d b o g e) (λb o _ _ g e _=>%[o.slots|d b o g e]) (λ_ _ _ _ n=>n)
  (λb o g e=>%[o|d b o g e]) (λ_ _ e=>e) (λ_ _ _ e=>e) (λb ps e=>%[#[]|by rw[e];simp]) (λm l=>?_) (λb v e=>?_) I.bare
 .obtain⟨o,es,p,t,r⟩:=l;exact%[o,es,p,d _ o (λa=>(c _ a).2.1 rfl) t|r]
 .refine(I.hok b v e).stay (λj u h q=>d j u ?_ q) (λ_ q=>q) λ_ _ q=>q
  rcases h with i|i
  .exact i▸f b v e
  .exact f j _ i
theorem Inv.stood(I:Inv X pins σ H s)(J:Inv X pins σ H {s with heap:=h',toks:=tk})(c:⇑s<=a)(new:bQ X.prog X.w (upd H a o) h' a o):Inv X pins σ (upd H a o) {s with heap:=h',toks:=tk}:=by
 have d:=I.hok.fresh c;refine%[J.ok,J.os,J.bare,?_,J.loc,J.cell,?_,?_,?_,?_|J.len]
 .refine%[J.base.keep,J.base.slot,λb o e n j=>?_,J.base.there,λb xs e=>?_,λb o v e=>?_|λb ps e=>?_]
  .rw[am ((λb o e=>Zr (Zf (Zf (Zt e) I.sz) c)) b o e)];exact J.base.free b o e n j
  .rw[am (ar (J.base.tups b xs e) d)];exact J.base.tups b xs e
  .rw[am (ar (J.base.frzs b o v e) d)];exact J.base.frzs b o v e
  .obtain⟨m,q⟩:=J.base.tbls b ps e;exact%[m|(am (ar q d))▸q]
 .rw[am (Zr (Zf I.lt c))];exact J.free
 .intro g f e;obtain⟨l,q⟩:=I.cell g f e;rw[am (Zr (Zf q.lt c))];exact J.freeC g f e
 .intro p h;obtain⟨e,n,r⟩:=J.pin p h;refine%[e,?_|r];rw[am (Zr (Zf (Zt (I.pin p h).1) c))];exact n
 .intro b v e;by_cases i:b=a
  .subst i;rw[aa]at e;cases e;exact new
  .rw[am i]at e;refine(J.hok b v e).stay (λ_ _ _ q=>q) (λf q=>?_) λf xs q=>?_
   .rw[am (ar q d)];exact q
   .rw[am (ar q d)];exact q
end
def ut:V->List V->Hp->VK->Prop:=λx vs H Q=>∃z y,x= .str z/\vs=[.str y]/\1<=y.length/\z.length+2<=sizeLine/\∀l,H l=none->Q (.ref l) (upd H l (.lst ((Txt.split z y).map V.str)))
theorem pj:∀ss k,aH (ss.map V.str) (strsFrom k ss)
 |[],_=> .nil
 | _::r,k=> .cons %[_|rfl] (pj r _)
theorem zo{X:Cx}:MtM X "str.split" ut:=by
 intro pins s m H x vs v us Q I g i h;obtain⟨z,y,rfl,rfl,n,o,q⟩:=h;obtain⟨t,rfl⟩:=g;obtain⟨p,rfl,j⟩:=i.one;obtain⟨u,rfl⟩:=j;have b:(y.length==0)=false:=by simp;lia
 have l:=split_le z y;by_cases c:(decide (z.length<y.length)||decide (Builtin.Str.strKind z<Builtin.Str.strKind y))=true
 .have e:Txt.split z y=[z]:=if_pos c;rw[e]at q;exact call_meets F.slot_str_split (typeIs_str _ _ _) F.entry_str_split (F.args_str_split_2 _ _) (meets_str_split_cannot_occur z y t u c) %[.ref _,_,I.lnew (ys:=[.str z]) (.cons %[_|rfl] .nil) (by show 1<=sizeLine;decide),rfl|q _ I.fresh]
 .have d:=Bool.eq_false_iff.mpr c;by_cases f:(Builtin.Str.occurrences z y 0 z.length (z.length+1)).isEmpty=true
  .have e:Txt.split z y=[z]:=(if_neg c).trans (if_pos f);rw[e]at q;exact call_meets F.slot_str_split (typeIs_str _ _ _) F.entry_str_split (F.args_str_split_2 _ _) (meets_str_split_not_found z y t u d b f) %[.ref _,_,I.lnew (ys:=[.str z]) (.cons %[_|rfl] .nil) (by show 1<=sizeLine;decide),rfl|q _ I.fresh]
  .have e:Txt.split z y=Builtin.Str.partsBetween z _ y.length:=(if_neg c).trans (if_neg f);have a:(Builtin.Str.partsBetween z (Builtin.Str.occurrences z y 0 z.length (z.length+1)) y.length).length<=sizeLine:=by rw[<-e];lia
   refine call_meets F.slot_str_split (typeIs_str _ _ _) F.entry_str_split (F.args_str_split_2 _ _) (meets_str_split_sep z y t u d b (Bool.eq_false_iff.mpr f) ⋯ a) ?_;rw[<-e]at a ⊢;exact%[.ref _,_,I.lnew (pj _ _) (by rw[Z5];exact a),rfl|q _ I.fresh]
theorem BF{X:Cx}:MtQ X "str.split" ut:=⟨zo⟩
noncomputable def Ite(K:ZA)(a:Addr)(xs:List V):It:=⟨λi H=>SqL K H a xs/\i<xs.length,λi H v b=>∃x T,xs[i]? =some x/\H T=none/\v= .ref T/\b=upd H T (.tup [.int i,x]),λi H=>SqL K H a xs/\xs.length<=i⟩
def ESt(e c a:Addr)(i:Nat)(h:Heap):Prop:=(∃b,IsEnum h e c i b)/\h.IsListIter c a i
theorem wH{P:Program}{K:ZA}(e it a:Addr)(xs:List V)(hne:e≠it):mw P w K (.Tuple elts kt tp) (Ite K a xs) [e,it] e (ESt e it a) where
 mem:=by simp
 obj:=λi h st b hb=>by
  obtain⟨⟨old,he⟩,o1,e1,_,d1⟩:=st;simp only[Yo,Yw,or_false]at hb;rcases hb with rfl|rfl
  .exact%[_,he|λv q=>nomatch q]
  .exact%[o1,e1|λv q=>by rw[d1]at q;cases q]
 keep:=λi h h' st k=>by
  obtain⟨⟨old,he⟩,o1,e1,r1⟩:=st;exact%[%[old|k e ∅ _ he],o1,k it ∅ _ e1|r1]
 item:=by
  intro X hP hw hK hc i pins s σ H E I hf st hg;subst hP hw hK;obtain⟨⟨old,he⟩,hit⟩:=st;obtain⟨hq,hi⟩:SqL X.K H a xs/\i<xs.length:=hg;obtain⟨its,rv,p,hz⟩:=I.list hq;obtain⟨u,hu,ru⟩:=rv.get (i:=i) (x:=xs[i]) ∅;refine wpAny_pyNext_enum_item he hit p.isList (by simpa using hu) hne λh1 he1 hit1 ht1 hz1 hk1=>%[_,rfl|wpAny_letOwnedTupleGo_enum he1 λh2 he2 sb2=>?_]
  replace sb2:SameBut e h1 h2:=sb2;have elt:=Zt he;have kk:∀b o,b∉[e,it]->s.heap.get? b=some o->h2.get? b=some o:=λb o hb q=>by
   simp only[Yo,Yw,or_false,not_or]at hb;exact(sb2.2 b hb.1).trans (hk1 b o hb.1 hb.2 q)
  have J:Inv X pins σ H {s with heap:=h2,toks:=s.toks+1}:=I.moved hf kk;have I2:Inv X pins σ (upd H ⇑s (.tup [.int i,xs[i]])) _:=
   I.stood J (Zh _) %[by show 2<=sizeLine;decide,[.int i s.toks,u],.cons %[_|rfl] (.cons ru .nil),_,((sb2.2 _ (Yr elt)).trans ht1),rfl,_|rfl]
  refine%[.ref ⇑s,_,I2,rfl,%[xs[i],_,by simp,I.fresh,rfl|rfl],%[%[u|he2]|?_]|λb hb=>?_]
  .obtain⟨o,q,r⟩:=hit1;exact%[o,(sb2.2 _ (Ne.symm hne)).trans q|r]
  .have:b<⇑s:=by
    simp only[Yo,Yw,or_false]at hb;rcases hb with rfl|rfl
    .exact elt
    .exact(by obtain⟨o,q,_⟩:=hit;exact Zt q)
   rw[am (Zr this)];exact(hf b hb).1
 done:=by
  intro X hP hw hK hc i pins s σ H E I hf st hg;subst hP hw hK;obtain⟨⟨old,he⟩,hit⟩:=st;obtain⟨hq,hi⟩:SqL X.K H a xs/\xs.length<=i:=hg;obtain⟨its,rv,p,hz⟩:=I.list hq;have hl:=rv.length;refine wpAny_pyNext_enum_end (I.ok.hd hc) he hit p.isList (by simp;lia) λh1 xb=>%[rfl|I.moved hf λb o hb q=>?_]
  simp only[Yo,Yw,or_false,not_or]at hb;exact xb b o hb.2 q
 self:=λA i s Q E st h=>by
  obtain⟨⟨old,he⟩,hit⟩:=st;exact wpAny_pyIter_enum he h
def CS(K:ZA)(c:TA):TI:=λd H R=>c d H λvs b=>∃a xs,vs=[.ref a]/\SqL K b a xs/\R (Ite K a xs) b
section
variable{X:Cx}{K:ZA}{pos:Pos}
theorem vE(m:X.K=K)(n:Gl X "enumerate")(o:X.mg "enumerate"=none)(r:ba a=false)(t:QA X [a] v):
 QI X (.Tuple g J L) (.Call (.Name "enumerate" p) [a] [] pos) (CS K v):=by
 subst m
 constructor
 intro pins s w H R I h;refine Call_ (iz I n o boot_enumerate (PyProof.Rows.callWith_type1 (thP (t.h pos pins s w H _ I h) λus d vs y c z A=>?_) (aD r) rfl));obtain⟨l,xs,e,B,q⟩:=A;subst e;obtain⟨u,rfl,C⟩:=cI z;cases C;obtain⟨its,M,p,N⟩:=c.list B;refine call_enumerate_list p.isList λO i f E G=>wpAny_pyIter_enum i %[⇑d+1,[⇑d+1,⇑d],ESt _ ⇑d l,Ite X.K l xs,y,rfl,(c.kept G),wH _ _ _ _ (Nat.succ_ne_self _),%[%[_|i]|f],λb j=>?_|q]
 simp only[Yo,Yw,or_false]at j;rcases j with rfl|rfl
 .exact c.fpOk (Y8 _) (c.hok.fresh (Y8 _))
 .exact c.fpOk (Zh _) (c.hok.fresh (Zh _))
end
section
variable(h:Heap)(x y:Str)(t u:Tok)
noncomputable abbrev zs1:Heap:=h.push {cls:= .type (strIterType x),data:= .fields #[.str x t,.int 0 0]}
noncomputable abbrev zs2:Heap:=(zs1 h x t).push {cls:= .type (strIterType y),data:= .fields #[.str y u,.int 0 0]}
noncomputable abbrev zs3:Heap:=(zs2 h x y t u).push {cls:= .type "tuple",data:= .seq #[.ref h.objs.size,.ref (zs1 h x t).objs.size]}
noncomputable abbrev zs4:Heap:=(zs3 h x y t u).push {cls:= .type "tuple",data:= .seq #[.none,.none]}
noncomputable abbrev zs5:Heap:=(zs4 h x y t u).push {cls:= .type "zip",data:= .fields #[.none,.bool false,.bool false,.ref (zs2 h x y t u).objs.size,.ref (zs3 h x y t u).objs.size]}
end
theorem lR(x y:Str)(t u:Tok):
 Meets (Builtin.«zip.__new__» %[[.type "zip",.str x t,.str y u]|[]]) (λ_ R s=>R (.ok (.ret (.ref (zs4 s.heap x y t u).objs.size))) (s>>>zs5 s.heap x y t u)):=
 .of_wp λprog w A R s b=>by
  obtain⟨c,g,d,tk,os⟩:=s;have a:=PySem.sub_zip
  wp_walk using wpAny_pyIter_strU (x:=x) (t:=t),wpAny_pyIter_strU (x:=y) (t:=u)
  exact%[_,rfl|b]
section
#where
theorem mN
 (h:∀h',IsZip h' (⇑s+4) (⇑s+2) (⇑s+3) .none->IsPair h' (⇑s+2) (.ref ⇑s) (.ref (⇑s+1))->IsPair h' (⇑s+3) .none .none->
  h'.IsStrIter ⇑s (strIterType x) x t 0->h'.IsStrIter (⇑s+1) (strIterType y) y u 0->(∀c o,s.heap.get? c=some o->h'.get? c=some o)->Q (.ref (⇑s+4)) (s>>>h')):
 ↥A (call (.type "zip") [.str x t,.str y u]) Q E s:=by
 refine callType_new F.called_zip (by decide) (F.typeCall_zip_2 _ _) (F.newCall_zip_2 _ _) (λobj=>F.args_object_init_3 obj _ _) F.entry_zip_new (lR x y t u) ?_;have a:(zs1 s.heap x t).objs.size=⇑s+1:=Zp ..;have b:(zs2 s.heap x y t u).objs.size=⇑s+2:=by rw[Zp,a]
 have d:(zs3 s.heap x y t u).objs.size=⇑s+3:=by rw[Zp,b]
 have f:(zs4 s.heap x y t u).objs.size=⇑s+4:=by rw[Zp,d]
 have g:∀c o,(zs4 s.heap x y t u).get? c=some o->(zs5 s.heap x y t u).get? c=some o:=λ_ _ q=>Z6 _ q
 have i:∀c o,(zs3 s.heap x y t u).get? c=some o->(zs5 s.heap x y t u).get? c=some o:=λc o q=>g c o (Z6 _ q)
 have j:∀c o,(zs2 s.heap x y t u).get? c=some o->(zs5 s.heap x y t u).get? c=some o:=λc o q=>i c o (Z6 _ q)
 have l:∀c o,(zs1 s.heap x t).get? c=some o->(zs5 s.heap x y t u).get? c=some o:=λc o q=>j c o (Z6 _ q)
 have r:∀c o,s.heap.get? c=some o->(zs5 s.heap x y t u).get? c=some o:=λc o q=>l c o (Z6 _ q)
 have e:(zs5 s.heap x y t u).get? (zs4 s.heap x y t u).objs.size=some _:=Zi _ rfl;have m:(zs5 s.heap x y t u).get? (zs3 s.heap x y t u).objs.size=some _:=g _ _ (Zi _ rfl);have n:(zs5 s.heap x y t u).get? (zs2 s.heap x y t u).objs.size=some _:=i _ _ (Zi _ rfl);have p:=j _ _ (Zi _ rfl);show _/\_;rw[b,d,f]at e;rw[a,b]at n;rw[d]at m;rw[a]at p;rw[f];exact%[%[_,e|rfl]|h _ e n m %[_,(l _ _ (Zi _ rfl)),rfl|rfl] %[_,p,rfl|rfl] r]
end
def CT(a:TA):TI:=λb H R=>a b H λvs c=>∃x y,vs=[.str x,.str y]/\R (Itz x y) c
section
variable{X:Cx}{K:ZA}{pos:Pos}
theorem CU(A:Gl X "zip")(B:X.mg "zip"=none)(C:ba a=false)(g:ba b=false)(E:QA X [a,b] G):
 QI X (.Tuple v Q T) (.Call (.Name "zip" p) [a,b] [] pos) (CT G):=by
 constructor
 intro pins s J H R I h;refine Call_ (iz I A B boot_zip (PyProof.Rows.callWith_type1 (thP (E.h pos pins s J H _ I h) λus d vs L l M N=>?_) (aD C) (by rw[aD g];rfl)));obtain⟨x,y,e,q⟩:=N;subst e;obtain⟨U,Y,rfl,⟨t,rfl⟩,u,rfl⟩:=jj M;refine mN λh1 w m n o r O=>wpAny_pyIter_zip w ?_
 have c:∀i j,i≠j->⇑d+i≠⇑d+j:=λi j h e=>h (Nat.add_left_cancel e)
 refine%[⇑d+4,[⇑d+4,⇑d+2,⇑d+3,⇑d+0,⇑d+1],_,Itz x y,L,rfl,(l.kept O),
  zj _ _ _ _ _ x y t u %[c 2 4 (by decide),c 3 4 (by decide),c 0 4 (by decide),c 1 4 (by decide),c 2 3 (by decide),c 2 0 (by decide),c 2 1 (by decide),c 3 0 (by decide),c 3 1 (by decide)|c 0 1 (by decide)],
  %[w,m,%[_,_|n],o|r],λb z=>?_|q]
 have f:⇑d<=b:=by
  simp only[Yo,Yw,or_false]at z;rcases z with rfl|rfl|rfl|rfl|rfl<;> exact le_add_right _ _
 exact l.fpOk f (l.hok.fresh f)
end
inductive D where
 | non|bl (b:Bool)|int (i:Int)|str (x:Str)|lst (ds:List D)|tup (ds:List D)
section
variable{K:ZA}{H H':Hp}
theorem af.seqT(e:af H H')(h:SqT K H a xs):SqT K H' a xs:=by
 rcases h with(h|⟨o,h⟩)|h
 .exact .inl (.inl (e _ _ h))
 .exact .inl (.inr %[o|e _ _ h])
 .exact .inr h
end
section
#version
end
theorem uu{X:Cx}(G:X.N.Nodup)(t:X.N[i]? =some x)(J:Loc X.env.scope x)(L:X.fn x=true\/X.env.scope.names.lookup x=some .local)
 (u:swapsWith (.ListComp l [%[w,iter,p|0]] a pos) (some (.Name x A)) f.line X.env=pure true) (S:ay X a r y) (M:X.calm=true) (N:∀x,foldedSetIterable iter X.env x=pure x) (hi:PI X w iter O)
 (Q:∀c d j,PG (bK X a r c d j) w g) (T:∀c d j,PTs (bK X a r c d j) p U) (Y:∀c d j,PE (bK X a r c d j) l te):
 PS X (.Assign [.Name x A] (.ListComp l [%[w,iter,p|0]] a pos) f) (pY (oZ O r.length y g U te) (jh i)):=by
 intro pins s σ H D I h;refine Z2 (wpAny_standAt ?_);show wpAny _ _ (swapsWith (.ListComp l _ a pos) (some (.Name x A)) f.line X.env>>= _) _ _ _;rw[u];refine Z2 (Z3 (Z2 (Z2 (pc S M hi Q T Y N I h λD' C H5 s6 fl m hn j k q=>?_))));obtain⟨o,es,ep,B,hd,hr⟩:=id hn;have I7:=(k s6.heap (SameBut.refl _ _)).pinned (λb n=>(X9 n)▸j) λb n=>by
  rw[X9 n];exact%[o,B|λv z=>by lia]
 refine wpAny_assign_Name (mv I7 G t J (v:= .ref D') rfl (λs8 E=>%[m,%[o,es,ep,((E.pin _ (Yn _ (Yn _ (eQ (mem_singleton.mpr rfl) B)))).1),hd|hr]|λh' sb=>Z3 (Z3 %[_,H5,(E.unpinned).moved (λb n=>(X9 n)▸j) λb o' n e=>(sb.2 b (λz=>n (mem_singleton.mpr z))).trans e|q])]) L)
theorem wI(h:(env.blockKind== .function&&env.kindOf x==some .local&&b.line==pos.line&&!(a.names.any λ(n,k)=>n==x&&(k== .local||k== .cell)))=true):
 swapsWith (.ListComp c gens a pos) (some (.Name x b)) l env=pure true:=by
 show(pure (env.blockKind== .function&&env.kindOf x==some _&&b.line==pos.line&&!(a.names.any _)))=pure true;rw[h]
theorem fX{X:Cx}(i:Nat)(q:X.N.Nodup)(f:X.N[i]? =some x)(r:Loc X.env.scope x)(s:X.fn x=true\/X.env.scope.names.lookup x=some .local)
 (h:(X.env.blockKind== .function&&X.env.kindOf x==some .local&&t.line==pos.line&&!(c.names.any λ(n,k)=>n==x&&(k== .local||k== .cell)))=true) (S:ay X c e j) (u:X.calm=true) (v:mH iter=false) (hi:QI X o iter w)
 (y:∀a b d,QG (bK X c e a b d) o g) (z:∀a b d,QTs (bK X c e a b d) l A) (B:∀a b d,QE (bK X c e a b d) m C):
 QS X (.Assign [.Name x t] (.ListComp m [%[o,iter,l|0]] c pos) p) (pY (oZ w e.length j g A C) (jh i)):=
 ⟨uu q f r s (wI h) S u (kB v) hi.h (λa b d=>(y a b d).h) (λa b d=>(z a b d).h) (λa b d=>(B a b d).h)⟩
section
#version
end
section
variable{X:Cx}{K:ZA}
end
theorem bL:Slot "set_iterator" "__next__" "set_iterator.__next__":=
 .of (owner:="set_iterator") (n:="__next__") (by rw[typeLookup_type,builtinLookup_eq_fast];kernel_rfl) (by decide +kernel) (by decide +kernel) (by decide +kernel) (by first|exact .inl (by decide +kernel)|exact .inr ∅) (by kernel_rfl)
theorem fY:entryFor table "set_iterator.__next__"=some Builtin.«set_iterator.__next__»:=entryFor_of_tree (by kernel_rfl)
theorem io(a:Value):argsOk "set_iterator.__next__" %[[a]|[]]:=by kernel_rfl
theorem nZ:entryFor table "set.__iter__"=some Builtin.«frozenset.__iter__»:=entryFor_alias (id':="frozenset.__iter__") (by kernel_rfl) rfl (by decide +kernel) (by kernel_rfl)
theorem n6(t:SetTable)(n:Nat):(t.orStandIn n).led=t.led:=by unfold SetTable.orStandIn;split<;> rfl
theorem uv(t:SetTable)(es:Array _)(h:Int)(x:Value):(layNew t es h x).2.1.led=t.led:=by
 unfold layNew;cases t.freeSlot h with
 | none=>rfl
 | some p=>
   exact n6 _ _
theorem qt(t:SetTable)(es:Array _)(n:Nat):(relayAll t es n).2.1.led=t.led:=by
 unfold relayAll;cases a:t.relaid _ n with
 | none=>rfl
 | some p=>
   obtain⟨t',c⟩:=p;simp only
   split
   .simp only[SetTable.relaid,SetTable.laid]at a;cases b:SetTable.layClean _ _ with
    | none=>rw[b]at a;cases a
    | some e=>rw[b]at a;injection a with a;injection a with d f;rw[<-d]
   .rfl
theorem mO(t:SetTable)(es:Array _)(n:Nat)(c:t.plain=false):(relayAll t es n).2.1.plain=false:=by
 unfold relayAll;cases a:t.relaid _ n with
 | none=>rfl
 | some p=>
   obtain⟨t',d⟩:=p;simp only
   split
   .simp only[SetTable.relaid,SetTable.laid]at a;cases b:SetTable.layClean _ _ with
    | none=>rw[b]at a;cases a
    | some f=>rw[b]at a;injection a with a;injection a with e g;exact e▸c
   .rfl
noncomputable def aR(w:World):Bool:=w.params.followText "set-order"
def bj(w:World)(a:Addr)(ks:ZB)(h:Heap):Prop:=
 ∃o es b t ss,h.get? a=some o/\o.ExactSet/\o.data= .set es b t/\StrsAre (es.toList.map (·.2)) ss/\ss.Perm ks/\ks.Nodup/\(∀e∈es.toList,∃z u,e=(hashStr w z,.str z u))/\es.size<scanBound/\t.fits es.size=true/\(es.size≠0->t.plain=false)/\t.led=!aR w
theorem pq(h:∀e∈l,∃z u,e=(hashStr w z,.str z u)):ElemsOf (aM prog w) l:=λe a=>by
 obtain⟨z,u,rfl⟩:=h e a;exact%[%[Sum.inr z,dv z u|rfl]|rfl]
theorem dR:∀{vs:ZF} {ss:ZB} {z:Str},StrsAre vs ss->((∃u,Value.str z u∈vs)↔z∈ss)
 | _,_,z,.nil=>by simp
 | _,_,z,.cons x t h=>by
   have b:=dR (z:=z) h
   constructor
   .rintro⟨u,a⟩;rcases mem_cons.mp a with e|e
    .injection e with c _;exact c▸Zl
    .exact Zj _ (b.mp %[u|e])
   .intro d;rcases mem_cons.mp d with e|e
    .exact e▸%[t|Zl]
    .obtain⟨u,a⟩:=b.mpr e;exact%[u|Zj _ a]
theorem iF:∀{vs ws:ZF} {ss ts:ZB},StrsAre vs ss->StrsAre ws ts->StrsAre (vs++ws) (ss++ts)
 | _,_,_,_,.nil,h=>h
 | _,_,_,_,.cons x t h,h'=> .cons x t (iF h h')
theorem bx:∀{vs:ZF} {ss:ZB},StrsAre vs ss->vs.length=ss.length
 | _,_,.nil=>rfl
 | _,_,.cons x t h=>by rw[Zq,Zq,bx h]
theorem ce(h:StrsAre vs ss)(p:ws.Perm vs):∃ts,StrsAre ws ts/\ts.Perm ss:=by
 refine%[ws.map strOf,strsAre_map ws λv a=>h.all v (p.mem_iff.mp a)|?_];have:=p.map strOf;rwa[h.strs]at this
section
#where
variable{a:Addr}
theorem bj.stored{h:Heap}{o:Obj}{es b:Array (Int×Value)}{t t':SetTable}(i:h.get? a=some o)(c:o.ExactSet)(d:o.data= .set es f t)(j:StrsAre (b.toList.map (·.2)) ss)(l:ss.Perm ks)(m:ks.Nodup)
 (n:∀e∈b.toList,∃z u,e=(hashStr w z,.str z u)) (p:b.size<scanBound) (r:t'.fits b.size=true) (v:t'.plain=false) (y:t'.led=!aR w):
 (h.update a (Obj.putSet b t')).get? a=some {o with data:= .set b (f+1) t'}/\bj w a ks (h.update a (Obj.putSet b t')):=by
 have g:=by
  have q:=get?_update_self (Obj.putSet b t') i (by rw[putSet_of b t' d];rfl);rwa[putSet_of b t' d]at q
 exact%[g,_,b,f+1,t',ss,g,c,rfl,j,l,m,n,p,r,λ_=>v|y]
theorem rP{g:Bool->Sem Unit}(N:∀(b:Bool) (h:Shared) (q:Unit->Shared->Prop),q () h->↥A (g b) q E h){m:Bool}{R:Option Bool->Shared->Prop}(r:s.heap.get? a=some o)(i:o.ExactSet)(v:o.data= .set es ep t)
 (y:StrsAre (c.toList.map (·.2)) ss) (B:ss.Perm ks) (C:ks.Nodup) (G:∀e∈c.toList,∃z u,e=(hashStr w z,.str z u)) (j:c.size<scanBound) (O:d.fits c.size=true) (H:d.plain=false) (I:d.led=!aR w)
 (J:∀h',SameBut a s.heap h'->bj w a ks h'->R (some true) (s>>>h')):
 ↥A (do
  storeSet a c d
  if(!m&&d.tooFull)=true then do
   g (relayAll d c (SetTable.grown c.size)).2.2
   storeSet a (relayAll d c (SetTable.grown c.size)).1 (relayAll d c (SetTable.grown c.size)).2.1
   pure (some true)
  else pure (some true)) R E s:=by
 obtain⟨g1,Q⟩:=bj.stored r i v y B C G j O H I;have M:=SameBut.update s.heap a (Obj.putSet c d);refine Z2 (wpAny_storeSet_of r v ?_ (fits_of_scanBound j))
 split
 .have p:=relayAll_perm d c (SetTable.grown c.size);have f:=relayAll_fits d c (SetTable.grown c.size);have l:=qt d c (SetTable.grown c.size);have pl:=mO d c (SetTable.grown c.size) H
  generalize relayAll d c _=L at p f l pl ⊢
  obtain⟨n,t3,gv⟩:=L;have z:n.size=c.size:=by rw[<-Za,p.length_eq,Za]
  obtain⟨ts,T,U⟩:=ce y (p.map _);exact Z2 (N _ _ _ (Z2 (wpAny_storeSet_of g1 rfl (Z3 (J _ (M.trans (SameBut.update _ a _)) (bj.stored g1 i rfl T (U.trans B) C (λe Y=>G e (p.mem_iff.mp Y)) (by rw[z];exact j) f pl (l.trans I)).2)) (fits_of_scanBound (by rw[z];exact j)))))
 .exact Z3 (J _ M Q)
theorem jQ{ks:ZB}(hS:bj w a ks s.heap)(r:ks.length+1<scanBound)
 (hQ:∀h' b,SameBut a s.heap h'->bj w a (if z∈ks then ks else ks++[z]) h'->Q b (s>>>h')):↥A (setAddHashed a (.str z tk) (hashStr w z)) Q E s:=by
 obtain⟨o,es,ep,t,ss,C,v,G,g,hp,H,h,hb,hf,ab,c⟩:=hS;have hn:es.size=ks.length:=by
  have q:=bx g;rw[Z5,Za,hp.length_eq]at q;exact q
 have hE:ElemsOf (aM prog w) es.toList:=pq h;have I:(aM prog w).is (Sum.inr z) (.str z tk)=true:=dv z tk;unfold setAddHashed setAddHashedIn;refine wpAny_holding (Z2 (wpAny_setState_of C G hf ?_));dsimp only;rw[byScan_of (knd:=aM prog w) rfl hb hE];simp only[↓reduceIte];unfold setAddByScan;refine Z2 (Z2 (wpAny_rule (Z2 (wpAny_setScan_of I C G hf hE ?_))));have J:(∃e∈es.toList,(aM prog w).is (Sum.inr z) e.2=true)↔z∈ks:=by
  rw[<-hp.mem_iff,<-dR g]
  constructor
  .rintro⟨e,l,q⟩;obtain⟨y,u,rfl⟩:=h e l;have q:jf (Sum.inr z) (Value.str y u)=true:=q;rcases aU q with⟨i,t',q1,m⟩|⟨y',t',q1,m⟩
   .cases m
   .cases q1;exact%[u|Xb ⟨_,l,by injection m with e1 _;rw[e1]⟩]
  .rintro⟨u,hu⟩;obtain⟨e,l,q⟩:=Xa hu;exact%[e,l|q▸dv z u]
 cases hr:List.findIdx? _ es.toList with
 | some j=>
   obtain⟨hj,ae,_⟩:=List.findIdx?_eq_some_iff_getElem.mp hr;have hz:=J.mp %[es.toList[j],Y7 hj|ae];have q:=hQ s.heap false (SameBut.refl a s.heap) ((if_pos hz)▸%[o,es,ep,t,ss,C,v,G,g,hp,H,h,hb,hf,ab|c]);exact Z3 (Z3 q)
 | none=>
   have hz:z∉ks:=λq=>by
    obtain⟨e,l,m⟩:=J.mpr q;have:=List.findIdx?_eq_none_iff.mp hr e l;rw[m]at this;cases this
   rw[if_neg hz]at hQ;have M:=layNew_perm t es (hashStr w z) (.str z tk);have lf:=layNew_fits t es (hashStr w z) (.str z tk);have ll:=uv t es (hashStr w z) (.str z tk)
   generalize hL:layNew t es _ _=L at M lf ll
   obtain⟨B,t1,aj,ai⟩:=L;rw[toList_push]at M;have d:∀b f Q',Q' () f->↥A (match b with|true=>rule "set.scan.the-table-gave-way"|false=>pure ()) Q' E f:=λb f Q' q=>by
    cases b
    .exact Z3 q
    .exact wpAny_rule q
   have n:∀e∈B.toList,∃z u,e=(hashStr w z,.str z u):=λe l=>by
    rcases X8 (M.mem_iff.mp l)with q|q
    .exact h e q
    .rw[X9 q];exact%[z,tk|rfl]
   have q1:StrsAre ((es.toList++[(hashStr w z,Value.str z tk)]).map (·.2)) (ss++[z]):=by
    rw[Zc];exact iF g (.cons z tk .nil)
   obtain⟨ts,m,q3⟩:=ce q1 (M.map _);have N:=q3.trans (hp.append_right _);have p:=l8 H hz;have ag:B.size=es.size+1:=by rw[<-Za,M.length_eq,Z8,Za];rfl
   have O:B.size<scanBound:=by rw[ag,hn];exact r
   have fin:∀h',SameBut a s.heap h'->bj w a _ h'->↥A _ Q E _:=λh' T U=>Z3 (hQ h' true T U)
   refine Z2 (d _ _ _ ?_);cases Y:t1.plain with
   | true=>
     exact Z2 (Z3 (rP d C v G m N p n O (SetTable.fits_plain_off lf) rfl (ll.trans c) λh' T U=>fin h' T U))
   | false=>
     exact rP d C v G m N p n O lf Y (ll.trans c) λh' T U=>fin h' T U
theorem rQ(d:bj w a ks s.heap)(c:ks.length+1<scanBound)
 (e:∀h' b,SameBut a s.heap h'->bj w a (if z∈ks then ks else ks++[z]) h'->Q b {s with heap:=h',toks:=s.toks+1}):↥A (setAdd a (.str z tk)) Q E s:=by
 exact wpAny_holding (Z2 (wpAny_pyHash_str (jQ d c e)))
end
noncomputable def lS(ks:ZB)(z:Str):ZB:=if z∈ks then ks else ks++[z]
noncomputable def aL(ss:ZB):ZB:=ss.foldl lS []
theorem zq(ks:ZB)(z:Str):(lS ks z).length<=ks.length+1:=by
 unfold lS;split
 .lia
 .exact Z8▸Zh _
theorem zt:y∈lS ks z↔y∈ks\/y=z:=by
 unfold lS;by_cases h:z∈ks
 .rw[if_pos h]
  simp_all
 .rw[if_neg h,Yl,Yq]
theorem uw(h:ks.Nodup):(lS ks z).Nodup:=by
 unfold lS;by_cases a:z∈ks
 .rw[if_pos a];exact h
 .rw[if_neg a];exact l8 h a
theorem rR:∀{ss ks:ZB} {y:Str},y∈ss.foldl lS ks↔y∈ks\/y∈ss
 |[],ks,y=>by simp
 | z::r,ks,y=>by
   rw[foldl_cons,rR,zt,Yo]
   grind
theorem mP:∀{ss ks:ZB},ks.Nodup->(ss.foldl lS ks).Nodup
 |[],_,h=>h
 | z::r,ks,h=>by
   rw[foldl_cons];exact mP (uw h)
theorem br:y∈aL ss↔y∈ss:=by unfold aL;rw[rR];simp
theorem eT(ss:ZB):(aL ss).Nodup:=mP Yu
theorem rS:∀(ss ks:ZB),(ss.foldl lS ks).length<=ks.length+ss.length
 |[],ks=>by simp
 | z::r,ks=>by
   have a:=rS r (lS ks z);have b:=zq ks z;rw[foldl_cons,Zq]
   lia
theorem bj.keep(S:bj w a ks h)(k:∀o,h.get? a=some o->h'.get? a=some o):bj w a ks h':=by
 obtain⟨o,es,b,t,ss,c,r⟩:=S;exact%[o,es,b,t,ss,k o c|r]
theorem rT(val:Nat->Str)(i:Nat):aL ((List.range (i+1)).map val)=lS (aL ((List.range i).map val)) (val i):=by
 unfold aL;rw[range_succ,Zc,List.foldl_append];rfl
section
variable{prog:Program}{w:World}{A:Around}{R:Result->Shared->Prop}{I:Addr}{fp wr:List Addr}{G:Array GenState->Array GenState->Prop}{n:Nat}{P:Nat->Value->Prop}{St:Nat->Shared->Prop}
theorem n8(W:WalksS prog w A.in1 I fp wr G n P St)(S:Addr)(c:S∉fp)(val:Nat->Str)(d:∀i v,P i v->∃t,v= .str (val i) t)(a:n+1<scanBound):
 ∀(k i:Nat) (s:Shared),n-i=k->i<=n->St i s->bj w S (aL ((List.range i).map val)) s.heap->
  (∀s',Moved (S::wr) G s s'->bj w S (aL ((List.range n).map val)) s'.heap->R (.ok (.ret .none)) s')->codeAny (model prog w) A (.builtin "set.update.loop" %[[.ref S,.ref I]|[]]) R s:=by
 have f:S∉wr:=λh=>c (W.sub _ h)
 have more:∀b∈wr,b∈S::wr:=λb a=>Zj _ a
 intro k
 induction k with
 | zero=>
   intro i s y hi st l fin;have e:i=n:=by lia
   subst e;refine codeAny_builtin F.entry_set_update_loop ?_;rw[Around.under_plainId F.plain_set_update_loop _];show wpAny _ A.in1 (pyNext (.ref I)>>= _) _ _ s;refine Z2 (W.done s _ _ st λg j=>?_);show wpAny _ A.in1 (ret Value.none) _ _ g;exact Z3 (fin g (j.mono more) (l.keep λo e=>j.heap S o f e))
 | succ k z=>
   intro i s y hi st l fin;have lt:i<n:=by lia
   refine codeAny_builtin F.entry_set_update_loop ?_;rw[Around.under_plainId F.plain_set_update_loop _];show wpAny _ A.in1 (pyNext (.ref I)>>= _) _ _ s;refine Z2 (W.item i s _ _ lt st λv g pv m j=>?_);obtain⟨t,rfl⟩:=d i v pv;have room:(aL ((List.range i).map val)).length+1<scanBound:=by
    have q:=rS ((List.range i).map val) [];rw[Z5,Yc]at q;unfold aL;simp only[length_nil,zero_add]at q
    lia
   refine Z2 (wpAny_holding (rQ (l.keep (h':=g.heap) λo e=>j.heap S o f e) room λE b u p=>Z3 %[plainId_quiet F.plain_set_update_loop _|z (i+1) _ ⋯ lt (W.frame _ g _ _ m (Y8 _) λb a o e=>?_) (by rw[rT];exact p) λB C r=>?_]))
   .rw[u.2 b (λq:b=S=>c (q▸a))];exact e
   .refine fin B (Moved.trans W.gtrans ((j.mono more).then_heap (Y8 _) λb o a e=>?_) C) r;rw[u.2 b (λq:b=S=>a (q▸Zl))];exact e
end
section
#where
noncomputable abbrev aS(w:World):Obj:={cls:= .type "set",dict:=none,data:= .set #[] 0 (.fresh 0 0 (!aR w))}
theorem rV(a:Value)(h:Q₁ (.ref ⇑s) (s>>>s.heap.push (aS w))):
 codeAny (model prog w) A (.call (.builtin "set.__new__") %[[.type "set",a]|[]]) (wants Q₁ E) s:=by
 refine codeAny_of_tree ?_;show wpAny _ A.in1 _ _ _ s;refine Z2 (wpAny_of_eq (PySem.F.newCall_set_1 a) (Z3 %[plainId_quiet PySem.F.plain_set_new _|codeAny_builtin PySem.F.entry_set_new ?_]));unfold Builtin.«set.__new__» Builtin.Frozenset.newClass;have b:=sub_set_self;obtain⟨c,g,d,tk,os⟩:=s;dsimp only
 wp_walk
 refine wpAny_askSetting (Z3 ?_);dsimp only;simp only[newObj];exact Z2 (wpAny_alloc (Z3 (Z3 h)))
theorem bj.empty(e:h.get? a=some (aS w)):bj w a [] h:=
 %[_,#[],0,_,[],e,%[rfl,rfl|rfl],rfl,.nil,.nil,Yu,λe b=>by simp at b,by decide,rfl,λq=>absurd rfl q|rfl]
theorem rW:∀{vs:ZF} {ss:ZB},StrsAre vs ss->∀(i:Nat) v,vs[i]? =some v->∃t,v= .str (ss.getD i (Str.ofString "")) t
 | _,_,.nil,i,v,h=>by simp at h
 | _,_,.cons x t a,0,v,h=>by simp at h;exact%[t|by rw[<-h];rfl]
 | _,_,.cons x t a,i+1,v,h=>by
   obtain⟨u,e⟩:=rW a i v (h);exact%[u|by rw[e];rfl]
theorem ux(ss:ZB):(List.range ss.length).map (λi=>ss.getD i (Str.ofString ""))=ss:=by
 apply ext_getElem
 .simp
 .intro i a b
  simp_all
theorem n9(hh:A.handled=none)(hl:s.heap.IsList l a)(hi:StrsAre a.toList ss)(hb:a.size+1<scanBound)
 (hQ:∀(h':Heap) (tk:Nat),bj w ⇑s (aL ss) h'->(∀b o,s.heap.get? b=some o->h'.get? b=some o)->Q (.ref ⇑s) {s with heap:=h',toks:=tk}):
 ↥A (call (.type "set") [.ref l]) Q E s:=by
 obtain⟨c,tl,T⟩:=called_set.mro;have B:=called_set.made;have U:=called_set.sub;refine wpAny_call (codeAny_of_tree ?_);show wpAny _ _ (callAny (.type "set") _) _ _ _;refine Z3 %[Code.quiet_builtin _ (by decide +kernel)|codeAny_builtin F.entry_type_call ?_];rw[Around.under_plain (weight_type_call_type "set" [.ref l] []) rfl];have ae:=called_set.notType;have ag:=called_set.canCreate;have ai:=PySem.F.typeCall_set_1 (.ref l)
 repeat any_goals first|assumption|wp_step
 refine codeAny_mono (rV (.ref l) (E:=E) (Q₁:=λobj g=>obj= .ref ⇑s/\g=(s>>>s.heap.push (aS w))) %[rfl|rfl]) λr g C=>?_
 cases r with
 | error e=>exact C
 | ok fl=>
   cases fl with
   | ret obj=>
     obtain⟨rfl,rfl⟩:=C;have Y:(s.heap.push (aS w)).get? ⇑s=some (aS w):=Zi _ rfl;have tS:Shared.TypeIs (s>>>s.heap.push (aS w)) (.ref ⇑s) "set":=%[_,Y|rfl]
     have aj:=called_set.init.lookup;have al:=called_set.init.bind (.ref ⇑s)
     repeat any_goals first|assumption|wp_step
     refine codeAny_mono (codeAny_call_builtin (R:=wants (λr h=>r= .none/\∃h' tk,h={s with heap:=h',toks:=tk}/\bj w ⇑s (aL ss) h'/\(∀b o,s.heap.get? b=some o->h'.get? b=some o)) E) called_set.init.plain F.entry_set_init (check_set_init_1 tS ?_)) λn h d=>?_
     .obtain⟨ol,gl,cl,nl,dl⟩:=hl;obtain⟨ab,j,G,f⟩:=ol;simp only at cl dl;subst cl;subst dl;have H:(s.heap.push (aS w)).get? l=some {cls:= .type "list",dict:=j,data:= .seq a nl,slots:=f}:=Z6 _ gl;have an:=PySem.F.sub_list_set;have as:=PySem.F.sub_list_frozenset;have a0:(Value.type "list"==Value.type "dict")=false:=by decide
      have p:(s.heap.push (aS w)).IsList l a:=%[_,H,rfl,nl|rfl]
      unfold Builtin.«set.__init__»;unfold noKeywords;unfold Builtin.Frozenset.updateFrom
      generalize I:pyIter=PI
      wp_walk
      subst I;refine wpAny_pyIter_list p (Z2 (wpAny_runValue ?_));have q:l<⇑s:=Zt gl;have h3:A.in1.in1.in1.handled=none:=by simp[hh]
      have J:(s.heap.push (aS w)).objs.size=⇑s+1:=Zp ..;have L:l≠(s.heap.push (aS w)).objs.size:=by rw[J];exact Zr (Yg q)
      have M:⇑s∉[(s.heap.push (aS w)).objs.size,l]:=by
       rw[J];simp only[Yo,Yw,or_false,not_or];exact%[Zr (Yh _)|Yr q]
      have t:a.size=ss.length:=by rw[<-Za];exact bx hi
      refine n8 ((Walks.list h3 _ l L a).toS) ⇑s M (λi=>ss.getD i (Str.ofString "")) (λi v hv=>rW hi i v (by rw[Y6];exact hv)) hb (a.size-0) 0 _ ⋯ (X1 _)
       %[%[_,Zi _ rfl,rfl|rfl]|p.push _] (bj.empty (Z6 _ Y)) ?_
      intro s3 y z;rw[t,ux]at z;obtain⟨h',g',d',N,O⟩:=s3;have eg:g'=s.gens:=y.gens;have ed:d'=s.drawn:=y.drawn;have eo:O=s.os:=y.os;subst eg;subst ed;subst eo;refine Z3 ?_;show wpAny _ _ (ret Value.none) _ _ _;refine Z3 %[rfl,h',N,rfl,z|λb o e=>?_];have u:=Zt e;refine y.heap b o ?_ (Z6 _ (Z6 _ e));simp only[Yo,Yw,or_false,not_or,J];exact%[Zr u|Zr (Yg u)]
     .cases n with
      | error e=>exact d
      | ok m=>
        cases m with
        | ret r=>
          obtain⟨rfl,h',tk,rfl,z,k3⟩:=d
          repeat any_goals first|assumption|wp_step
          exact hQ _ _ z k3
        | _=>exact d.elim
   | _=>exact C.elim
end
section
variable{X:Cx}{K:ZA}
noncomputable def jR(w:World)(a:Addr)(ks:ZB):HO:= .ext (bj w a ks)
theorem zu(b:X.calm=true):bX X (.type "set") (λxs H Q=>∃p ss,xs=[.ref p]/\SqL X.K H p (ss.map V.str)/\ss.length<=4000/\∀l,H l=none->Q (.ref l) (upd H l (jR X.w l (aL ss)))):=by
 intro pins s m H xs us Q I r h;obtain⟨p,ss,rfl,c,n,q⟩:=h;obtain⟨u,rfl,d⟩:=cI r;cases d;obtain⟨its,e,pl,t⟩:=I.list c;have a:=gF e;have f:its.toArray.size=ss.length:=bx a;refine n9 (I.ok.hd b) pl.isList (a) (by rw[f];show ss.length+1<4096;lia) λh' tk S k=>%[.ref ⇑s,_,I.laid (o:=jR X.w ⇑s _) k (Zh _) %[S,?_|λv w g i=>g.keep i],rfl|q _ I.fresh]
 obtain⟨o,_,_,_,_,j,_⟩:=S;exact%[o|j]
theorem zv(h:X.K=K)(hw:X.w=w)(a:X.calm=true):cw X (.type "set") (λxs H Q=>∃p ss,xs=[.ref p]/\SqL K H p (ss.map V.str)/\ss.length<=4000/\∀l,H l=none->Q (.ref l) (upd H l (jR w l (aL ss)))):=by subst h;subst hw;exact⟨zu a⟩
end
theorem eU:∀{xs:List a} {i:Nat} (h:i<xs.length),(xs[i]::xs.eraseIdx i).Perm xs
 | x::r,0,_=>by simp
 | x::r,i+1,h=>by
   exact(List.Perm.swap _ _ _).trans (.cons _ (eU (by simpa using h)))
section
#where
theorem wJ(a:n≠0)(h:∀i d,i<n->Q i {s with drawn:=d}):↥A (choose b n) Q E s:=by
 intro c p _;exact%[a|h _ _ (mod_lt _ (Nat.pos_of_ne_zero a))]
theorem qu:∀(n:Nat) (xs:List b) (s:Shared) (Q:List b->Shared->Prop),xs.length<=n->(∀ys d,ys.Perm xs->Q ys {s with drawn:=d})->↥A (drawOrder n xs) Q E s
 | 0,xs,s,Q,a,h=>by
   have e:=length_eq_zero_iff.mp (le_zero.mp a);subst e;exact Z3 (h [] s.drawn .nil)
 | n+1,[],s,Q,a,h=>Z3 (h [] s.drawn .nil)
 | n+1,x::r,s,Q,a,h=>by
   unfold drawOrder;refine Z2 (wJ ∅ λi d hi=>?_);rw[(Z4 hi)];exact Z2 (qu n _ _ _ (by rw[List.length_eraseIdx];simp only[hi];simp_all) λys c p=>Z3 (h _ c ((List.Perm.cons _ p).trans (eU hi))))
end
theorem vF(next:Nat->Nat):∀(fuel k:Nat) (left:List b) (a:Array b),left.length<=fuel->(pickOrder.go next fuel k left a).toList.Perm (a.toList++left)
 | 0,k,left,a,h=>by
   have e:=length_eq_zero_iff.mp (le_zero.mp h);subst e;rw[Zw];exact .refl _
 | fuel+1,k,[],a,h=>by
   unfold pickOrder.go;simp
 | fuel+1,k,x::r,a,h=>by
   unfold pickOrder.go;have hi:next k%(x::r).length<(x::r).length:=mod_lt _ ∅;rw[Z4 hi];refine(vF next fuel _ _ _ (by rw[List.length_eraseIdx];simp_all)).trans ?_;rw[toList_push,Zd];exact(List.Perm.refl _).append (eU hi)
theorem pA(next:Nat->Nat)(xs:Array a):(pickOrder next xs).toList.Perm xs.toList:=by
 have:=vF next xs.size 0 xs.toList #[] ∅;simpa [pickOrder]using this
theorem pB(p j:Nat):SetTable.below #[p] j=if p<j then 1 else 0:=by
 unfold SetTable.below;simp only[Zo,Zq];unfold SetTable.below.go;simp
 split<;>(rfl)
theorem uy(j:Nat):SetTable.below #[] j=0:=rfl
theorem pD{a:Type}{xs:Array a}(h:xs.size=1):∃p,xs= #[p]:=by
 obtain⟨l⟩:=xs
 match l,h with
 |[p],_=>exact%[p|rfl]
def SIt(w:World)(I S T:Addr)(o:Obj)(es:Array (Int×Value))(b:Nat)(t:SetTable)(a:ZF)(i:Nat)(h:Heap):Prop:=
 h.get? S=some o/\∃first,h.get? I=some {cls:= .type "set_iterator",dict:=none,data:= .fields #[first,rawInt i,.ref S,rawInt es.size,rawInt b],slots:= #[]}/\
  ((aR w=true/\first=rawInt 0/\a=(pickOrder (w.params.setOrder S b) es).toList.map (·.2))\/
   (aR w=false/\first= .ref T/\T≠I/\∃ps:List Nat,h.get? T=some {cls:= .type "tuple",data:= .seq (ps.map λ(i:Nat)=>rawInt i).toArray}/\ps.length=a.length/\∀(j p:Nat),ps[j]? =some p->∃e,es[p]? =some e/\a[j]? =some e.2)\/
   (aR w=false/\es.size<=1/\a=es.toList.map (·.2)/\(i=0->first=rawInt 0)/\(i=1->∃p:Nat,t.place[0]? =some p/\first=rawInt (p+1))))
theorem SIt.is{w:World}{I S T:Addr}{o:Obj}{es:Array _}{b:Nat}{t:SetTable}{a:ZF}{i:Nat}{s:Shared}(h:SIt w I S T o es b t a i s.heap):s.TypeIs (.ref I) "set_iterator":=by
 obtain⟨_,f,c,_⟩:=h;exact%[_,c|rfl]
section
#where
variable{I S T:Addr}{o:Obj}{es:Array (Int×Value)}{ep:Nat}{t:SetTable}{ord:ZF}
theorem uz{i:Nat}{v:Value}{Q:Option Value->Shared->Prop}(y:o.data= .set es ep t)(h:t.fits es.size=true)(z:t.led=!aR w)(j:S≠I)(st:SIt w I S T o es ep t ord i s.heap)(f:ord[i]? =some v)(hn:ord.length=es.size)
 (U:∀h',SIt w I S T o es ep t ord (i+1) h'->SameBut I s.heap h'->Q (some v) (s>>>h')):↥A (pyNext (.ref I)) Q E s:=by
 have hT:=st.is;obtain⟨g,first,N,m⟩:=st;unfold pyNext;refine Z2 (wpAny_attempt (wpAny_callSpecial?_slot (name:=Str.ofString "__next__") hT bL (wpAny_call_entry bL hT fY ?_ (io _))));unfold Builtin.«set_iterator.__next__»;refine Z2 (m:=slotArgs _ _ _) (Z3 ?_);refine Z2 (wpAny_fieldsOf N rfl ?_);show wpAny _ _ (setEntries S>>= _) _ _ _;refine Z2 (wpAny_setEntries_of g y h ?_);rw[if_neg ∅];rcases m with⟨c,rfl,B⟩|⟨c,rfl,C,ps,G,Y,H⟩|⟨c,h1,B,f0,f1⟩
 .show wpAny _ _ (setNext S 0 i ep>>= _) _ _ _;refine Z2 ?_;unfold setNext;refine Z2 (wpAny_setState_of g y h ?_);refine Z2 (Z2 (wpAny_askSetting (Z3 ?_)));show wpAny _ _ (if aR w=true then _ else _) _ _ _;rw[if_pos c];dsimp only;rw[if_neg (show ¬ ((ep != ep)=true) by simp)];refine Z2 ?_;unfold setWalk;refine Z2 (wpAny_setState_of g y h ?_);refine Z2 (Z2 (wpAny_askSetting (Z3 ?_)));show wpAny _ _ (if aR w=true then _ else _) _ _ _;rw[if_pos c];refine Z2 (wpAny_askSetting (Z3 (Z3 ?_)));have d:(pickOrder (w.params.setOrder S ep) es)[i]?.map (·.2)=some v:=by
   rw[B]at f;simpa using f
  cases u:(pickOrder (w.params.setOrder S ep) es)[i]? with
  | none=>rw[u]at d;cases d
  | some e=>
    rw[u]at d;have J:e.2=v:=by simpa using d
    show wpAny _ _ (match((pickOrder (w.params.setOrder S ep) es)[i]?).map λe=>(e.2,0)with|some (x,next)=>_|none=>_) _ _ _;rw[u];refine Z2 (wpAny_setField_rec N ∅ λg1 b a=>?_);refine Z2 (wpAny_setField_rec (s:=(s>>>g1)) b ∅ λg2 l n=>?_);rw[J];have L:SameBut I s.heap g2:=a.trans n;refine Z3 %[v,rfl|Z3 (U g2 %[(L.2 S j).trans g,_,l|.inl %[c,rfl|B]] L)]
 .refine Z2 (wpAny_seqItems G rfl ?_);have hi:i<ord.length:=(X7 f).1;have ab:i<ps.length:=by lia
  obtain⟨e,O,ae⟩:=H i ps[i] ∅;have J:e.2=v:=by rw[ae]at f;exact Z9 f
  have M:(ps.map λ(i:Nat)=>rawInt i).toArray[(i:Int).toNat]? =some (rawInt ps[i]):=by simp[ab]
  dsimp only;rw[M];show wpAny _ _ (setNextDrawn S ps[i] ep>>= _) _ _ _;refine Z2 ?_;unfold setNextDrawn;refine Z2 (wpAny_setState_of g y h ?_);dsimp only;rw[if_neg (show ¬ ((ep != ep)=true) by simp),O];refine Z3 ?_;refine Z2 (wpAny_setField_rec N ∅ λg1 b a=>?_);rw[J];exact Z3 %[v,rfl|Z3 (U g1 %[(a.2 S j).trans g,_,b|.inr (.inl %[c,rfl,C,ps,(a.2 T C).trans G,Y|H])] a)]
 .have hi:i<ord.length:=(X7 f).1;have i0:i=0:=by lia
  subst i0;have f0:=f0 rfl;subst f0;have e1:es.size=1:=by lia
  have pz:t.place.size=1:=by
   simp only[SetTable.fits,Zu,beq_iff_eq,decide_eq_true_eq]at h;rw[h.1,e1]
  obtain⟨p,u⟩:=pD pz;obtain⟨e,O⟩:∃e,es[0]? =some e:=%[es[0]|by simp]
  have J:e.2=v:=by
   rw[B]at f;have:(es[0]?).map (·.2)=some v:=by simpa using f
   rw[O]at this;simpa using this
  show wpAny _ _ (setNext S 0 0 ep>>= _) _ _ _;refine Z2 ?_;unfold setNext;refine Z2 (wpAny_setState_of g y h ?_);show wpAny _ _ (if aR w=true then _ else _) _ _ _;rw[if_neg (by rw[c];decide)];dsimp only
  split
  .rename_i r
   change (!t.plain&&decide (es.size>1))=true at r;rw[e1]at r;simp at r
  .refine Z2 (m:=(if(!t.led&&!es.isEmpty)=true then unsupported "set:maker-not-led" else pure ())) ?_;rw[z,c];refine Z3 ?_;rw[u,pB];simp only[Yv,↓reduceIte,O];refine Z3 ?_;show wpAny _ _ (setField (.ref I) 0 (rawInt ((p+1:Nat):Int))>>= _) _ _ _;refine Z2 (wpAny_setField_rec N ∅ λg1 b a=>Z2 (wpAny_setField_rec (s:=(s>>>g1)) b ∅ λg2 l n=>?_));rw[J];have L:SameBut I s.heap g2:=a.trans n;exact Z3 %[v,rfl|Z3 (U g2 %[(L.2 S j).trans g,_,l|.inr (.inr %[c,⋯,B,λq=>by lia|λ_=>%[p,by rw[u];rfl|rfl]])] L)]
theorem rX{c:Type}{Q:c->Shared->Prop}(d:A.handled=none)(f:∀h' e,(∀b o,s.heap.get? b=some o->h'.get? b=some o)->(∃o,h'.get? e=some o/\o.cls= .type "StopIteration")->E (.ref e) (s>>>h')):
 ↥A (newExc (.type "StopIteration") []>>= λe=>(raiseNew e)) Q E s:=by
 refine Z2 ?_;refine Z2 (wpAny_newObj_type ?_ (by size_fits));refine Z2 (wpAny_of_eq (a:=Value.none) (by first|rfl|lia) (wpAny_newObj_type (wpAny_raiseNew_none d (f _ _ (λb o e=>Z6 _ (Z6 _ e)) %[_,Zi _ rfl|rfl])) (by size_fits)))
theorem wK{i:Nat}{Q:Option Value->Shared->Prop}(hh:A.handled=none)(u:o.data= .set es ep t)(h:t.fits es.size=true)(l:t.led=!aR w)(st:SIt w I S T o es ep t ord i s.heap)(hi:i=ord.length)(hn:ord.length=es.size)
 (hQ:∀h',(∀b o,b≠I->s.heap.get? b=some o->h'.get? b=some o)->Q none (s>>>h')):↥A (pyNext (.ref I)) Q E s:=by
 have U:=st.is;obtain⟨y,first,z,m⟩:=st;have G:A.in1.handled=none:=hh;have fin:∀(g:Heap) (Y:Fin->Shared->Prop),SameBut I s.heap g->↥A.in1 (newExc (.type "StopIteration") []>>= λe=>(raiseNew e:Sem Fin)) Y (λe s'=>↥A (do
  if(<-isInstance e (.type "StopIteration"))then pure none else throw e) Q E s') (s>>>g):=λg Y sb=>by
  refine rX G λh' e k ⟨oe,he,hc⟩=>?_
  refine Z2 (wpAny_isInstance (T:="StopIteration") (b:=true) %[oe,he|hc] isSubtype_stop (Z3 (hQ h' λb o n q=>k b o ((sb.2 b n).trans q))))
 unfold pyNext;refine Z2 (wpAny_attempt (wpAny_callSpecial?_slot (name:=Str.ofString "__next__") U bL (wpAny_call_entry bL U fY ?_ (io _))));unfold Builtin.«set_iterator.__next__»;refine Z2 (m:=slotArgs _ _ _) (Z3 ?_);refine Z2 (wpAny_fieldsOf z rfl ?_);show wpAny _ _ (setEntries S>>= _) _ _ _;refine Z2 (wpAny_setEntries_of y u h ?_);rw[if_neg ∅];rcases m with⟨j,rfl,eo⟩|⟨j,rfl,ab,ps,H,ae,ag⟩|⟨j,h1,eo,J,L⟩
 .show wpAny _ _ (setNext S 0 i ep>>= _) _ _ _;refine Z2 ?_;unfold setNext;refine Z2 (wpAny_setState_of y u h ?_);refine Z2 (Z2 (wpAny_askSetting (Z3 ?_)));show wpAny _ _ (if aR w=true then _ else _) _ _ _;rw[if_pos j];dsimp only;rw[if_neg (show ¬ ((ep != ep)=true) by simp)];refine Z2 ?_;unfold setWalk;refine Z2 (wpAny_setState_of y u h (Z2 (Z2 (wpAny_askSetting (Z3 ?_)))));show wpAny _ _ (if aR w=true then _ else _) _ _ _;rw[if_pos j];refine Z2 (wpAny_askSetting (Z3 (Z3 ?_)));have B:(pickOrder (w.params.setOrder S ep) es)[i]? =none:=by
   rw[Array.getElem?_eq_none_iff,hi,eo,Z5,Za];exact Zh _
  show wpAny _ _ (match((pickOrder (w.params.setOrder S ep) es)[i]?).map λe=>(e.2,0)with|some (x,next)=>_|none=>_) _ _ _;rw[B];show wpAny _ _ (setField (.ref I) 2 .none>>= _) _ _ _;exact Z2 (wpAny_setField_rec z ∅ λg1 _ c=>fin g1 _ c)
 .show wpAny _ _ (seqItems? (.ref T)>>= _) _ _ _;refine Z2 (wpAny_seqItems H rfl ?_);have r:(ps.map λ(i:Nat)=>rawInt i).toArray[(i:Int).toNat]? =none:=by simp;lia
  dsimp only;rw[r];exact Z2 (wpAny_setField_rec z ∅ λg1 M c=>Z2 (wpAny_setField_rec M ∅ λg2 _ N=>fin g2 _ (c.trans N)))
 .have done:∀slot:Nat,first=rawInt slot->SetTable.below t.place slot=es.size->↥A.in1 (setNext S slot i ep) (λa s'=>a=none/\s'=s) (λ_ _=>False) s:=by
   intro slot _ n;unfold setNext;refine Z2 (wpAny_setState_of y u h ?_);show wpAny _ _ (if aR w=true then _ else _) _ _ _;rw[if_neg (by rw[j];decide)];dsimp only
   split
   .rename_i d
    change (!t.plain&&decide (es.size>1))=true at d;have:decide (es.size>1)=false:=Zg ⋯;rw[this,Bool.and_false]at d;cases d
   .refine Z2 (m:=(if(!t.led&&!es.isEmpty)=true then unsupported "set:maker-not-led" else pure ())) ?_;rw[l,j];refine Z3 ?_;rw[n,show es[es.size]? =none by simp];exact Z3 %[rfl|rfl]
  have go:∀slot:Nat,first=rawInt slot->SetTable.below t.place slot=es.size->↥A.in1 (setNext S slot i ep>>= λa=>match a with
   | some (x,next)=>(do
     setField (.ref I) 0 (rawInt ↑next)
     setField (.ref I) 1 (rawInt (↑i+1))
     ret x)
   | none=>(do
     setField (.ref I) 2 .none
     let e<-newExc (.type "StopIteration") []
     raiseNew e)) (λfin s'=>∃v,fin=Fin.done (Flow.ret v)/\↥A (pure (some v)) Q E s') (λe s'=>↥A (do
   if(<-isInstance e (.type "StopIteration"))then pure none else throw e) Q E s') s:=by
   intro slot e n;refine Z2 (wpAny_mono (done slot e n) (λa s' ⟨C,e2⟩=>?_) λ_ _ f=>f.elim);subst C;subst e2;exact Z2 (wpAny_setField_rec z ∅ λg1 _ c=>fin g1 _ c)
  have pz:=by
   simp only[SetTable.fits,Zu,beq_iff_eq,decide_eq_true_eq]at h;exact h.1
  by_cases e0:es.size=0
  .have i0:i=0:=by lia
   subst i0;have J:=J rfl;subst J;refine go 0 rfl ?_;have:t.place= #[]:=Array.eq_empty_of_size_eq_zero ⋯;rw[this,uy,e0]
  .have C:es.size=1:=by lia
   have i1:i=1:=by lia
   subst i1;obtain⟨p,B,L⟩:=L rfl;subst L;refine go (p+1) rfl ?_;obtain⟨p',O⟩:=pD (by rw[pz,C]:t.place.size=1);rw[O]at B ⊢;have:p'=p:=by simpa using B
   subst this;rw[pB,if_pos (Yh _),C]
end
theorem ip:Slot "set_iterator" "__iter__" "set_iterator.__iter__":=
 .of (owner:="set_iterator") (n:="__iter__") (by rw[typeLookup_type,builtinLookup_eq_fast];kernel_rfl) (by decide +kernel) (by decide +kernel) (by decide +kernel) (by first|exact .inl (by decide +kernel)|exact .inr ∅) (by kernel_rfl)
theorem kD:entryFor table "set_iterator.__iter__"=some Builtin.«dict_keyiterator.__iter__»:=entryFor_alias (id':="dict_keyiterator.__iter__") (by kernel_rfl) rfl (by decide +kernel) (by kernel_rfl)
theorem lT(a:Value):argsOk "set_iterator.__iter__" %[[a]|[]]:=by kernel_rfl
theorem qv:typeLookup (.type "set") "__len__"=pure (some (.builtin "set.__len__")):=by kernel_rfl
section
#where
variable{I S T:Addr}{o:Obj}{es:Array (Int×Value)}{ep:Nat}{t:SetTable}{ord:ZF}
theorem wL(hh:A.handled=none)(hd:o.data= .set es ep t)(hf:t.fits es.size=true)(hled:t.led=!aR w)(hSI:S≠I)(hn:ord.length=es.size):
 Walks prog w A I [I,S,T] [I] ord.length (λi v=>ord[i]? =some v) (λi h=>SIt w I S T o es ep t ord i h) where
 sub:=by simp
 frame:=λi h h' st k=>by
  obtain⟨hS,first,hI,m⟩:=st;refine⟨k S ∅ _ hS,first,k I ∅ _ hI,?_⟩;rcases m with m|⟨bt,e,hTI,ps,hTt,r⟩|m
  .exact .inl m
  .exact .inr (.inl %[bt,e,hTI,ps,k T ∅ _ hTt|r])
  .exact .inr (.inr m)
 item:=λi s Q E hi st hQ=>uz (v:=ord[i]) hd hf hled hSI st ∅ hn λh' st' sb=>hQ _ h' s.toks ∅ st' λb o' hb e=>(sb.2 b (λq=>hb (by simp[q]))).trans e
 done:=λs Q E st hQ=>wK hh hd hf hled st rfl hn λh' k=>hQ h' s.toks λb o' hb e=>k b o' (λq=>hb (by simp[q])) e
 self:=λi s Q E st hQ=>by
  have hT:=st.is;exact wpAny_pyIter_slot hT ip (wpAny_call_entry ip hT kD (Z3 %[_,rfl,"set_iterator",_,hT,bL.lookup|hQ]) (lT _))
theorem wM(f:s.heap.get? S=some o)(z:o.ExactSet)(B:o.data= .set es ep t)(hb:es.size<scanBound)(C:t.fits es.size=true)(G:es.size≠0->t.plain=false)(N:t.led=!aR w)
 (hQ:∀(I T:Addr) (ord:ZF) (h':Heap) d,(∀b o,s.heap.get? b=some o->h'.get? b=some o)->⇑s<=I->S≠I->(T=S\/⇑s<=T)->T<h'.objs.size->I<h'.objs.size->ord.length=es.size->
  SIt w I S T o es ep t ord 0 h'->ord.Perm (es.toList.map (·.2))->Q (.ref I) {s with heap:=h',drawn:=d}):↥A (pyIter (.ref S)) Q E s:=by
 have O:s.TypeIs (.ref S) "set":=%[o,f|z.1]
 have l:S<⇑s:=Zt f;refine wpAny_pyIter_slot O F.slot_set_iter (wpAny_call_entry F.slot_set_iter O nZ ?_ (F.args_set_iter_1 _));unfold Builtin.«frozenset.__iter__»;refine Z2 (m:=Builtin.Frozenset.slot0 _ _) (Z2 (m:=slotArgs _ _ _) (Z3 (Z3 ?_)));refine Z2 (m:=Builtin.Frozenset.sizeOf S) (Z2 (wpAny_setEntries_of f B C (Z3 ?_)));refine Z2 (m:=setDrawn S) ?_;unfold setDrawn;refine Z2 (wpAny_setState_of f B C (Z2 (Z2 (wpAny_askSetting (Z3 (Z3 ?_))))));have fin:∀(first:Value) (a:Shared) (T:Addr) (ord:ZF),a.heap.get? S=some o->(∃d c,a={s with heap:=c,drawn:=d})->(∀b o,s.heap.get? b=some o->a.heap.get? b=some o)->T<⇑a->⇑s<=⇑a->(T=S\/⇑s<=T)->ord.Perm (es.toList.map (·.2))->
  ((aR w=true/\first=rawInt 0/\ord=(pickOrder (w.params.setOrder S ep) es).toList.map (·.2))\/(aR w=false/\first= .ref T/\∃ps:List Nat,a.heap.get? T=some {cls:= .type "tuple",data:= .seq (ps.map λ(i:Nat)=>rawInt i).toArray}/\ps.length=ord.length/\∀(j p:Nat),ps[j]? =some p->∃e,es[p]? =some e/\ord[j]? =some e.2)\/(aR w=false/\es.size<=1/\ord=es.toList.map (·.2)/\first=rawInt 0))->ord.length=es.size->
  ↥A.in1 (do ret (<-newFields "set_iterator" [first,rawInt 0,.ref S,rawInt es.size,rawInt (<-setEpoch S)])) (λfin s'=>∃v,fin=Fin.done (Flow.ret v)/\∃U r,s'.TypeIs v U/\typeLookup (.type U) "__next__"=pure (some r)/\Q v s') (λe s'=>E e s') a:=by
  intro first a T ord c %[d,g1|e1] k1 Y sl H u m hn
  subst e1;refine Z2 (wpAny_setEpoch_of c B C (Z2 (wpAny_newObj_type ?_)));have gI:(g1.push {cls:= .type "set_iterator",data:= .fields #[first,rawInt 0,.ref S,rawInt es.size,rawInt ep]}).get? g1.objs.size=some _:=Zi _ rfl;refine Z3 %[_,rfl,"set_iterator",_,%[_,gI|rfl],bL.lookup|hQ g1.objs.size T ord _ d (λb o' e=>Z6 _ (k1 b o' e)) sl (Zr (Zt c)) H (by rw[Zp];exact Yg Y) (by rw[Zp];exact Yh _) hn ?_ u];refine⟨Z6 _ c,first,gI,?_⟩;rcases m with m|⟨g,e,ps,J,r⟩|⟨g,L,eo,e⟩
  .exact .inl m
  .exact .inr (.inl %[g,e,Zr Y,ps,Z6 _ J|r])
  .exact .inr (.inr %[g,L,eo,λ_=>e|λq=>absurd q ∅])
 have lst:(es.toList.map (·.2)).length=es.size:=by rw[Z5,Za]
 by_cases g:aR w=true
 .show wpAny _ _ (if(!aR w&&_)=true then _ else _) _ _ _;rw[g,Bool.not_true,Bool.false_and,if_neg ∅];refine Z2 (Z3 ?_);have n:=(pA (w.params.setOrder S ep) es).map (·.2);exact fin (rawInt 0) s S _ f %[s.drawn,s.heap|rfl] (λ_ _ e=>e) l (Zh _) (.inl rfl) n (.inl %[g,rfl|rfl]) (by rw[n.length_eq,lst])
 .have y:aR w=false:=by simpa using g
  show wpAny _ _ (if(!aR w&&(!t.plain&&decide (es.size>1)))=true then _ else _) _ _ _;by_cases c:es.size>1
  .rw[y,G ⋯,Ze c];refine Z2 (qu es.size _ _ _ ∅ λps d h=>Z2 (wpAny_newTuple ?_ (by rw[Z5,h.length_eq,Yc];exact fits_of_scanBound hb)));have lt:∀p∈ps,p<es.size:=λp q=>mem_range.mp (h.mem_iff.mp q)
   have er:(List.range es.size).map (λp=>((es[p]?).map (·.2)).getD .none)=es.toList.map (·.2):=by
    apply ext_getElem
    .simp
    .intro i u q2;simp at u;simp[u]
   have n:(ps.map (λp=>((es[p]?).map (·.2)).getD .none)).Perm (es.toList.map (·.2)):=er▸h.map _;refine fin _ _ ⇑s _ (Z6 _ f) %[d,_|rfl] (λb o' e=>Z6 _ e) (by rw[Zp];exact Yh _) (by rw[Zp];exact Y8 _) (.inr (Zh _)) n
    (.inr (.inl %[y,rfl,ps,Zi _ rfl,by rw[Z5]|λj p q=>?_])) (by rw[n.length_eq,lst])
   have M:=lt p (Z7 q);exact%[es[p],by simp|by simp[q,M]]
  .rw[y,Zg c];simp only[Bool.and_false,Zx];exact fin (rawInt 0) s S _ f %[s.drawn,s.heap|rfl] (λ_ _ e=>e) l (Zh _) (.inl rfl) (List.Perm.refl _) (.inr (.inr %[y,⋯,rfl|rfl])) lst
theorem jS(hh:A.handled=none)(u:s.heap.get? S=some r)(a:r.ExactSet)(v:r.data= .set g a0 t0)(y:g.size<scanBound)(z:t0.fits g.size=true)(B:g.size≠0->t0.plain=false)(c:t0.led=!aR w)
 (hQ:∀s' vs,vs.Perm (g.toList.map (·.2))->(∀b o,s.heap.get? b=some o->s'.heap.get? b=some o)->s'.gens=s.gens->s'.os=s.os->⇑s<=⇑s'->Q vs s'):↥A (collect (.ref S)) Q E s:=by
 unfold collect;refine Z2 (wpAny_runValue (codeAny_builtin F.entry_proto_collect ?_));rw[Around.under_plainId F.plain_proto_collect _];show wpAny _ A.in1 (newList []>>= λl=>again (.builtin "list.__iadd__" %[[l,.ref S]|[]])) _ _ s;refine Z2 (wpAny_newObj_type (Z3 %[plainId_quiet F.plain_list_iadd _|codeAny_builtin F.entry_list_iadd ?_]));rw[Around.under_plainId F.plain_list_iadd _];have i:S<⇑s:=Zt u;show wpAny _ A.in1 (Builtin.List.listExtendWith (.ref ⇑s) (.ref S) (.ref ⇑s)) _ _ _;unfold Builtin.List.listExtendWith
 generalize U:s.heap.push {cls:= .type "list",data:= .seq ([]:ZF).toArray}=G
 have gS:G.get? S=some r:=by rw[<-U];exact Z6 _ u
 have gz:G.objs.size=⇑s+1:=by rw[<-U,Zp]
 have gL:G.get? ⇑s=some {cls:= .type "list",data:= .seq ([]:ZF).toArray}:=U▸Zi _ rfl;have tS:Shared.TypeIs (s>>>G) (.ref S) "set":=%[r,gS|a.1]
 refine Z2 (wpAny_typeOf (T:="set") tS ?_);have n1:Builtin.List.listSameRef (.ref ⇑s) (.ref S)=false:=by
  show(⇑s==S)=false;exact beq_eq_false_iff_ne.mpr (Yr i)
 have n2:(Value.type "set"==Value.type "list")=false:=by decide
 have n3:(Value.type "set"==Value.type "tuple")=false:=by decide
 simp only[n1,n2,n3,Bool.or_false,Zx,if_false];refine Z2 (wM (s:=(s>>>G)) gS a v y z B c λI T ord h d C Y ab ae a1 a2 hn st q1=>?_);replace C:∀b o,G.get? b=some o->h.get? b=some o:=C;replace Y:G.objs.size<=I:=Y;have ag:h.get? S=some r:=C _ _ gS;refine Z2 (wpAny_holding ?_);unfold Builtin.List.listLengthHint;have m:Shared.TypeIs {s with heap:=h,drawn:=d} (.ref S) "set":=%[r,ag|a.1]
 refine Z2 (wpAny_specialOf (T:="set") m qv ?_)
 wp_delta
 refine Z2 (wpAny_isInstance (T:="set") (b:=true) m (by rw[isSubtype_type];kernel_rfl) ?_);show wpAny _ A.in1 (typeOf (.ref S)>>= _) _ _ _;refine Z2 (wpAny_typeOf (T:="set") m (Z3 ?_));rw[if_pos (by decide)];refine Z2 (wpAny_rule ?_);have H:h.get? ⇑s=some {cls:= .type "list",data:= .seq ([]:ZF).toArray}:=C _ _ gL;refine Z2 ?_;unfold Builtin.List.listTouch;refine Z2 (listUpdate_at (s:={s with heap:=h,drawn:=d}) H rfl ?_ (X1 _) (by show 1<=sizeLine+1;lia));have J:=get?_update_self (Obj.mapSeq (·.push Value.none)) H rfl;refine listUpdate_at (xs:= #[Value.none]) (n:=1) (s:={s with heap:=h.update ⇑s (Obj.mapSeq _),drawn:=d}) J rfl ?_ (by decide) (by show 0<=sizeLine+1;lia);have ai:=get?_update_self (Obj.mapSeq (·.pop)) J rfl;have L:∀b o,b≠⇑s->h.get? b=some o->((h.update ⇑s (Obj.mapSeq (·.push Value.none))).update ⇑s (Obj.mapSeq (·.pop))).get? b=some o:=λb o hb e=>(get?_update_other _ _ (Ne.symm hb)).trans ((get?_update_other _ _ (Ne.symm hb)).trans e)
 have aj:=Zr (Zf (by rw[gz];exact Yh _) Y);have neT:⇑s≠T:=by
  rcases ae with e|e
  .exact e▸Yr i
  .exact Zr (Zf (gz▸Yh _) e)
 have M:⇑s∉[I,S,T]:=by
  simp only[Yo,Yw,or_false,not_or];exact%[aj,Yr i|neT]
 have al:ord.length<=sizeLine:=hn▸fits_of_scanBound y;have W:=wL (prog:=prog) (A:=A.in1) (T:=T) (hh) v z c ab hn;have an:=W.frame 0 h _ st λb hb N e=>L b N (λq=>M (q▸hb)) e
 refine Z3 %[plainId_quiet F.plain_extend_loop _|codeAny_extend_loopS W.toS al _ M _ ord.length 0 _ _ _ rfl (X1 _) an ai (ItemsOf.nil _) λs5 acc c5 m5 O f=>?_];refine Z2 (wpAny_load O (Z3 ?_));have ea:acc.toList=ord:=by
  apply List.ext_getElem?;intro j;by_cases hj:j<ord.length
  .have as:j<acc.size:=f.1▸hj;have:=f.2 j acc[j] ∅;rw[this];simp[as]
  .have l1:acc.toList.length=ord.length:=f.1;rw[X6 ⋯,X6 (l:=ord) ⋯]
 rw[ea];refine hQ s5 ord q1 (λb N e=>?_) m5.gens m5.os (le_of_lt (Zt O));have p:=Zt e;refine m5.heap b N ?_ (L b N (Zr p) (C b N (U▸Z6 _ e)));simp only[Yo,Yw,or_false,not_or];exact%[Zr p|Zr (Zf p (Y9 (gz▸Y8 _) Y))]
theorem rY(f:A.handled=none)(h:bj w S ks s.heap)
 (i:∀s' vs ss,StrsAre vs ss->ss.Perm ks->(∀b o,s.heap.get? b=some o->s'.heap.get? b=some o)->s'.gens=s.gens->s'.os=s.os->⇑s<=⇑s'->Q vs s'):↥A (collect (.ref S)) Q E s:=by
 obtain⟨o,es,ep,t,ss,j,c,l,d,m,n,p,q,r,e,a⟩:=h;refine jS f j c l q r e a λs' vs pv k g os sz=>?_
 obtain⟨ts,u,v⟩:=ce d pv;exact i s' vs ts u (v.trans m) k g os sz
end
section
variable{X:Cx}{pins:ZE}{σ:St}{H:Hp}{s s':Shared}
theorem Inv.keptS(I:Inv X pins σ H s)(k:∀b o,s.heap.get? b=some o->s'.heap.get? b=some o)(c:s'.gens=s.gens)(a:s'.os=s.os):Inv X pins σ H s':=by
 obtain⟨h',g',d',t',d⟩:=s';replace a:d=s.os:=a;subst c;subst a;refine I.step (ch:=[]) (λb f=>absurd f ∅) (λb o _ _ _ e _=>k b o e) (λb o _ _ _ e _=>%[o.slots|k b o e]) (λ_ _ _ _ n=>n) (λb o _ e=>%[o|k b o e]) (λ_ _ e=>e) (λ_ _ _ e=>e) (λb ps e=>%[#[]|by rw[e];simp]) (λm g=>?_) (λb v e=>?_) I.bare
 .obtain⟨o,es,h,a,r⟩:=g;exact%[o,es,h,k _ o a|r]
 .exact(I.hok b v e).stay (λi j _ q=>k i j q) (λ_ q=>q) λ_ _ q=>q
theorem Inv.stoodS(I:Inv X pins σ H s)(J:Inv X pins σ H s')(c:⇑s<=a)(new:bQ X.prog X.w (upd H a o) s'.heap a o):Inv X pins σ (upd H a o) s':=by
 have d:=I.hok.fresh c;refine%[J.ok,J.os,J.bare,?_,J.loc,J.cell,?_,?_,?_,?_|J.len]
 .refine%[J.base.keep,J.base.slot,λb o e n j=>?_,J.base.there,λb xs e=>?_,λb o v e=>?_|λb ps e=>?_]
  .rw[am ((λb o e=>Zr (Zf (Zf (Zt e) I.sz) c)) b o e)];exact J.base.free b o e n j
  .rw[am (ar (J.base.tups b xs e) d)];exact J.base.tups b xs e
  .rw[am (ar (J.base.frzs b o v e) d)];exact J.base.frzs b o v e
  .obtain⟨m,q⟩:=J.base.tbls b ps e;exact%[m|(am (ar q d))▸q]
 .rw[am (Zr (Zf I.lt c))];exact J.free
 .intro g f e;obtain⟨l,q⟩:=I.cell g f e;rw[am (Zr (Zf q.lt c))];exact J.freeC g f e
 .intro p h;obtain⟨e,n,r⟩:=J.pin p h;refine%[e,?_|r];rw[am (Zr (Zf (Zt (I.pin p h).1) c))];exact n
 .intro b v e;by_cases i:b=a
  .subst i;rw[aa]at e;cases e;exact new
  .rw[am i]at e;refine(J.hok b v e).stay (λ_ _ _ q=>q) (λf q=>?_) λf xs q=>?_
   .rw[am (ar q d)];exact q
   .rw[am (ar q d)];exact q
end
section
#where
variable{S:Addr}
theorem uA(t:A.handled=none)(u:bj w S ks s.heap)(g:ks.length<64)
 (v:∀(s':Shared) (l:Addr) (vs:ZF) (ss:ZB) (n:Nat),StrsAre vs ss->ss.Perm ks->sortedS ss=true->(∀b o,s.heap.get? b=some o->s'.heap.get? b=some o)->s'.gens=s.gens->s'.os=s.os->⇑s<=l->s'.heap.get? l=some {cls:= .type "list",data:= .seq vs.toArray n}->Q (.ref l) s'):
 ↥A (call (.builtin "sorted") [.ref S]) Q E s:=by
 refine Calls.call_function_entry kind_sorted plain_sorted entry_sorted (args_sorted1 _) ?_;unfold Builtin.«sorted»;refine Z2 (m:=checkCount "sorted" 1 1 _) (Z3 ?_);refine Z2 (rY (show A.in1.handled=none from t) u λc vs ss f j y g1 z h=>?_);have B:vs.length<64:=by rw[bx f,j.length_eq];exact g
 refine Z2 (wpAny_newList ?_ (by rw[sizeLine_eq];lia));have i:(c.heap.push (seqObj "list" vs.toArray 0)).get? ⇑c=some (seqObj "list" vs.toArray 0):=Zi _ rfl;refine Z2 (wpAny_holding (wpAny_call_entry slot_list_sort %[_,i|rfl] entry_list_sort (list_sort_treeK (s:=(c>>>c.heap.push (seqObj "list" vs.toArray 0))) strKind_oneLt i f.keysOf (λp q rest e=>keyKind_strs (by rw[<-e];exact f)) B λa C G=>%[_,rfl|?_]) (args_list_sort _)));obtain⟨ts,H,I,J⟩:=sorted_out_str f C G;obtain⟨n,L⟩:∃n,(sortedHeap (c.heap.push (seqObj "list" vs.toArray 0)) ⇑c vs ((arrOf a).map (·.2))).get? ⇑c=some (seqObj "list" ((arrOf a).map (·.2)) n):=sortedHeap_at i;refine Z3 %[_,rfl|v _ ⇑c ((arrOf a).map (·.2)).toList ts n H (I.trans j) J (λb M e=>?_) g1 z h ?_]
 rotate_left
 .show _=some (seqObj "list" ((arrOf a).map (·.2)).toList.toArray n);rw[Array.toArray_toList];exact L
 have r:=y b M e;have d:=Zt r;show(sortedHeap _ _ _ _).get? b=_;rw[sortedHeap_old (Zr d) (by rw[Zp];exact Yg d)];exact Z6 _ r
end
section
variable{X:Cx}{K:ZA}
theorem qw(d:X.calm=true):bX X (.builtin "sorted") (λxs H Q=>∃a ks,xs=[.ref a]/\H a=some (jR X.w a ks)/\ks.length<64/\∀l ss,H l=none->ss.Perm ks->sortedS ss=true->Q (.ref l) (upd H l (.lst (ss.map V.str)))):=by
 intro pins s t H xs us Q I r h;obtain⟨a,ks,rfl,e,f,q⟩:=h;obtain⟨u,rfl,i⟩:=cI r;cases i;obtain⟨S,_,_⟩:=(I.hok a _ e)
 refine uA (I.ok.hd d) S f λs' l vs ss n j c m k g o b p=>%[.ref l,_,I.stoodS (o:= .lst _) (I.keptS k g o) b %[?_,vs,n,pd j|p],rfl|q l ss (I.hok.fresh b) c m]
 rw[Z5,c.length_eq,sizeLine_eq]
 lia
theorem pE(h:X.w=w)(b:X.calm=true):cw X (.builtin "sorted") (λxs H Q=>∃a ks,xs=[.ref a]/\H a=some (jR w a ks)/\ks.length<64/\∀l ss,H l=none->ss.Perm ks->sortedS ss=true->Q (.ref l) (upd H l (.lst (ss.map V.str)))):=by subst h;exact⟨qw b⟩
end
theorem ao{D:kj}(h:∀c:kj,(∀a b,u D a b->c.nx a b)->(∀v b,D.rt v b->c.rt v b)->t c d H):aY t u D d H:=h _ (λ_ _ x=>x) λ_ _ x=>x
theorem aB{t:TS}{D:kj}(h:∀c:kj,(∀a b,D.nx a b->c.nx a b)->(∀v b,D.rt v b->c.rt v b)->t c d H):t D d H:=h _ (λ_ _ x=>x) λ_ _ x=>x
theorem jT{K:ZA}{xs:List V}{g:TG}{j:TS}{D:kj}(Pv:Nat->St->Hp->Prop)(n:Pv 0 b H)(o:∀i b H,i<=xs.length->Pv i b H->SqL K H a xs)
 (r:∀i x T b H,xs[i]? =some x->Pv i b H->H T=none->g (.ref T) b (upd H T (.tup [.int i,x])) λc h=>j {D with nx:=Pv (i+1),ct:=Pv (i+1),bk:=D.nx} c h) (s:∀b H,Pv xs.length b H->D.nx b H):
 ∃W:Nat->Nat->St->Hp->Prop,(∃m,W 0 m b H)/\∀i m b H,W i m b H->
  ((Ite K a xs).stop i H/\D.nx b H)\/((Ite K a xs).go i H/\∃N:St->Hp->Prop,(∀d f,N d f->∃l,l<m/\W (i+1) l d f)/\∀x f,(Ite K a xs).yld i H x f->g x b f λc h=>j {D with nx:=N,ct:=N,bk:=D.nx} c h):=by
 refine%[λi m b H=>m=xs.length-i/\i<=xs.length/\Pv i b H,%[xs.length,by simp,X1 _|n]|?_];rintro i m b H ⟨rfl,hi,p⟩;have q:=o i b H hi p;by_cases lt:i<xs.length
 .refine .inr %[%[q|lt],Pv _,λd f t=>%[xs.length-(i+1),⋯,rfl,lt|t]|λv f y=>?_];obtain⟨x,T,e,u,rfl,rfl⟩:=y;exact r i x T b _ e p u
 .have e:i=xs.length:=by lia
  subst e;exact .inl %[%[q|Zh _]|s b H p]
section
variable{X:Cx}{K:ZA}{pos:Pos}{a b:Expr}{ta tb:TE}
theorem bR:OpQ X (binaryOp .Add) (rI0 λi j=> .int (i+j)):=⟨yC⟩
theorem fQ:OpQ X (binaryOp .Mult) (rI yB λi j=> .int (i*j)):=⟨yD⟩
theorem di(h:X.K=K)(c:lZ b)(d:QE X a ta)(e:QE X b tb):QE X (.Subscript a b pos) (tOp (DK K) ta tb):=by subst h;exact⟨yV Bg d.h e.h c⟩
theorem ixSE(c:lZ b)(d:QE X a ta)(e:QE X b tb):QE X (.Subscript a b pos) (tOp DM ta tb):=⟨yV DO d.h e.h c⟩
end
end L2
namespace Cut
open PySem L2 PyProof.Rows
noncomputable def gN:Str:="abcdefghijklmnopqrstuvwxyz"
noncomputable def iG(c:Nat):Bool:=decide (c∈gN.cps.toList)
noncomputable def okc(c:Nat):Bool:=decide (c=46)||iG c
noncomputable def nl:Str:="\n"
theorem FK:nl=⟨#[10]⟩:=rfl
theorem kE:iG c=true↔97<=c/\c<=122:=by
 have e:gN.cps.toList=(List.range 26).map (·+97):=by decide +kernel
 unfold iG;rw[decide_eq_true_iff,e,mem_map]
 constructor
 .rintro⟨i,h,rfl⟩;have:=mem_range.mp h
  lia
 .rintro⟨a,b⟩;exact%[c-97,mem_range.mpr ⋯|⋯]
theorem En(h:okc c=true):c≠10:=by
 intro e;subst e
 revert h
 decide +kernel
structure b8 (rows:ZB):Prop where
 pos:1<=rows.length
 high:rows.length<=40
 wide:∃wd,1<=wd/\wd<=40/\∀r∈rows,r.cps.size=wd
 sign:∀r∈rows,r.cps.toList.all okc=true
 fall:∀i r r',rows[i]? =some r->rows[i+1]? =some r'->∀(j c c':Nat),r.cps[j]? =some c->r'.cps[j]? =some c'->c'=46->c=46
 some':∃r∈rows,∃c∈r.cps.toList,c≠46
theorem iU{x y:Str}(h:x.cps.toList=y.cps.toList):x=y:=by
 obtain⟨⟨l⟩⟩:=x
 simp_all
theorem fZ(sep x y:Str)(r:ZB):(Str.join sep (x::y::r)).cps.toList=x.cps.toList++sep.cps.toList++(Str.join sep (y::r)).cps.toList:=by
 show((x.cps++sep.cps) ++(Str.join sep _).cps).toList=_;rw[toList_append,toList_append]
theorem zw [DecidableEq f]:∀{a b x y:List f},c∉a->c∉b->a++c::x=b++c::y->a=b/\x=y
 |[],[],_,_,_,_,h=>%[rfl|(List.cons.inj h).2]
 |[],b::bs,_,_,_,d,h=>absurd (((List.cons.inj h).1)▸Zl) d
 | a::as,[],_,_,e,_,h=>absurd (((List.cons.inj h).1)▸Zl) e
 | a::as,b::bs,x,y,e,d,h=>by
   obtain⟨g,i⟩:=List.cons.inj h;obtain⟨j,l⟩:=zw (λq=>e (Zj _ q)) (λq=>d (Zj _ q)) i;exact%[by rw[g,j]|l]
theorem rZ{c:Nat}:∀{ps qs:ZB},ps≠[]->qs≠[]->(∀p∈ps,c∉p.cps.toList)->(∀q∈qs,c∉q.cps.toList)->(Str.join ⟨#[c]⟩ ps).cps.toList=(Str.join ⟨#[c]⟩ qs).cps.toList->ps=qs
 |[],_,h,_,_,_,_=>absurd rfl h
 | _,[],_,h,_,_,_=>absurd rfl h
 |[p],[q],_,_,_,_,e=>by rw[iU (show p.cps.toList=q.cps.toList from e)]
 |[p],q::f::qs,_,_,a,_,e=>by
  rw[fZ]at e;refine absurd ?_ (a p Zl);rw[show p.cps.toList=(Str.join _ [p]).cps.toList from rfl,e];simp
 | p::g::ps,[q],_,_,_,b,e=>by
   rw[fZ]at e;refine absurd ?_ (b q Zl);rw[show q.cps.toList=(Str.join _ [q]).cps.toList from rfl,<-e];simp
 | p::g::ps,q::f::qs,_,_,a,b,e=>by
   rw[fZ,fZ,Zd,Zd]at e;obtain⟨i,j⟩:=zw (a p Zl) (b q Zl) e;rw[iU i,rZ ∅ ∅ (λx d=>a x (Zj _ d)) (λx d=>b x (Zj _ d)) j]
theorem uB(a:rows≠[])(h:∀r∈rows,10∉r.cps.toList):Txt.split (Str.join nl rows) nl=rows:=by
 have e:=StrLaws.join_split (Str.join nl rows) nl;rw[FK]at e ⊢;refine rZ ?_ a (StrLaws.split_free _ 10) h (by rw[e]);intro q;have:=split_pos (Str.join ⟨#[10]⟩ rows) ⟨#[10]⟩
 simp_all
theorem b8.nonl(h:b8 rows):∀r∈rows,10∉r.cps.toList:=λr a b=>by
 have:=all_eq_true.mp (h.sign r a) 10 b;exact En this rfl
theorem b8.split(h:b8 rows):Txt.split (Str.join nl rows) nl=rows:=
 uB (λe=>by have:=h.pos;simp_all) h.nonl
theorem qx:∀{xs:List b},(∀x∈xs,f x<=B)->(xs.map f).sum<=xs.length*B
 |[],_=>by simp
 | x::r,h=>by
   have c:=qx λy a=>h y (Zj _ a)
   have d:=h x Zl;rw[Yj,List.sum_cons,Zq,Nat.succ_mul]
   lia
theorem b8.sum(h:b8 rows):(rows.map (·.length)).sum<=1600:=by
 obtain⟨wd,_,c,a⟩:=h.wide;have:=qx (f:=λr:Str=>r.length) λr b=>by have:=a r b;show r.cps.size<=40;lia
 have:=h.high
 grind
theorem b8.text(h:b8 rows):(Str.join nl rows).length<=2000:=by
 have a:=StrLaws.join_length_le nl rows;have b:=h.sum;have c:=h.high;have d:nl.length=1:=rfl
 lia
noncomputable def sgn(c:Nat):Str:=⟨#[c]⟩
theorem mQ{a:List Nat}(h:∀c∈a,iG c=true):(aL (a.map sgn)).length<=26:=by
 have b:∀x∈aL _,x∈gN.cps.toList.map sgn:=λx d=>by
  obtain⟨c,f,e⟩:=Xa (br.mp d);exact Xb %[c,Zn (h c f)|e]
 have:=List.Nodup.length_le_of_subset (eT _) b;rw[Z5]at this;have e:gN.cps.toList.length=26:=by decide +kernel
 lia
noncomputable def cR(rows:ZB):List Nat:=(Str.join (Str.ofString "") rows).cps.toList.filter (λc=>decide (c≠46))
theorem r9:∀(rows:ZB),(Str.join (Str.ofString "") rows).cps.toList=(rows.map (·.cps.toList)).flatten
 |[]=>rfl
 |[x]=>by simp[Str.join]
 | x::y::r=>by
   have e:(Str.ofString "").cps.toList=[]:=rfl;rw[fZ,r9 _,e,Zw];simp
theorem kH(h:∀r∈rows,r.cps.toList.all okc=true):∀c∈cR rows,iG c=true:=λc a=>by
 unfold cR at a;rw[List.mem_filter,r9]at a;obtain⟨b,d⟩:=a;obtain⟨l,e,f⟩:=List.mem_flatten.mp b;obtain⟨r,g,rfl⟩:=Xa e;have:=all_eq_true.mp (h r g) c f;unfold okc at this;rw[or_eq_true]at this;rcases this with q|q
 .exact absurd (Zn q) (Zn d)
 .exact q
theorem b8.signs_ne(h:b8 rows):cR rows≠[]:=by
 obtain⟨r,b,c,d,a⟩:=h.some';have:c∈cR rows:=by
  unfold cR;rw[List.mem_filter,r9];exact%[List.mem_flatten.mpr %[_,Xb %[r,b|rfl]|d]|Ze a]
 grind
noncomputable def qy(z:Str):Bool:=(decide (1<=(z.length:Int))&&decide ((z.length:Int)<=40))&&z.cps.toList.all okc
noncomputable def eV(row a:Str):Bool:=decide (row.length=a.length)&&(List.zip a.cps.toList row.cps.toList).all λp=>!decide (p.2=46)||decide (p.1=46)
theorem b8.row(h:b8 rows)(a:r∈rows):qy r=true:=by
 obtain⟨wd,c,d,b⟩:=h.wide;have e:r.length=wd:=b r a;unfold qy;rw[h.sign r a,e,Ze ⋯,Ze ⋯];rfl
theorem b8.beneath(h:b8 rows)(c:rows[i]? =some r)(d:rows[i+1]? =some a):eV a r=true:=by
 obtain⟨wd,m,n,e⟩:=h.wide;have f:r.length=wd:=e r (Z7 c);have g:a.length=wd:=e a (Z7 d);unfold eV;rw[Ze (g.trans f.symm),Bool.true_and,all_eq_true];intro p l;obtain⟨j,b⟩:=X2 l;rw[List.getElem?_zip_eq_some]at b;have:=h.fall i r a c d j p.1 p.2 (by simpa using b.1) (by simpa using b.2)
 grind
theorem uC(a:List Nat):(Str.join (Str.ofString "") (a.map sgn))=⟨a.toArray⟩:=by
 refine iU ?_;rw[r9,Yk];show((a.map (λc=>[c])).flatten)=a
 induction a with
 | nil=>rfl
 | cons c r b=>simp_all
theorem vG:∀a:List Nat,((a.map sgn).map (λx=>x.length)).sum=a.length
 |[]=>rfl
 | c::r=>by
   rw[Yj,Yj,List.sum_cons,vG r,Zq];show 1+r.length=r.length+1
   lia
end Cut
namespace Cut
open PySem L2
end Cut
namespace L2
open PySem PySem.Spec PyProof.Rows
def Up(B:Heap)(l:List Env)(e:Addr)(cls:Value)(b:ZH)(d:Option Value)(h:Heap):Prop:=
 B.StaysIn h/\B.get? e=none/\h.FunFrames B l/\∃a vs,h.get? e=some a/\a.cls=cls/\a.dict=b/\a.data= .fields vs/\1<vs.size/\
  match d with
  | none=>vs[1]? =some .none
  | some f=>∃T c ts,vs[1]? =some (.ref T)/\B.get? T=none/\T≠e/\h.get? T=some c/\c.data= .fields ts/\ts[3]? =some f
section
variable{M:Model}{A:Around}{E:ZD}{s:Shared}{B:Heap}{env:Env}{outer:List Env}{L e:Addr}{cls:Value}{dct:ZH}{Q:Unit->Shared->Prop}
end
section
variable{P:Program}{w:World}{H:Hp}{h:Heap}{a:Addr}{o:HO}
theorem bQ.there(x:bQ P w H h a o):∃b,h.get? a=some b:=by
 cases o with
 | lst xs=>obtain⟨_,_,_,_,e⟩:=x;exact%[_|e]
 | tup xs=>obtain⟨_,_,_,b,e,_⟩:=x;exact%[_|e]
 | dK c=>obtain⟨_,_,_,_,o,_,_,e,_⟩:=x;exact%[_|e]
 | dT c=>obtain⟨_,_,_,_,o,_,_,e,_⟩:=x;exact%[_|e]
 | set S n=>obtain⟨o,_,_,_,e,_⟩:=x;exact%[_|e]
 | ins C d fs=>obtain⟨_,_,_,e,_⟩:=x;exact%[_|e]
 | own y=>obtain⟨_,e⟩:=x;exact%[_|e]
 | xd fs=>obtain⟨_,⟨_,_,_,e,_⟩,_⟩:=x;exact%[_|e]
 | rng lo hi=>obtain⟨_,_,_,e⟩:=x;exact%[_|e]
 | frz b u=>obtain⟨e,_⟩:=x;exact%[_|e]
 | tbl ps=>exact%[_|(x)]
 | met f y=>exact%[_|(x)]
 | ext g=>obtain⟨_,⟨_,e⟩,_⟩:=x;exact%[_|e]
end
section
variable{P:Program}{w:World}{l:List Env}{H H':Hp}{s s':Shared}{ea:Addr}{B h':Heap}{cls:Value}{dx:ZH}{fl fl':Option Value}
end
section
variable{P:Program}{w:World}{K:ZA}{mg:ZC}{base:Heap}{N:ZB}{qual:Str}{scope:Scope}{f:Addr}{cd:Value}{A:Around}{outer:List Env}{s₀:Shared}{H₀:Hp}{E:XK}
end
section
variable{prog:Program}{w:World}{A:Around}{E:ZD}{h:Heap}{g:Array GenState}{d:Drawn}{t:Nat}{os:OsState}
variable{nm q:Str}{C N:Addr}{bs bm bmB:ZF}{hdct:Bool}{sn:ZB}{sub:ZF}{ab:Bool}{col:Option Bool}{dd:ZH}{k0 k1 k2 k3 k5:Option Value}{B newId initId:String}
end
section
#where
variable{K:ZA}{x C:Addr}{name:Str}{v:Value}{ox:Obj}{od:Option Obj}
end
section
variable{X:Cx}{C f:Addr}
end
section
variable{X:Cx}{pins:ZE}{σ:St}{H:Hp}{s s':Shared}
end
section
variable{X:Cx}{C D f:Addr}{x nm:Str}{p pos pos' apos:Pos}{e o value:Expr}{es:List Expr}{t:TA}{ta tv:TE}{r:List V->Hp->VK->Prop}
end
def Eo(b:TE):TE:=λc H Q=>b c H λv a=>(∃i:Int,v= .int i/\i.natAbs<2^64/\Q (.str (toString i)) a)\/∃y:Str,v= .str y/\y.length<=sizeLine/\Q (.str y) a
def mR:List TE->Str->TE
 |[],a=>λb H Q=>a.length<=sizeLine/\Q (.str a) H
 | t::ts,a=>λb H Q=>t b H λv c=>∃y:Str,v= .str y/\(a++y).length<=sizeLine/\mR ts (a++y) b c Q
inductive PJ (X:Cx):List Expr->List TE->Prop
 | nil:PJ X [] []
 | cons {e:Expr} {es:List Expr} {t:TE} {ts:List TE}:PE X e t->PJ X es ts->PJ X (e::es) (t::ts)
section
variable{X:Cx}{e v1 v2:Expr}{rest:List Expr}{te t1 t2:TE}{ts:List TE}{pos:Pos}
theorem Ep(c:PE X e te):PE X (.FormattedValue e (-1) none pos) (Eo te):=by
 intro pins s d H Q I h;refine FormattedValue_plain (thP (c pins s d H _ I h) λu j v a b r q=>?_);rcases q with⟨i,rfl,hi,q⟩|⟨y,rfl,f,q⟩
 .obtain⟨t,rfl⟩:=(show∃t,u=Value.int i t from r)
  have g:i.natAbs.log2<1920:=by
   by_cases z:i.natAbs=0
   .rw[z];decide
   .exact(Nat.log2_lt z).mpr (Zf hi (Nat.pow_le_pow_right (by decide) ∅))
  exact formatField_int_small g %[V.str (toString i),a,b.tok _,%[_|rfl]|q]
 .obtain⟨t,rfl⟩:=(r)
  exact formatField_str (λt' tk=>%[.str y,a,b.tok _,%[_|rfl]|q]) f
theorem zx(h:PJ X es ts):∀(a:Str) (pins:ZE) (s:Shared) (b:St) (H:Hp) (Q:VK),Inv X pins b H s->mR ts a b H Q->
 (~~~X) (joinParts a (evalEach es X.env)) (EP X pins b Q) X.xe s:=by
 induction h with
 | nil=>exact λa pins s b H Q I ⟨c,q⟩=>joinParts_nil %[.str a,H,I.tok _,%[_|rfl]|q] c
 | cons d _ f=>
   intro a pins s b H Q I q;refine joinParts_cons (thP (d pins s b H _ I q) λu g v i j r ⟨y,l,c,m⟩=>?_);subst l;obtain⟨t,rfl⟩:=(r)
   exact%[c|f _ pins g b i Q j m]
theorem BG(h:PJ X (v1::v2::rest) ts):PE X (.JoinedStr (v1::v2::rest) pos) (mR ts Str.empty):=λpins s a H Q I q=>
 JoinedStr_many (zx h _ pins s a H Q I q)
end
section
variable{X:Cx}{k:Nat}{f C:Addr}{fd:FuncData}{ps:ZB}{sp:Sp}{x:Str}{p pos cpos:Pos}{e:Expr}{es:List Expr}{te:TE}{t:TA}
end
noncomputable def drop(H:Hp)(a:Addr):Hp:=λb=>if b=a then none else H b
theorem wN:drop H a a=none:=by unfold drop;rw[if_pos rfl]
theorem iV(h:b≠a):drop H a b=H b:=by unfold drop;rw[if_neg h]
section
variable{X:Cx}{pins:ZE}{σ:St}{H:Hp}{s s':Shared}
end
section
variable{M:Model}{A:Around}{E:ZD}{s:Shared}{K:ZA}{D C e:Addr}{oe:Obj}{b:Bool}{Q:Bool->Shared->Prop}
end
section
variable{X:Cx}{pins pins' pn:ZE}{σ:St}{H:Hp}{s:Shared}{E:ZD}
end
section
#where
variable{K:ZA}{x C:Addr}{name:Str}{v:Value}{ox:Obj}{od:Option Obj}
end
section
#where
variable{K:ZA}{x C:Addr}{ox:Obj}{od:Option Obj}
end
section
#version
end
noncomputable def cr(mg:ZC)(x:Str):Addr:=match mg x with
 | some (.ref C)=>C
 | _=>0
theorem BH(h:mg x=some (.ref C)):cr mg x=C:=by unfold cr;rw[h]
section
variable{P:Program}{w:World}{K:ZA}{mg:ZC}{base:Heap}{x qual:Str}{st:Stmt}{N ps:ZB}{k:Nat}{sp:Sp}
end
section
variable{X:Cx}{K:ZA}{pos:Pos}
theorem Er(a:QE X e b):QE X (.FormattedValue e (-1) none pos) (Eo b):=⟨Ep a.h⟩
theorem CV:PJ X [] []:= .nil
theorem pjE(a:QE X e t)(h:PJ X es ts):PJ X (e::es) (t::ts):= .cons a.h h
theorem CW{rest:List Expr}(h:PJ X (v1::a::rest) ts):QE X (.JoinedStr (v1::a::rest) pos) (mR ts Str.empty):=⟨BG h⟩
end
section
#where
end
section
#where
end
section
#where
end
section
#where
end
def clo(c:TE):TE:=λd H Q=>∃a:VK,c d H a/\∀v b,a v b->Q v b
theorem Es{X:Cx}(h:PE X e b):PE X e (clo b):=λpins s c H Q I ⟨d,q,k⟩=>
 thP (h pins s c H d I q) λ_ _ v a f r z=>%[v,a,f,r|k v a z]
theorem Et{X:Cx}(h:PE X e t)(k:∀a H Q,t' a H Q->t a H Q):PE X e t':=λpins s a H Q I q=>h pins s a H Q I (k a H Q q)
theorem zy(h:H r=none):drop (upd H r o) r=H:=by
 funext b;unfold drop upd
 simp_all
section
variable{X:Cx}{K:ZA}{pos:Pos}
end
end L2
namespace SBig
open PySem PyProof.Rows
section
variable(prog:Program)(w:World)(A:Around)(SI:Shared->Prop)
def SC{a:Type}(m:StateT SortSt Sem a)(Q:a->SortSt->Prop)(st:SortSt):Prop:=
 ∀s,SI s->↥A (m.run st) (λr s'=>SI s'/\Q r.1 r.2) (λ_ _=>False) s
def Cmp(a:SortKind)(D:Keyed->Prop)(N:Keyed->Nat):Prop:=
 ∀x y s,D x->D y->SI s->↥A (keyLt' a x.1 y.1) (λb s'=>b=decide (N x<N y)/\SI s') (λ_ _=>False) s
end
section
variable{prog:Program}{w:World}{A:Around}{SI:Shared->Prop}{α β:Type}
theorem aE{st:SortSt}(h:Q a st):(SC prog w A SI) (pure a) Q st:=λs b=>by
 exact Z3 %[b|h]
theorem ax{st:SortSt}(h:(SC prog w A SI) m (λa b=>(SC prog w A SI) (f a) Q b) st):(SC prog w A SI) (m>>= f) Q st:=λs c=>by
 exact Z2 (wpAny_mono (h s c) (λr s' h'=>h'.2 s' h'.1) λ_ _ e=>e)
theorem cS{st:SortSt}(h:(SC prog w A SI) m Q st)(c:∀a b,Q a b->d a b):(SC prog w A SI) m d st:=λs f=>
 wpAny_mono (h s f) (λr s' h'=>%[h'.1|c _ _ h'.2]) λ_ _ e=>e
theorem kI{st:SortSt}(h:Q st st):(SC prog w A SI) get Q st:=λs a=>by
 exact Z3 %[a|h]
theorem iW{st:SortSt}(h:Q ⟨⟩ (f st)):(SC prog w A SI) (modify f) Q st:=λs a=>by
 exact Z3 %[a|h]
theorem vH{st:SortSt}(h:∀s,SI s->↥A m (λa s'=>SI s'/\Q a st) (λ_ _=>False) s):(SC prog w A SI) (liftM m:StateT SortSt Sem α) Q st:=λs b=>by
 exact Z2 (wpAny_mono (h s b) (λa s' h'=>Z3 h') λ_ _ e=>e)
theorem qz{st:SortSt}(h:Q () st):(SC prog w A SI) (liftM (rule t):StateT SortSt Sem Unit) Q st:=vH λs a=>wpAny_rule %[a|h]
theorem cz{st:SortSt}(I:Nat->β->SortSt->Prop)(j:a<=b)(l:I a c st)
 (m:∀i x st,a<=i->i<b->I i x st->(SC prog w A SI) (f i x) (λr g=>match r with| .done y=>Q y g| .yield y=>I (i+1) y g) st) (n:∀x st,I b x st->Q x st):(SC prog w A SI) (forIn [a:b] c f) Q st:=by
 rw[Std.Legacy.Range.forIn_eq_forIn_range'];have o:([a:b]).size=b-a:=by simp[Std.Legacy.Range.size]
 have p:∀d i x st,i+d=b->a<=i->I i x st->(SC prog w A SI) (forIn (List.range' i d 1) x f) Q st:=by
  intro d
  induction d with
  | zero=>
    intro i x st e _ h;subst e;exact aE (n x st h)
  | succ d q=>
    intro i x st e s h;rw[List.range'_succ,forIn_cons];refine ax (cS (m i x st s ⋯ h) λr g h'=>?_);cases r with
    | done y=>exact aE h'
    | yield y=>exact q _ y g ⋯ ⋯ h'
 exact p _ a c st ⋯ (Zh _) l
theorem vI{st:SortSt}(a:xs[i]? =some x)(h:Q x st):(SC prog w A SI) (elem' xs i) Q st:=by
 rw[elem'_eq,a];exact aE h
theorem FL{st:SortSt}(c:Cmp prog w A SI (kindOf st) D N)(d:D x)(f:D y)(h:Q (some (decide (N x<N y))) st):(SC prog w A SI) (lt' x y) Q st:=by
 refine ax (kI (ax (vH (λs g=>wpAny_attempt (wpAny_mono (c x y s d f g) (λb s' ⟨i,a⟩=>?_) λ_ _ e=>e.elim)))));subst i;exact%[a|aE h]
theorem BI{st:SortSt}(c:Cmp prog w A SI (kindOf st) D N)(hi:(arrOf st)[i]? =some x)(a:(arrOf st)[j]? =some y)(b:D x)(d:D y)
 (h:Q (some (decide (N x<N y))) st):(SC prog w A SI) (ltAt' i j) Q st:=by
 exact ax (kI (ax (vI hi (ax (vI a (FL c b d h))))))
end
end SBig
namespace SBig
open PySem PyProof.Rows
section
variable{prog:Program}{w:World}{A:Around}{SI:Shared->Prop}{α β:Type}
noncomputable def ahead(N:Keyed->Nat)(left:Bool)(a x:Keyed):Bool:=if left then decide (N x<N a)else !decide (N a<N x)
end
end SBig
namespace SBig
open PySem PyProof.Rows
def Srt(N:Keyed->Nat)(l:List Keyed):Prop:=l.Pairwise λx y=>N x<=N y
end SBig
namespace SBig
open PySem PyProof.Rows
section
variable{prog:Program}{w:World}{A:Around}{SI:Shared->Prop}{α β:Type}
theorem vJ{a:Array Keyed}{i:Nat}(h:i<a.size):a[i]? =some a[i]/\a.toList[i]? =some a[i]:=%[by simp|by simp]
end
end SBig
namespace SBig
open PySem PyProof.Rows
section
variable{prog:Program}{w:World}{A:Around}{SI:Shared->Prop}{α β:Type}
end
end SBig
namespace SBig
open PySem PyProof.Rows
section
variable{prog:Program}{w:World}{A:Around}{SI:Shared->Prop}{α β:Type}
end
end SBig
namespace SBig
open PySem PyProof.Rows
noncomputable def ky(N:Keyed->Nat)(a:Array Keyed)(i:Nat):Nat:=N (a.getD i (Value.none,Value.none))
theorem zA(h:a[i]? =some x):ky N a i=N x:=by
 unfold ky
 simp_all
theorem sd(h:a[i]? =b[j]?):ky N a i=ky N b j:=by
 unfold ky
 simp_all
structure CR (st0 st:SortSt) (lo:Nat):Prop where
 kind:kindOf st=kindOf st0
 pend:pendingOf st=pendingOf st0
 fail:failedOf st=failedOf st0
 perm:(arrOf st).Perm (arrOf st0)
 same:∀i,i<lo->(arrOf st)[i]? =(arrOf st0)[i]?
theorem CR.refl(st:SortSt)(lo:Nat):CR st st lo:=%[rfl,rfl,rfl,Array.Perm.refl _|λ_ _=>rfl]
theorem CR.size{a st:SortSt}{lo:Nat}(h:CR a st lo):(arrOf st).size=(arrOf a).size:=h.perm.size_eq
theorem CR.rev{a st:SortSt}{lo i j:Nat}(h:CR a st lo)(hi:lo<=i)(b:j<=(arrOf st).size):CR a (setArr st (mirror (arrOf st) i j ((j-i)/2))) lo:=
 %[h.kind,h.pend,h.fail,(mirror_perm _ _ _ _).trans h.perm|λk c=>by
  rw[getElem?_mirror_all b,if_neg ⋯];exact h.same k c]
theorem uD(b:j<=a.size)(k:Nat):ky N (mirror a i j ((j-i)/2)) k=if i<=k/\k<j then ky N a (i+j-1-k)else ky N a k:=by
 split
 .rename_i h
  exact sd (by rw[getElem?_mirror_all b,if_pos h])
 .rename_i h
  exact sd (by rw[getElem?_mirror_all b,if_neg h])
def Up(N:Keyed->Nat)(a:Array Keyed)(lo n:Nat):Prop:=∀i j,i<=j->j<n->ky N a (lo+i)<=ky N a (lo+j)
def Dn(N:Keyed->Nat)(a:Array Keyed)(lo n:Nat):Prop:=∀i j,i<=j->j<n->ky N a (lo+j)<=ky N a (lo+i)
theorem Up.one(N:Keyed->Nat)(a:Array Keyed)(lo:Nat):Up N a lo 1:=λi j b c=>by
 simp_all
theorem Up.step{lo n:Nat}(h:Up N a lo n)(d:1<=n)(f: ¬ ky N a (lo+n)<ky N a (lo+n-1)):Up N a lo (n+1):=λi j b g=>by
 by_cases e:j=n
 .subst e;by_cases c:i=j
  .exact c▸Zh _
  .have:=h i (j-1) ⋯ ⋯;rw[show lo+(j-1)=lo+j-1 by lia]at this
   lia
 .exact h i j b ⋯
theorem Dn.step{lo n:Nat}(h:Dn N a lo n)(d:1<=n)(f:ky N a (lo+n)<=ky N a (lo+n-1)):Dn N a lo (n+1):=λi j b g=>by
 by_cases e:j=n
 .subst e;by_cases c:i=j
  .exact c▸Zh _
  .have:=h i (j-1) ⋯ ⋯;rw[show lo+(j-1)=lo+j-1 by lia]at this
   lia
 .exact h i j b ⋯
theorem Dn.rev{lo n:Nat}(h:Dn N a lo n)(b:lo+n<=a.size):Up N (mirror a lo (lo+n) ((lo+n-lo)/2)) lo n:=λi j c d=>by
 rw[uD b,uD b,if_pos ⋯,if_pos ⋯];have:=h (n-1-j) (n-1-i) ⋯ ⋯
 grind
theorem Dn.same{lo n i j:Nat}(h:Dn N a lo n)(d:j<=a.size)(g:∀k b,i<=k->k<j->i<=b->b<j->ky N a k=ky N a b):Dn N (mirror a i j ((j-i)/2)) lo n:=by
 have e:∀k,ky N (mirror a i j _) k=ky N a k:=λk=>by
  rw[uD d]
  grind
 intro p q c f;rw[e,e];exact h p q c f
section
variable{prog:Program}{w:World}{A:Around}{SI:Shared->Prop}{α β:Type}
theorem eW{i j lo:Nat}{a st:SortSt}(c:Cmp prog w A SI (kindOf a) D N)(d:∀x∈(arrOf a).toList,D x)(r:CR a st lo)(hi:i<(arrOf a).size)(m:j<(arrOf a).size)
 (h:Q (some (decide (ky N (arrOf st) i<ky N (arrOf st) j))) st):(SC prog w A SI) (ltAt' i j) Q st:=by
 have f:=λx n=>d x ((Array.perm_iff_toList_perm.mp r.perm).mem_iff.mp n)
 have b:i<(arrOf st).size:=r.size▸hi;have e:j<(arrOf st).size:=r.size▸m;obtain⟨g,o⟩:=vJ b;obtain⟨l,p⟩:=vJ e;refine BI (r.kind▸c) g l (f _ ∅) (f _ ∅) ?_;rw[zA g,zA l]at h;exact h
theorem gO{st:SortSt}(h:Q () (setArr st (mirror (arrOf st) i j ((j-i)/2)))):(SC prog w A SI) (reverseSlice' i j) Q st:=by
 exact iW h
theorem sf{lo nrem:Nat}{st:SortSt}(c:Cmp prog w A SI (kindOf st) D N)(d:∀x∈(arrOf st).toList,D x)(T:1<=nrem)(U:lo+nrem<=(arrOf st).size)
 (h:∀n a,CR st a lo->1<=n->n<=nrem->Up N (arrOf a) lo n->Q (some n) a):(SC prog w A SI) (countRun' lo nrem) Q st:=by
 rw[countRun'_eq];refine ax (cS (cz (Q:=λx a=>a=st/\∃n,x=(none,n)/\1<=n/\n<=nrem/\Up N (arrOf st) lo n/\(n=nrem\/ky N (arrOf st) (lo+n)<ky N (arrOf st) (lo+n-1)))
  (λj x a=>a=st/\x=(none,j)/\Up N (arrOf st) lo j) T %[rfl,rfl|Up.one _ _ _] ?_ ?_) ?_)
 .rintro j x a v H ⟨rfl,rfl,up⟩;dsimp only;refine ax (eW c d (CR.refl _ lo) ⋯ ⋯ ?_);dsimp only;by_cases q:ky N (arrOf a) (lo+j)<ky N (arrOf a) (lo+j-1)
  .rw[Ze q,if_pos rfl];exact aE %[rfl,j,rfl,v,⋯,up|.inr q]
  .rw[Zg q,if_neg ∅];exact aE %[rfl,rfl|up.step v q]
 .rintro x a ⟨rfl,rfl,up⟩;exact%[rfl,nrem,rfl,T,Zh _,up|.inl rfl]
 .rintro x f ⟨e1,n,rfl,n1,n2,up,hq⟩;subst e1;dsimp only;by_cases q1:n=nrem
  .rw[if_pos (by simp[q1])];exact aE (h n f (CR.refl _ _) n1 n2 up)
  rw[if_neg (by simp[q1])];have hq:ky N (arrOf f) (lo+n)<ky N (arrOf f) (lo+n-1):=hq.resolve_left q1;have n3:n<nrem:=by lia
  by_cases q2:n>1
  .rw[if_pos q2];refine ax (eW c d (CR.refl _ lo) ⋯ ⋯ ?_);dsimp only;by_cases q3:ky N (arrOf f) lo<ky N (arrOf f) (lo+n-1)
   .rw[Ze q3,if_pos rfl];exact aE (h n f (CR.refl _ _) n1 n2 up)
   .rw[Zg q3,if_neg ∅];refine ax (gO ?_);have r2:=(CR.refl f lo).rev (i:=lo) (j:=lo+n) (Zh _) ⋯;have all:∀i,i<n->ky N (arrOf f) (lo+i)=ky N (arrOf f) lo:=λi hi=>by
     have B:=up 0 i (X1 _) hi;have C:=up i (n-1) ⋯ ⋯;rw[show lo+(n-1)=lo+n-1 by lia]at C;rw[add_zero]at B
     lia
    have ab:Dn N (arrOf f) lo n:=λi j ae H=>by rw[all i ⋯,all j H];exact Zh _
    have ag:Dn N (arrOf f) lo (n+1):=ab.step n1 ⋯;have J:=ag.same (i:=lo) (j:=lo+n) ⋯ (λk p B C I G=>by
     have b1:=all (k-lo) ⋯;have b2:=all (p-lo) ⋯;rw[show lo+(k-lo)=k by lia]at b1;rw[show lo+(p-lo)=p by lia]at b2;rw[b1,b2])
    refine ax (qz ?_);refine ax (cS (cz (Q:=λx a=>CR f a lo/\∃m q,x=(none,m,q)/\q+1<=m/\m<=nrem/\Dn N (arrOf a) lo m/\(∀k p,lo+m-(q+1)<=k->k<lo+m->lo+m-(q+1)<=p->p<lo+m->ky N (arrOf a) k=ky N (arrOf a) p))
     (λj x a=>CR f a lo/\∃q,x=(none,j,q)/\q+1<=j/\Dn N (arrOf a) lo j/\(∀k p,lo+j-(q+1)<=k->k<lo+j->lo+j-(q+1)<=p->p<lo+j->ky N (arrOf a) k=ky N (arrOf a) p)) ⋯ %[r2,0,rfl,⋯,J|λk p B C I G=>by rw[show k=p by lia]] ?_ ?_) ?_)
    .rintro j x g v H ⟨r,q,rfl,y,o,s⟩;dsimp only;refine ax (eW c d r ⋯ ⋯ ?_);dsimp only;by_cases U:ky N (arrOf g) (lo+j)<ky N (arrOf g) (lo+j-1)
     .rw[Ze U,if_pos rfl];by_cases u:q>0
      .rw[if_pos u];refine ax (gO (aE %[r.rev ⋯ (by rw[r.size];lia),0,rfl,⋯,?_|λk p B C I G=>by rw[show k=p by lia]]));have E:Dn N (arrOf g) lo (j+1):=o.step ⋯ ⋯;exact E.same (by rw[r.size];lia) s
      .rw[if_neg u];exact aE %[r,0,rfl,⋯,o.step ⋯ ⋯|λk p B C I G=>by rw[show k=p by lia]]
     .rw[Zg U,if_neg ∅];refine ax (eW c d r ⋯ ⋯ ?_);dsimp only;by_cases Y:ky N (arrOf g) (lo+j-1)<ky N (arrOf g) (lo+j)
      .rw[Ze Y,if_pos rfl];exact aE %[r,j,q,rfl,y,⋯,o|s]
      .rw[Zg Y,if_neg ∅];have ee:ky N (arrOf g) (lo+j)=ky N (arrOf g) (lo+j-1):=by lia
       have all:∀k,lo+j-(q+1)<=k->k<lo+(j+1)->ky N (arrOf g) k=ky N (arrOf g) (lo+j-1):=λk B C=>by
        by_cases e:k=lo+j
        .rw[e];exact ee
        .exact s _ _ B ⋯ ⋯ ⋯
       exact aE %[r,q+1,rfl,⋯,o.step ⋯ ⋯|λk p B C I G=>(all k ⋯ C).trans (all p ⋯ G).symm]
    .rintro x g ⟨r,q,rfl,y,o,s⟩;exact%[r,nrem,q,rfl,y,Zh _,o|s]
    .rintro x g ⟨r,m,q,rfl,ai,hm,o,s⟩;dsimp only;by_cases u:q>0
     .rw[if_pos u];refine ax (gO ?_);have L:=r.rev (i:=lo+m-(q+1)) (j:=lo+m) ⋯ (by rw[r.size];lia);have E:=o.same (i:=lo+m-(q+1)) (j:=lo+m) (by rw[r.size];lia) s;refine ax (gO ?_);have M:=(L).rev (i:=lo) (j:=lo+m) (Zh _) (by rw[(L).size];lia);have z:=(E).rev (by rw[(L).size];lia);refine ax (cS (cz (Q:=λx a=>CR f a lo/\∃n,x=(none,n)/\1<=n/\n<=nrem/\Up N (arrOf a) lo n)
       (λj x a=>CR f a lo/\x=(none,j)/\Up N (arrOf a) lo j) ⋯ %[M,rfl|z] ?_ ?_) ?_)
      .rintro j x l v H ⟨t,rfl,b⟩;dsimp only;refine ax (eW c d t ⋯ ⋯ ?_);dsimp only;by_cases q:ky N (arrOf l) (lo+j)<ky N (arrOf l) (lo+j-1)
       .rw[Ze q,if_pos rfl];exact aE %[t,j,rfl,⋯,⋯|b]
       .rw[Zg q,if_neg ∅];exact aE %[t,rfl|b.step ⋯ q]
      .rintro x l ⟨t,rfl,b⟩;exact%[t,nrem,rfl,T,Zh _|b]
      .rintro x l ⟨t,m,rfl,O,m2,b⟩;exact aE (h m l t O m2 b)
     .rw[if_neg u];refine ax (gO ?_);have M:=(r).rev (i:=lo) (j:=lo+m) (Zh _) (by rw[(r).size];lia);have z:=(o).rev (by rw[(r).size];lia);refine ax (cS (cz (Q:=λx a=>CR f a lo/\∃n,x=(none,n)/\1<=n/\n<=nrem/\Up N (arrOf a) lo n)
       (λj x a=>CR f a lo/\x=(none,j)/\Up N (arrOf a) lo j) ⋯ %[M,rfl|z] ?_ ?_) ?_)
      .rintro j x l v H ⟨t,rfl,b⟩;dsimp only;refine ax (eW c d t ⋯ ⋯ ?_);dsimp only;by_cases q:ky N (arrOf l) (lo+j)<ky N (arrOf l) (lo+j-1)
       .rw[Ze q,if_pos rfl];exact aE %[t,j,rfl,⋯,⋯|b]
       .rw[Zg q,if_neg ∅];exact aE %[t,rfl|b.step ⋯ q]
      .rintro x l ⟨t,rfl,b⟩;exact%[t,nrem,rfl,T,Zh _|b]
      .rintro x l ⟨t,m,rfl,O,m2,b⟩;exact aE (h m l t O m2 b)
  .rw[if_neg q2];have e1:n=1:=by lia
   have r2:=CR.refl f lo;have J:Dn N (arrOf f) lo (n+1):=by
    refine Dn.step (λi j ae H=>?_) n1 ⋯;rw[show i=j by lia];exact Zh _
   refine ax (qz ?_);refine ax (cS (cz (Q:=λx a=>CR f a lo/\∃m q,x=(none,m,q)/\q+1<=m/\m<=nrem/\Dn N (arrOf a) lo m/\(∀k p,lo+m-(q+1)<=k->k<lo+m->lo+m-(q+1)<=p->p<lo+m->ky N (arrOf a) k=ky N (arrOf a) p))
    (λj x a=>CR f a lo/\∃q,x=(none,j,q)/\q+1<=j/\Dn N (arrOf a) lo j/\(∀k p,lo+j-(q+1)<=k->k<lo+j->lo+j-(q+1)<=p->p<lo+j->ky N (arrOf a) k=ky N (arrOf a) p)) ⋯ %[r2,0,rfl,⋯,J|λk p B C I G=>by rw[show k=p by lia]] ?_ ?_) ?_)
   .rintro j x g v H ⟨r,q,rfl,y,o,s⟩;dsimp only;refine ax (eW c d r ⋯ ⋯ ?_);dsimp only;by_cases U:ky N (arrOf g) (lo+j)<ky N (arrOf g) (lo+j-1)
    .rw[Ze U,if_pos rfl];by_cases u:q>0
     .rw[if_pos u];refine ax (gO (aE %[r.rev ⋯ (by rw[r.size];lia),0,rfl,⋯,?_|λk p B C I G=>by rw[show k=p by lia]]));have E:Dn N (arrOf g) lo (j+1):=o.step ⋯ ⋯;exact E.same (by rw[r.size];lia) s
     .rw[if_neg u];exact aE %[r,0,rfl,⋯,o.step ⋯ ⋯|λk p B C I G=>by rw[show k=p by lia]]
    .rw[Zg U,if_neg ∅];refine ax (eW c d r ⋯ ⋯ ?_);dsimp only;by_cases Y:ky N (arrOf g) (lo+j-1)<ky N (arrOf g) (lo+j)
     .rw[Ze Y,if_pos rfl];exact aE %[r,j,q,rfl,y,⋯,o|s]
     .rw[Zg Y,if_neg ∅];have ee:ky N (arrOf g) (lo+j)=ky N (arrOf g) (lo+j-1):=by lia
      have all:∀k,lo+j-(q+1)<=k->k<lo+(j+1)->ky N (arrOf g) k=ky N (arrOf g) (lo+j-1):=λk B C=>by
       by_cases e:k=lo+j
       .exact e▸ee
       .exact s _ _ B ⋯ ⋯ ⋯
      exact aE %[r,q+1,rfl,⋯,o.step ⋯ ⋯|λk p B C I G=>(all k ⋯ C).trans (all p ⋯ G).symm]
   .rintro x g ⟨r,q,rfl,y,o,s⟩;exact%[r,nrem,q,rfl,y,Zh _,o|s]
   .rintro x g ⟨r,m,q,rfl,ai,hm,o,s⟩;dsimp only;by_cases u:q>0
    .rw[if_pos u];refine ax (gO ?_);have L:=r.rev (i:=lo+m-(q+1)) (j:=lo+m) ⋯ (by rw[r.size];lia);refine ax (gO ?_);have M:=(L).rev (i:=lo) (j:=lo+m) (Zh _) (by rw[(L).size];lia);have z:=((o.same (i:=lo+m-(q+1)) (j:=lo+m) (by rw[r.size];lia) s)).rev (by rw[(L).size];lia);refine ax (cS (cz (Q:=λx a=>CR f a lo/\∃n,x=(none,n)/\1<=n/\n<=nrem/\Up N (arrOf a) lo n)
      (λj x a=>CR f a lo/\x=(none,j)/\Up N (arrOf a) lo j) ⋯ %[M,rfl|z] ?_ ?_) ?_)
     .rintro j x l v H ⟨t,rfl,b⟩;dsimp only;refine ax (eW c d t ⋯ ⋯ ?_);dsimp only;by_cases q:ky N (arrOf l) (lo+j)<ky N (arrOf l) (lo+j-1)
      .rw[Ze q,if_pos rfl];exact aE %[t,j,rfl,⋯,⋯|b]
      .rw[Zg q,if_neg ∅];exact aE %[t,rfl|b.step ⋯ q]
     .rintro x l ⟨t,rfl,b⟩;exact%[t,nrem,rfl,T,Zh _|b]
     .rintro x l ⟨t,m,rfl,O,m2,b⟩;exact aE (h m l t O m2 b)
    .rw[if_neg u];refine ax (gO ?_);have M:=(r).rev (i:=lo) (j:=lo+m) (Zh _) (by rw[(r).size];lia);have z:=(o).rev (by rw[(r).size];lia);refine ax (cS (cz (Q:=λx a=>CR f a lo/\∃n,x=(none,n)/\1<=n/\n<=nrem/\Up N (arrOf a) lo n)
      (λj x a=>CR f a lo/\x=(none,j)/\Up N (arrOf a) lo j) ⋯ %[M,rfl|z] ?_ ?_) ?_)
     .rintro j x l v H ⟨t,rfl,b⟩;dsimp only;refine ax (eW c d t ⋯ ⋯ ?_);dsimp only;by_cases q:ky N (arrOf l) (lo+j)<ky N (arrOf l) (lo+j-1)
      .rw[Ze q,if_pos rfl];exact aE %[t,j,rfl,⋯,⋯|b]
      .rw[Zg q,if_neg ∅];exact aE %[t,rfl|b.step ⋯ q]
     .rintro x l ⟨t,rfl,b⟩;exact%[t,nrem,rfl,T,Zh _|b]
     .rintro x l ⟨t,m,rfl,O,m2,b⟩;exact aE (h m l t O m2 b)
end
end SBig
namespace SBig
open PySem PyProof.Rows
section
variable{prog:Program}{w:World}{A:Around}{SI:Shared->Prop}{α β:Type}
theorem CR.move{a st:SortSt}{lo k l:Nat}(h:CR a st lo)(b:lo+k<(arrOf st).size)(c:l<=k):CR a (setArr st (bubble (arrOf st) (lo+k) (lo+k-(lo+l)))) lo:=
 %[h.kind,h.pend,h.fail,(bubble_perm _ _ _).trans h.perm|λi hi=>by
  rw[getElem?_bubble b _ ⋯,if_neg ⋯,if_neg ⋯];exact h.same i hi]
theorem vK(f:b<a.size)(g:d<=b)(k:Nat):ky N (bubble a b d) k=if k=b-d then ky N a b else if b-d<k/\k<=b then ky N a (k-1)else ky N a k:=by
 by_cases c:k=b-d
 .rw[if_pos c];exact sd (by rw[getElem?_bubble f d g,if_pos c])
 .rw[if_neg c];by_cases e:b-d<k/\k<=b
  .rw[if_pos e];exact sd (by rw[getElem?_bubble f d g,if_neg c,if_pos e])
  .rw[if_neg e];exact sd (by rw[getElem?_bubble f d g,if_neg c,if_neg e])
theorem wO{lo n ok:Nat}{f st:SortSt}(c:Cmp prog w A SI (kindOf f) D N)(d:∀x∈(arrOf f).toList,D x)(r:CR f st lo)(M:1<=ok)(O:ok<=n)(hs:lo+n<=(arrOf f).size)(up:Up N (arrOf st) lo ok)
 (h:∀a,CR f a lo->Up N (arrOf a) lo n->Q true a):(SC prog w A SI) (binarySort' lo n ok) Q st:=by
 rw[binarySort'_eq];rw[show max ok 1=ok by lia];refine ax (cS (cz (Q:=λx a=>x=(none,())/\CR f a lo/\Up N (arrOf a) lo n) (λk x a=>x=(none,())/\CR f a lo/\Up N (arrOf a) lo k) O %[rfl,r|up] ?_ ?_) ?_)
 .rintro k x b T hk ⟨rfl,m,up1⟩;dsimp only;have pv:∀i,i<k->lo+i<(arrOf f).size:=λi hi=>by lia
  refine ax (cS (cz (Q:=λx a=>a=b/\∃l,x.1=none/\x.2.1=l/\l<=k/\(∀i,i<l->ky N (arrOf b) (lo+i)<=ky N (arrOf b) (lo+k))/\(∀i,l<=i->i<k->ky N (arrOf b) (lo+k)<ky N (arrOf b) (lo+i)))
   (λj x a=>a=b/\∃l q,x=(none,l,q)/\l<=q/\q<=k/\q-l<=k-j/\(∀i,i<l->ky N (arrOf b) (lo+i)<=ky N (arrOf b) (lo+k))/\(∀i,q<=i->i<k->ky N (arrOf b) (lo+k)<ky N (arrOf b) (lo+i))) (X1 _)
   %[rfl,0,k,rfl,⋯,⋯,⋯,λi hi=>absurd hi (Yv _)|λi M h2=>by lia] ?_ ?_) ?_)
  .rintro j x g _ U ⟨rfl,l,q,rfl,B,o,Y,s,t⟩;dsimp only;by_cases u:l>=q
   .rw[if_pos u];have e:l=q:=by lia
    subst e;exact aE %[rfl,l,rfl,rfl,o,s|t]
   .rw[if_neg u];refine ax (eW c d m ⋯ ⋯ ?_);dsimp only;by_cases p:ky N (arrOf g) (lo+k)<ky N (arrOf g) (lo+(l+q)/2)
    .rw[Ze p,if_pos rfl];exact aE %[rfl,l,_,rfl,⋯,⋯,⋯,s|λi v z=>Zf p (up1 _ _ v z)]
    .rw[Zg p,if_neg ∅];exact aE %[rfl,_,q,rfl,⋯,⋯,⋯,λi v=>Y9 (up1 i ((l+q)/2) ⋯ ⋯) ⋯|t]
  .rintro x g ⟨rfl,l,q,rfl,B,o,Y,s,t⟩;have e:l=q:=by lia
   subst e;exact%[rfl,l,rfl,rfl,o,s|t]
  .rintro⟨x1,x2,x3⟩ g ⟨e2,l,G,H,C,s,t⟩;subst e2;dsimp only at G H;subst G H;dsimp only;rw[moveDown'_eq];refine ax (iW (aE %[rfl,m.move (by rw[m.size];lia) C|?_]));have y:lo+k<(arrOf g).size:=by rw[m.size];lia
   intro i j E U;rw[vK y ⋯,vK y ⋯];have ed:lo+k-(lo+k-(lo+x2))=lo+x2:=by lia
   rw[ed];by_cases v:lo+i=lo+x2
   .rw[if_pos v];by_cases z:lo+j=lo+x2
    .rw[if_pos z];exact Zh _
    .rw[if_neg z,if_pos ⋯];have:=t (j-1) ⋯ ⋯;rw[show lo+(j-1)=lo+j-1 by lia]at this
     lia
   .rw[if_neg v];by_cases I:lo+x2<lo+i/\lo+i<=lo+k
    .rw[if_pos I,if_neg ⋯,if_pos ⋯];have:=up1 (i-1) (j-1) ⋯ ⋯;rw[show lo+(j-1)=lo+j-1 by lia,show lo+(i-1)=lo+i-1 by lia]at this;exact this
    .rw[if_neg I];by_cases J:lo+j=lo+x2
     .rw[if_pos J];exact s i ⋯
     .rw[if_neg J];by_cases L:lo+x2<lo+j/\lo+j<=lo+k
      .rw[if_pos L];have:=up1 i (j-1) ⋯ ⋯;rw[show lo+(j-1)=lo+j-1 by lia]at this;exact this
      .rw[if_neg L];exact up1 i j E ⋯
 .rintro x b ⟨rfl,m,up1⟩;exact%[rfl,m|up1]
 .rintro x b ⟨rfl,m,up1⟩;exact aE (h b m up1)
end
end SBig
namespace SBig
open PySem PyProof.Rows
section
variable{prog:Program}{w:World}{A:Around}{SI:Shared->Prop}
theorem BJ(h:Up N a 0 a.size):Srt N a.toList:=by
 refine List.pairwise_iff_getElem.mpr λi j hi b c=>?_
 have g:∀i hi,N a.toList[i]=ky N a (0+i):=λi hi=>(zA ∅).symm
 rw[g,g];exact h i j ⋯ (b)
theorem sc_sortFew{st:SortSt}(c:Cmp prog w A SI (kindOf st) D N)(d:∀x∈(arrOf st).toList,D x)(E:1<=(arrOf st).size)(l:(arrOf st).size<64)(z:pendingOf st= #[])(G:failedOf st=none)
 (h:∀a,(arrOf a).toList.Perm (arrOf st).toList->Srt N (arrOf a).toList->failedOf a=none->Q () a):(SC prog w A SI) sortRuns' Q st:=by
 rw[sortRuns'_eq];refine ax (kI ?_);dsimp only;have H:minRun' (arrOf st).size (arrOf st).size 0=(arrOf st).size:=by
  obtain⟨m,e⟩:∃m,(arrOf st).size=m+1:=%[_|(Nat.sub_add_cancel E).symm]
  rw[e]at l ⊢;rw[minRun'_succ,if_pos l,add_zero]
 rw[H];refine ax (cS (cz (Q:=λx a=>x=(none,(arrOf st).size)/\(arrOf a).toList.Perm (arrOf st).toList/\Srt N (arrOf a).toList/\failedOf a=none/\(pendingOf a).size=1)
  (λj x a=>(j=0/\x=(none,0)/\a=st)\/(x=(none,(arrOf st).size)/\(arrOf a).toList.Perm (arrOf st).toList/\Srt N (arrOf a).toList/\failedOf a=none/\(pendingOf a).size=1)) (X1 _) (.inl %[rfl,rfl|rfl]) ?_ ?_) ?_)
 .rintro j x f _ I (⟨rfl,rfl,rfl⟩|⟨rfl,ok⟩)
  .dsimp only;rw[if_neg ⋯];refine ax (sf c d ⋯ ⋯ λn g B J U o=>?_);dsimp only;have C:∀(b:SortSt) (n:Nat),n=(arrOf f).size->CR f b 0->Up N (arrOf b) 0 n->(pendingOf b).back? =none/\(arrOf b).toList.Perm (arrOf f).toList/\Srt N (arrOf b).toList/\failedOf b=none/\(pendingOf b).size=0:=λb n e r u=>by
    refine%[by rw[r.pend,z];rfl,Array.perm_iff_toList_perm.mp r.perm,BJ (by rw[r.size,<-e];exact u),r.fail.trans G|by rw[r.pend,z];rfl]
   by_cases i:n<(arrOf f).size
   .rw[if_pos i];refine ax (qz (ax (wO c d B J ⋯ ⋯ o λb L p=>?_)));rw[if_neg ∅];refine ax (kI ?_);obtain⟨q,s,t,v,y⟩:=C b _ ⋯ L p;rw[q];dsimp only;refine ax (iW (aE (.inr %[?_,s,t,v|?_])))
    .rw[zero_add,Nat.sub_zero,Nat.min_self]
    .show((pendingOf b).push _).size=1;rw[Array.size_push,y]
   .rw[if_neg i];refine ax (kI ?_);obtain⟨q,s,t,v,y⟩:=C g _ ⋯ B o;rw[q];dsimp only;refine ax (iW (aE (.inr %[?_,s,t,v|?_])))
    .rw[zero_add,show n=(arrOf f).size by lia]
    .rw[Array.size_push,y]
  .dsimp only;rw[if_pos (Zh _)];exact aE %[rfl|ok]
 .rintro x f (⟨e,_⟩|ok)
  .lia
  .exact ok
 .rintro x f ⟨rfl,M,O,T,Y⟩;dsimp only;refine ax (cS (cz (Q:=λx a=>x=(none,())/\a=f) (λj x a=>x=(none,())/\a=f) (X1 _) %[rfl|rfl] ?_ ?_) ?_)
  .rintro j x g _ I ⟨rfl,rfl⟩;refine ax (kI ?_);rw[if_pos ⋯];exact aE %[rfl|rfl]
  .rintro x g e;exact e
  .rintro x g ⟨rfl,rfl⟩;exact aE (h g M O T)
end
end SBig
namespace STab
open PySem PySem.SetTable
theorem si:∀k,∃q,5^(2^k)=1+2^(k+2)*(2*q+1)
 | 0=>%[0|rfl]
 | k+1=>by
   obtain⟨q,e⟩:=si k;refine%[q+2^k*(2*q+1)*(2*q+1)|?_];rw[pow_succ 2 k,Nat.pow_mul,e]
   grind
noncomputable def step(M i:Nat):Nat:=(i*5+1)%M
noncomputable def iter(M:Nat):Nat->Nat->Nat
 | 0,i=>i
 | n+1,i=>step M (iter M n i)
noncomputable def geo:Nat->Nat
 | 0=>0
 | n+1=>geo n*5+1
theorem qA:∀n,4*geo n+1=5^n
 | 0=>rfl
 | n+1=>by
   have:=qA n;rw[pow_succ,<-this,geo]
   lia
theorem jU(M:Nat)(i:Nat):∀n,iter M n i%M=(5^n*i+geo n)%M
 | 0=>by simp[iter,geo]
 | n+1=>by
   rw[iter,step,Nat.mod_mod,geo,pow_succ];rw[add_mod,Nat.mul_mod,(jU M i n),<-Nat.mul_mod,<-add_mod]
   congr 1
   grind
theorem mS:∀(k i e:Nat),e<2^k->∃n,n<2^k/\iter (2^k) n i%2^k=e
 | 0,i,e,c=>%[0,by simp|by simp at c;subst c;simp[Nat.mod_one]]
 | k+1,i,e,c=>by
   obtain⟨n,M,t⟩:=mS k i (e%2^k) (mod_lt _ (Nat.two_pow_pos k));have d:∀n,iter (2^(k+1)) n i%2^(k+1)%2^k=iter (2^k) n i%2^k:=λn=>by
    rw[Nat.mod_mod_of_dvd _ (Nat.pow_dvd_pow 2 (Y8 k)),<-Nat.mod_mod_of_dvd _ (Nat.pow_dvd_pow 2 (Y8 k)),jU,Nat.mod_mod_of_dvd _ (Nat.pow_dvd_pow 2 (Y8 k)),jU]
   obtain⟨q,b⟩:=si k;have w:geo (2^k)=2^k*(2*q+1):=by
    have g:=qA (2^k);rw[b,Nat.pow_add]at g;have:2^k*2^2*(2*q+1)=4*(2^k*(2*q+1)):=by
     rw[Nat.mul_right_comm];lia
    lia
   have f:∀n,iter (2^(k+1)) (n+2^k) i%2^(k+1)=(iter (2^(k+1)) n i+2^k)%2^(k+1):=λn=>by
    rw[jU];have y:5^(n+2^k)*i+geo (n+2^k)=5^(2^k)*(5^n*i+geo n) +geo (2^k):=by
     have g1:=qA (n+2^k);have g2:=qA n
     grind
    rw[y,b,w];have z:2^(k+1)=2*2^k:=by rw[pow_succ];lia
    have j:2^(k+2)=2*2^(k+1):=by rw[pow_succ];lia
    have p:=jU (2^(k+1)) i n
    generalize 5^n*i+geo n=v at p ⊢
    have A:(1+2^(k+2)*(2*q+1))*v+2^k*(2*q+1)=v+2^k+2^(k+1)*(2*((2*q+1)*v) +q):=by
     rw[Nat.add_mul,Nat.one_mul,j];have B:2*2^(k+1)*(2*q+1)*v=2^(k+1)*(2*((2*q+1)*v)):=by
      simp only[Nat.mul_assoc,Nat.mul_left_comm]
     have C:2^k*(2*q+1)=2^k+2^(k+1)*q:=by
      rw[z,Nat.mul_add,Nat.mul_one]
      lia
     rw[B,C,Nat.mul_add]
     lia
    rw[A,Nat.add_mul_mod_self_left,add_mod,<-p,<-add_mod]
   have l:=d n;rw[t]at l;have E:iter (2^(k+1)) n i%2^(k+1)<2^(k+1):=mod_lt _ (Nat.two_pow_pos _);have m:=f n;rw[add_mod,Nat.mod_eq_of_lt (by lia:2^k<2^(k+1))]at m;obtain⟨a,r⟩:∃a,a=iter (2^(k+1)) n i%2^(k+1):=%[_|rfl]
   rw[<-r]at l E m;have o:a=e\/(a+2^k)%2^(k+1)=e:=by
    have s:=Nat.div_add_mod a (2^k);have G:=Nat.div_add_mod e (2^k);have H:a/2^k<2:=Nat.div_lt_of_lt_mul ⋯;have I:e/2^k<2:=Nat.div_lt_of_lt_mul ⋯;rw[l]at s
    generalize a/2^k=u at s H
    generalize e/2^k=v at G I
    have J:u=0\/u=1:=by lia
    have L:v=0\/v=1:=by lia
    rcases J with rfl|rfl<;> rcases L with rfl|rfl
    .left;lia
    .right
     rw[Nat.mod_eq_of_lt ⋯]
     lia
    .right
     rw[show a+2^k=e+2^(k+1) by lia,Nat.add_mod_right,Nat.mod_eq_of_lt c]
    .left;lia
   rcases o with h|h
   .exact%[n,⋯|by rw[<-r,h]]
   .exact%[n+2^k,⋯|by rw[m,h]]
end STab
namespace STab
open PySem PySem.SetTable
noncomputable def stand(t:SetTable)(h:Int):Nat->Probe
 | 0=>t.probeStart h
 | n+1=>t.advance (stand t h n)
noncomputable def way(t:SetTable)(h:Int)(n:Nat):Nat:=(stand t h n).j
noncomputable def aK(t:SetTable)(h:Int):Nat->Nat×Nat
 | 0=>(bits h%(t.mask+1),bits h)
 | r+1=>leap t.mask (aK t h r).1 (aK t h r).2
theorem lG(t:SetTable)(h:Int):∀n,(stand t h n).dummy=none
 | 0=>rfl
 | n+1=>by
   have:=lG t h n;show(t.advance _).dummy=none;unfold advance
   split
   .exact this
   .exact this
theorem BK(m i:Nat):runEnd m i-i<=9:=by
 unfold runEnd
 split<;> lia
theorem wP(t:SetTable)(h:Int):∀r,∃n,n<=10*r/\∀d,d<=runEnd t.mask (aK t h r).1-(aK t h r).1->
 stand t h (n+d)=%[(aK t h r).1+d,runEnd t.mask (aK t h r).1-(aK t h r).1-d,(aK t h r).1,(aK t h r).2|none]:=by
 have a:∀n i b,stand t h n=%[i,runEnd t.mask i-i,i,b|none]->∀d,d<=runEnd t.mask i-i->stand t h (n+d)=%[i+d,runEnd t.mask i-i-d,i,b|none]:=by
  intro n i b e d
  induction d with
  | zero=>intro _;rw[add_zero,e];rfl
  | succ d c=>
    intro f;show t.advance (stand t h (n+d))=_;rw[c ⋯];unfold advance;rw[if_pos ⋯]
    grind
 intro r
 induction r with
 | zero=>exact%[0,X1 _|a 0 _ _ rfl]
 | succ r c=>
   obtain⟨n,g,e⟩:=c;have j:=BK t.mask (aK t h r).1;refine%[n+(runEnd t.mask (aK t h r).1-(aK t h r).1) +1,⋯|a _ _ _ ?_];show t.advance _=_;rw[e _ (Zh _)];unfold advance;rw[if_neg ⋯];rfl
theorem BL(h:Int):bits h<2^64:=by
 unfold bits
 grind
theorem mT(t:SetTable)(h:Int):∀r,(aK t h r).2=bits h/32^r
 | 0=>by simp[aK]
 | r+1=>by
   show(aK t h r).2/32=_;rw[mT t h r,Nat.div_div_eq_div_mul,pow_succ]
theorem zB(t:SetTable)(h:Int):∀r,(aK t h r).1<t.mask+1
 | 0=>mod_lt _ (succ_pos _)
 | r+1=>mod_lt _ (succ_pos _)
theorem jt(t:SetTable)(h:Int):∀m,(aK t h (12+m)).1=iter (t.mask+1) m (aK t h 12).1
 | 0=>rfl
 | m+1=>by
   show((aK t h (12+m)).1*5+1+(aK t h (12+m)).2/32)%(t.mask+1)=step _ _;rw[jt t h m,mT,Nat.div_div_eq_div_mul,<-pow_succ];have a:bits h/32^(12+m+1)=0:=by
    exact Nat.div_eq_of_lt (Zf (BL h) (Y9 (by decide:2^64<=32^13) (Nat.pow_le_pow_right (by decide) ⋯)))
   rw[a,add_zero];rfl
theorem mU(a:t.mask+1=2^k)(h:Int)(e:Nat)(c:e<=t.mask):∃r,r<turns t.mask/\(aK t h r).1=e:=by
 obtain⟨n,d,b⟩:=mS k _ e ⋯;refine%[12+n,by unfold turns;lia|?_];rw[jt,a];rw[<-a]at b;have:iter (t.mask+1) n (aK t h 12).1<t.mask+1:=by rw[<-jt];exact zB t h _
 rw[Nat.mod_eq_of_lt this]at b;exact a▸b
theorem uE(a:t.mask+1=2^k)(h:Int)(e:Nat)(b:e<=t.mask):∃n,n+10<=10*turns t.mask/\way t h n=e:=by
 obtain⟨r,f,c⟩:=mU a h e b;obtain⟨n,g,d⟩:=wP t h r;refine%[n,⋯|?_];have:=d 0 (X1 _);unfold way;rw[add_zero]at this;rw[this];exact c
theorem sj(o:t.dummies= #[]){hashAt:Nat->Int}:∀(fuel n m:Nat),n<=m->m<n+fuel->t.slot (way t h m)= .empty->
 ∃q,n<=q/\q<=m/\(∀j,n<=j->j<q->∃i,t.slot (way t h j)= .live i/\hashAt i≠h)/\
  ((t.slot (way t h q)= .empty/\probe.go t hashAt h fuel (stand t h n)=some (.empty (way t h q) none))\/
   ∃i,t.slot (way t h q)= .live i/\hashAt i=h/\probe.go t hashAt h fuel (stand t h n)=some (.candidate (way t h q) i (stand t h (q+1))))
 | 0,n,m,g,r,_=>by lia
 | fuel+1,n,m,g,r,p=>by
   have d:probe.go t hashAt h (fuel+1) (stand t h n)=(match t.slot (stand t h n).j with
    | .empty=>some _
    | .dummy=>probe.go t hashAt h fuel (t.advance {stand t h n with dummy:=some _})
    | .live i=>if hashAt i==h then some _ else probe.go t hashAt h fuel _):=rfl
   have l:(stand t h n).j=way t h n:=rfl;cases c:t.slot _ with
   | empty=>
     refine%[n,Zh _,g,λj a b=>by lia|.inl %[c|?_]];rw[d,l,c,lG]
   | dummy=>
     exfalso;unfold slot at c;dsimp only at c
     split at c
     .lia
     .split at c
      .rename_i q
       rw[o]at q;simp[has]at q
      .lia
   | live i=>
     by_cases f:hashAt i=h
     .refine%[n,Zh _,g,λj a b=>by lia|.inr %[i,c,f|?_]];rw[d,l,c];dsimp only;rw[if_pos (by simp[f])];rfl
     .have s:n≠m:=λq=>by rw[q,p]at c;cases c
      obtain⟨q,z,u,v,w⟩:=sj o fuel (n+1) m ⋯ ⋯ p;have y:probe.go t hashAt h (fuel+1) (stand t h n)=probe.go t hashAt h fuel (stand t h (n+1)):=by
       rw[d,l,c];dsimp only;rw[if_neg (by simp[f])];rfl
      refine%[q,⋯,u,λj a b=>?_|?_]
      .by_cases e:j=n
       .exact e▸%[i,c|f]
       .exact v j ⋯ b
      .exact y▸w
end STab
namespace STab
open PySem PySem.SetTable
theorem mV(xs:Array Nat)(j:Nat)(d:∀a b (s:a<xs.size) (t:b<xs.size),a<b->xs[a]<xs[b]):∀(fuel lo hi:Nat),hi-lo<=fuel->lo<=hi->hi<=xs.size->(∀i (h:i<xs.size),i<lo->xs[i]<j)->(∀i (h:i<xs.size),hi<=i->j<=xs[i])->
 below.go xs j fuel lo hi<=xs.size/\(∀i (h:i<xs.size),i<below.go xs j fuel lo hi->xs[i]<j)/\(∀i (h:i<xs.size),below.go xs j fuel lo hi<=i->j<=xs[i])
 | 0,lo,hi,p,q,f,g,l=>by
   have e:lo=hi:=by lia
   subst e;exact%[f,g|l]
 | fuel+1,lo,hi,p,q,f,g,l=>by
   rw[below.go];by_cases c:lo<hi
   .rw[if_pos c];dsimp only;have n:(lo+hi)/2<xs.size:=by lia
    have r:xs.getD ((lo+hi)/2) j=xs[(lo+hi)/2]:=by simp[Array.getD,n]
    rw[r];by_cases m:xs[(lo+hi)/2]<j
    .rw[if_pos m];refine mV xs j d fuel _ hi ⋯ ⋯ f (λi h o=>?_) l;by_cases e:i=(lo+hi)/2
     .subst e;exact m
     .exact Nat.lt_trans (d i _ h n ⋯) m
    .rw[if_neg m];refine mV xs j d fuel lo _ ⋯ ⋯ ⋯ g (λi h o=>?_);by_cases e:i=(lo+hi)/2
     .subst e;lia
     .have:=d _ i n h ⋯
      lia
   .rw[if_neg c];have e:lo=hi:=by lia
    subst e;exact%[f,g|l]
def zC(xs:Array Nat):Prop:=∀a b c (d:b<xs.size),a<b->xs[a]<xs[b]
theorem ju(a:zC xs)(j:Nat):below xs j<=xs.size/\(∀i (h:i<xs.size),i<below xs j->xs[i]<j)/\(∀i (h:i<xs.size),below xs j<=i->j<=xs[i]):=
 mV xs j a xs.size 0 xs.size ⋯ (X1 _) (Zh _) (λi h q=>absurd q (Yv _)) (λi h q=>by lia)
theorem zD(a:zC xs)(h:xs[i]? =some j):below xs j=i:=by
 obtain⟨f,c,d⟩:=ju a j;obtain⟨hi,e⟩:=Array.getElem?_eq_some_iff.mp h;rcases Nat.lt_trichotomy i _ with q|q|q
 .have:=c i hi q
  lia
 .exact q.symm
 .have b:below xs j<xs.size:=by lia
  have:=d _ b (Zh _);have:=a _ i b hi q
  lia
theorem pF{t:SetTable}(a:zC t.place)(h:t.place[i]? =some j):t.slot j= .live i:=by
 unfold slot;dsimp only;rw[zD a h,h];simp
theorem jv{t:SetTable}(a:zC t.place)(b:t.dummies= #[])(j:Nat):(∃i,t.place[i]? =some j/\t.slot j= .live i)\/(j∉t.place.toList/\t.slot j= .empty):=by
 by_cases h:j∈t.place.toList
 .obtain⟨i,hi⟩:=X2 h;have hi:=by simpa using hi
  exact .inl %[i,hi|pF a hi]
 .refine .inr %[h|?_];unfold slot;rw[if_neg,if_neg]
  .rw[b];simp[has]
  .intro q;exact h (mem_toList_iff.mpr (Array.mem_of_getElem? (by simpa using q)))
theorem sk(h:t.mask=t'.mask)(x:Int):∀n,stand t x n=stand t' x n
 | 0=>by
   show t.probeStart x=t'.probeStart x;unfold probeStart;rw[h]
 | n+1=>by
   show t.advance _=t'.advance _;rw[sk h x n];unfold advance;rw[h]
theorem pG(h:t.mask=t'.mask)(x:Int)(n:Nat):way t x n=way t' x n:=by unfold way;rw[sk h]
structure WF (t:SetTable) (es:Array (Int×Value)):Prop where
 pow:∃k,t.mask+1=2^k
 big:7<=t.mask
 dum:t.dummies= #[]
 rise:zC t.place
 inb:∀j∈t.place.toList,j<=t.mask
 size:t.place.size=es.size
 chain:∀(i j:Nat) h x,t.place[i]? =some j->es[i]? =some (h,x)->∃n,way t h n=j/\∀m,m<n->way t h m∈t.place.toList
theorem nodup_sub [DecidableEq c]:∀{l m:List c},l.Nodup->(∀x∈l,x∈m)->l.length<=m.length
 |[],_,_,_=>X1 _
 | x::l,m,d,a=>by
   obtain⟨f,g⟩:=nodup_cons.mp d;have b:=a x Zl;have h:=nodup_sub (m:=m.erase x) g λy i=>(List.mem_erase_of_ne (λe=>f (by simp_all))).mpr (a y (Zj _ i))
   rw[List.length_erase_of_mem b]at h;have:=List.length_pos_of_mem b;rw[Zq]
   lia
theorem uF(W:WF t es)(R:t.place.size<=t.mask)(h:Int):∃m,m+10<=10*turns t.mask/\way t h m∉t.place.toList/\(∀q,q<m->way t h q∈t.place.toList):=by
 obtain⟨k,l⟩:=W.pow;have ex:∃e,e<=t.mask/\e∉t.place.toList:=by
  refine Classical.byContradiction λb=>?_
  have:(List.range (t.mask+1)).length<=t.place.toList.length:=nodup_sub nodup_range λx o=>(λe c=>Classical.byContradiction λq=>b %[e,c|q]) x (by have:=mem_range.mp o;lia)
  rw[Yc,Za]at this
  lia
 obtain⟨e,c,f⟩:=ex;obtain⟨n,p,hw⟩:=uE l h e c;have:∀d,∀n,n<=d->n+10<=10*turns t.mask->way t h n∉t.place.toList->∃m,m+10<=10*turns t.mask/\way t h m∉t.place.toList/\(∀q,q<m->way t h q∈t.place.toList):=by
  intro d
  induction d with
  | zero=>
    intro n r g i;have:n=0:=by lia
    subst this;exact%[0,g,i|λq j=>absurd j (Yv _)]
  | succ d s=>
    intro n r g i;by_cases a:∀q,q<n->way t h q∈t.place.toList
    .exact%[n,g,i|a]
    .obtain⟨q,j⟩:=Classical.not_forall.mp a;obtain⟨v,u⟩:=Classical.not_imp.mp j;exact s q ⋯ ⋯ u
 exact this n n (Zh _) p (hw▸f)
end STab
namespace STab
open PySem PySem.SetTable
theorem jV(xs:Array a)(p:Nat)(x:a)(b:p<=xs.size):(insertAt xs p x).toList=xs.toList.take p++x::xs.toList.drop p:=by
 unfold insertAt;rw[toList_append,toList_push,toList_extract,toList_extract,List.extract_eq_take_drop,List.extract_eq_take_drop];rw[List.drop_zero,Nat.sub_zero,Zm (l:=xs.toList.drop p) ∅];simp
theorem uG(xs:Array c)(x:c)(f:p<=xs.size)(i:Nat):(insertAt xs p x)[i]? =if i<p then xs[i]? else if i=p then some x else xs[i-1]? :=by
 have e:(insertAt xs p x)[i]? =(insertAt xs p x).toList[i]? :=by simp
 rw[e,jV xs p x f];have g:(xs.toList.take p).length=p:=by simp_all
 by_cases a:i<p
 .rw[if_pos a,Y3 ⋯,List.getElem?_take,if_pos a];simp
 .rw[if_neg a,Y4 ⋯,g];by_cases b:i=p
  .rw[if_pos b,b,sub_self];rfl
  .rw[if_neg b];obtain⟨d,h⟩:∃d,i-p=d+1:=%[i-p-1|⋯]
   rw[h,List.getElem?_cons_succ,getElem?_drop];rw[show p+d=i-1 by lia];simp
theorem iH(xs:Array a)(p:Nat)(x:a)(b:p<=xs.size):(insertAt xs p x).size=xs.size+1:=by
 rw[<-Za,jV xs p x b,Z8,Zq,Ye,Ya,Za]
 lia
theorem zE(t:SetTable)(h:Int):∀n,(stand t h n).j+(stand t h n).more<=t.mask
 | 0=>by
   show bits h%(t.mask+1) +(runEnd t.mask _-bits h%(t.mask+1))<=t.mask;have:=mod_lt (bits h) (show 0<t.mask+1 from succ_pos _);unfold runEnd
   split<;> lia
 | n+1=>by
   have a:=zE t h n;show(t.advance _).j+(t.advance _).more<=t.mask;unfold advance
   split
   .lia
   .dsimp only[leap];have:=mod_lt ((stand t h n).i*5+1+(stand t h n).perturb/32) (show 0<t.mask+1 from succ_pos _);unfold runEnd
    split<;> lia
theorem qB(t:SetTable)(h:Int)(n:Nat):way t h n<=t.mask:=by
 have:=zE t h n;unfold way
 lia
theorem WF.put(W:WF t es)(T:way t h m∉t.place.toList)(U:∀q,q<m->way t h q∈t.place.toList)(r f:Bool):
 (t.put (way t h m)).2=below t.place (way t h m)/\(t.put (way t h m)).1.mask=t.mask/\(t.put (way t h m)).1.place.size=t.place.size+1/\(t.put (way t h m)).1.led=t.led/\(t.put (way t h m)).1.plain=t.plain/\(t.put (way t h m)).1.moves=t.moves/\
  WF {(t.put (way t h m)).1 with led:=r,plain:=f} (insertAt es (t.put (way t h m)).2 (h,x)):=by
 have Y:has t.dummies (way t h m)=false:=by rw[W.dum];simp[has]
 have ep:t.put (way t h m)=({t with place:=insertAt t.place (below t.place (way t h m)) (way t h m)},below t.place (way t h m)):=by
  unfold SetTable.put;dsimp only;rw[Y];rfl
 rw[ep];obtain⟨g,J,L⟩:=ju W.rise (way t h m)
 generalize hp:below t.place (way t h m)=p at g J L
 have w:p<=es.size:=by rw[<-W.size];exact g
 have s3:∀i (hi:i<t.place.size),p<=i->way t h m<t.place[i]:=λi hi q=>by
  have:=L i hi q;rcases Nat.eq_or_lt_of_le this with e|e
  .exact absurd (by rw[e];simp) T
  .exact e
 have c:∀y,y∈(insertAt t.place p (way t h m)).toList↔y=way t h m\/y∈t.place.toList:=λy=>by
  rw[jV _ _ _ g,Yl,Yo];have:=X0 p t.place.toList
  constructor
  .rintro(q|q|q)
   .exact .inr (Yp q)
   .exact .inl q
   .exact .inr (List.mem_of_mem_drop q)
  .rintro(q|q)
   .exact .inr (.inl q)
   .rw[<-this]at q;rcases X8 q with q|q
    .exact .inl q
    .exact .inr (.inr q)
 refine%[rfl,rfl,iH _ _ _ g,rfl,rfl,rfl,W.pow,W.big,W.dum,?_,?_,?_|?_]
 .intro a b ha B C;have l:(insertAt t.place p (way t h m))[a]? =some (insertAt t.place p (way t h m))[a]:=by simp
  have d:(insertAt t.place p (way t h m))[b]? =some (insertAt t.place p (way t h m))[b]:=by simp
  show(insertAt t.place p (way t h m))[a]<(insertAt t.place p (way t h m))[b];rw[uG _ _ g]at l d;have ab:b<t.place.size+1:=(iH t.place p (way t h m) g)▸B;by_cases E:a<p
  .rw[if_pos E]at l;obtain⟨u,G⟩:=Array.getElem?_eq_some_iff.mp l;rw[<-G];by_cases r:b<p
   .rw[if_pos r]at d;obtain⟨f,v⟩:=Array.getElem?_eq_some_iff.mp d;exact v▸W.rise a b u f C
   .rw[if_neg r]at d;by_cases f:b=p
    .rw[if_pos f]at d;exact(Z9 d)▸J a u E
    .rw[if_neg f]at d;obtain⟨v,H⟩:=Array.getElem?_eq_some_iff.mp d;exact H▸W.rise a (b-1) u v ⋯
  .rw[if_neg E]at l;have r: ¬ b<p:=by lia
   have f: ¬ b=p:=by lia
   rw[if_neg r,if_neg f]at d;obtain⟨v,H⟩:=Array.getElem?_eq_some_iff.mp d;rw[<-H];by_cases u:a=p
   .rw[if_pos u]at l;exact(Z9 l)▸s3 (b-1) v ⋯
   .rw[if_neg u]at l;obtain⟨G,a4⟩:=Array.getElem?_eq_some_iff.mp l;exact a4▸W.rise (a-1) (b-1) G v ⋯
 .intro y hy;rcases(c y).mp hy with q|q
  .rw[q];exact qB t h m
  .exact W.inb y q
 .rw[iH _ _ _ g,iH _ _ _ w,W.size]
 .intro i j h' M hi o;have N:∀n,way {t with place:=insertAt t.place p (way t h m),led:=r,plain:=f} h' n=way t h' n:=λn=>pG (t':=t) (by rfl) h' n
  have I:∃n,way t h' n=j/\∀q,q<n->way t h' q∈(insertAt t.place p (way t h m)).toList:=by
   rw[uG _ _ g]at hi;rw[uG _ _ w]at o;by_cases O:i<p
   .rw[if_pos O]at hi o;obtain⟨n,z,A⟩:=W.chain i j h' M hi o;exact%[n,z|λq s=>(c _).mpr (.inr (A q s))]
   .rw[if_neg O]at hi o;by_cases Q:i=p
    .rw[if_pos Q]at hi o;cases hi;cases o;exact%[m,rfl|λq s=>(c _).mpr (.inr (U q s))]
    .rw[if_neg Q]at hi o;obtain⟨n,z,A⟩:=W.chain (i-1) j h' M hi o;exact%[n,z|λq s=>(c _).mpr (.inr (A q s))]
  obtain⟨n,z,A⟩:=I;exact%[n,by rw[N];exact z|λq s=>by rw[N];exact A q s]
end STab
namespace STab
open PySem PySem.SetTable
noncomputable def nb(t:SetTable)(h:Int):Nat->Nat
 | 0=>0
 | r+1=>nb t h r+(runEnd t.mask (aK t h r).1-(aK t h r).1) +1
theorem zF(t:SetTable)(h:Int):∀r d,d<=runEnd t.mask (aK t h r).1-(aK t h r).1->
 stand t h (nb t h r+d)=%[(aK t h r).1+d,runEnd t.mask (aK t h r).1-(aK t h r).1-d,(aK t h r).1,(aK t h r).2|none]:=by
 have a:∀n i b,stand t h n=%[i,runEnd t.mask i-i,i,b|none]->∀d,d<=runEnd t.mask i-i->stand t h (n+d)=%[i+d,runEnd t.mask i-i-d,i,b|none]:=by
  intro n i b e d
  induction d with
  | zero=>intro _;rw[add_zero,e];rfl
  | succ d c=>
    intro f;show t.advance (stand t h (n+d))=_;rw[c ⋯];unfold advance;rw[if_pos ⋯]
    grind
 intro r
 induction r with
 | zero=>exact a 0 _ _ rfl
 | succ r c=>
   refine a _ _ _ ?_;show t.advance _=_;rw[c _ (Zh _)];unfold advance;rw[if_neg ⋯];rfl
theorem uH(t:SetTable)(h:Int)(r d:Nat)(a:d<=runEnd t.mask (aK t h r).1-(aK t h r).1):way t h (nb t h r+d)=(aK t h r).1+d:=by
 unfold way;rw[zF t h r d a]
noncomputable def eX(owner:Array (Option Nat))(j:Nat):Bool:=(owner.getD j (some 0)).isSome
theorem pH(t:SetTable)(h:Int)(owner:Array (Option Nat)):∀(fuel r:Nat),(∃a,r<=a/\a<r+fuel/\eX owner (aK t h a).1=false)->(∀m,m<nb t h r->eX owner (way t h m)=true)->
 ∃j n,layClean.free t.mask owner fuel (aK t h r).1 (aK t h r).2=some j/\way t h n=j/\eX owner j=false/\∀m,m<n->eX owner (way t h m)=true
 | 0,r,⟨a,o,p,_⟩,_=>by lia
 | fuel+1,r,⟨a,o,p,f⟩,g=>by
   rw[layClean.free];have s:runEnd t.mask (aK t h r).1>=(aK t h r).1:=by unfold runEnd;split<;> lia
   have tk:∀k,(owner.getD ((aK t h r).1+k) (some 0)).isNone=!eX owner ((aK t h r).1+k):=λk=>by
    unfold eX;cases owner.getD ((aK t h r).1+k) (some 0)<;> rfl
   cases i:(List.range (runEnd t.mask (aK t h r).1+1-(aK t h r).1)).find? λk=>(owner.getD ((aK t h r).1+k) (some 0)).isNone with
   | some k=>
     obtain⟨l,as,bs,b,u⟩:=List.find?_eq_some_iff_append.mp i;have c:k∈List.range (runEnd t.mask (aK t h r).1+1-(aK t h r).1):=by rw[b];simp
     have c:=mem_range.mp c;have v:as=List.range k:=by
      have w:as.length=k:=by
       have:(List.range (runEnd t.mask (aK t h r).1+1-(aK t h r).1))[as.length]? =some k:=by rw[b];simp
       rw[List.getElem?_range (by have:=(X7 this).1;simpa using this)]at this;exact Z9 this
      have y:as=(List.range (runEnd t.mask (aK t h r).1+1-(aK t h r).1)).take k:=by
       rw[b,<-w];simp
      rw[y,List.take_range,Nat.min_eq_left ⋯]
     dsimp only;refine%[_,nb t h r+k,rfl,uH t h r k ⋯,?_|λm d=>?_]
     .rw[tk]at l;simpa using l
     .by_cases q:m<nb t h r
      .exact g m q
      .have:=u (m-nb t h r) (v▸mem_range.mpr ⋯);rw[tk]at this;rw[show m=nb t h r+(m-nb t h r) by lia,uH t h r _ ⋯];simpa using this
   | none=>
     have all:∀k,k<=runEnd t.mask (aK t h r).1-(aK t h r).1->eX owner ((aK t h r).1+k)=true:=λk c=>by
      have:=(List.find?_eq_none.mp i) k (mem_range.mpr ⋯);rw[tk]at this;simpa using this
     have z:r≠a:=λe=>by
      have:=all 0 (X1 _);rw[add_zero,e,f]at this;cases this
     dsimp only;exact pH t h owner fuel (r+1) %[a,⋯,⋯|f] λm d=>by
      by_cases q:m<nb t h r
      .exact g m q
      .have d:m<nb t h r+(runEnd t.mask (aK t h r).1-(aK t h r).1) +1:=d;rw[show m=nb t h r+(m-nb t h r) by lia,uH t h r _ ⋯];exact all _ ⋯
structure LO (t:SetTable) (hs:ZK) (owner:Array _):Prop where
 size:owner.size=t.mask+1
 own:∀j q,owner[j]? =some (some q)->∃h,hs[q]? =some h/\∃n,way t h n=j/\∀m,m<n->eX owner (way t h m)=true
 all:∀q,q<hs.length->∃j:Nat,owner[j]? =some (some q)
 one:∀(j j' q:Nat),owner[j]? =some (some q)->owner[j']? =some (some q)->j=j'
theorem f6(b:j<owner.size):eX owner j=true↔∃q,owner[j]? =some (some q):=by
 unfold eX;have e:owner.getD j (some 0)=owner[j]:=by simp_all
 rw[e];have a:owner[j]? =some owner[j]:=by simp
 rw[a];cases owner[j]with
 | none=>simp
 | some q=>simp
theorem LO.step(L:LO t f owner)(J:t.mask+1=2^k)(room:f.length<=t.mask)(h:Int):
 ∃j,layClean.free t.mask owner (turns t.mask) (bits h%(t.mask+1)) (bits h)=some j/\LO t (f++[h]) (owner.setIfInBounds j (some f.length)):=by
 have d:∀h n,way t h n<owner.size:=λh n=>by rw[L.size];have:=qB t h n;lia
 have ex:∃e,e<=t.mask/\eX owner e=false:=by
  refine Classical.byContradiction λv=>?_
  have all:∀e,e<t.mask+1->eX owner e=true:=λe c=>by
   cases q:eX owner e with
   | true=>rfl
   | false=>exact absurd %[e,⋯|q] v
  let g:Nat->Nat:=λe=>((owner[e]?).getD none).getD 0
  have w:∀e,e<t.mask+1->owner[e]? =some (some (g e)):=λe c=>by
   obtain⟨q,o⟩:=(λe c=>(f6 (L.size▸c)).mp (all e c)) e c;show owner[e]? =some (some (((owner[e]?).getD none).getD 0));rw[o];rfl
  have nd:((List.range (t.mask+1)).map g).Nodup:=by
   rw[Yt,Yy];refine X3 (λ{a b} M N A q=>A ?_) (nodup_iff_pairwise_ne.mp nodup_range);have E:=w b (mem_range.mp N);rw[<-q]at E;exact L.one a b _ (w a (mem_range.mp M)) E
  have:=nodup_sub nd λy O=>by
   obtain⟨e,c,rfl⟩:=Xa O;obtain⟨h',l,_⟩:=L.own e _ (w e (mem_range.mp c));exact mem_range.mpr (X7 l).1
  rw[Z5,Yc,Yc]at this
  lia
 obtain⟨e,c,B⟩:=ex;obtain⟨r,hr,o⟩:=mU J h e c;obtain⟨j,n,Q,G,T,U⟩:=pH t h owner (turns t.mask) 0 %[r,X1 _,⋯|o▸B] (λm p=>absurd p (Yv _));refine%[j,Q|?_];have Y:j<owner.size:=G▸d h n;have nj:∀q,owner[j]? ≠some _:=λq e=>by
  have:=(f6 Y).mpr %[q|e];rw[T]at this;cases this
 have get:∀i,(owner.setIfInBounds j (some f.length))[i]? =if j=i then some _ else owner[i]? :=λi=>by
  rw[Array.getElem?_setIfInBounds]
  split
  .first|rfl|simp
  .rfl
 have keep:∀i,eX owner i=true->i<owner.size->eX (owner.setIfInBounds j _) i=true:=λi hi H=>by
  obtain⟨q,e⟩:=(f6 H).mp hi;refine(f6 (Array.size_setIfInBounds▸H)).mpr ?_;rw[get]
  split
  .exact%[_|rfl]
  .exact%[q|e]
 refine%[by rw[Array.size_setIfInBounds];exact L.size,λi q e=>?_,λq o=>?_|λi I q e s=>?_]
 .rw[get]at e
  split at e
  .rename_i C
   cases e;refine%[h,by simp,n,by rw[G,C]|λm p=>keep _ (U m p) (d h m)]
  .obtain⟨h',l,n',e2,e3⟩:=L.own i q e;exact%[h',(Y3 (X7 l).1)▸l,n',e2|λm p=>keep _ (e3 m p) (d h' m)]
 .rw[Z8,Yd]at o;by_cases e:q=f.length
  .exact%[j|by rw[get,if_pos rfl,e]]
  .obtain⟨i,hi⟩:=L.all q ⋯;refine%[i|?_];rw[get,if_neg]
   .exact hi
   .intro C;rw[<-C]at hi;exact nj q hi
 .have u:∀i,owner[i]? =some (some f.length)->False:=λi e=>by
   obtain⟨h',l,_⟩:=L.own i _ e;have:=(X7 l).1
   lia
  rw[get]at e s
  split at e<;> split at s
  .lia
  .cases e;exact absurd s (λz=>u I z)
  .cases s;exact absurd e (λz=>u i z)
  .exact L.one i I q e s
theorem sq(c:t.mask+1=2^k)(a:Array Int)(room:a.size<=t.mask+1):∃owner,layClean t.mask a=some owner/\LO t a.toList owner:=by
 have d:∀rest done owner,LO t done owner->(done++rest).length<=t.mask+1->
  ∃b,rest.foldl (λacc h=>do
   let(owner,k)<-acc
   let j<-layClean.free t.mask owner (turns t.mask) (bits h%(t.mask+1)) (bits h)
   pure (owner.setIfInBounds j (some k),k+1)) (some (owner,done.length))=some (b,(done++rest).length)/\LO t (done++rest) b:=by
  intro rest
  induction rest with
  | nil=>intro done owner L _;exact%[owner,by simp|by simpa using L]
  | cons h rest g=>
    intro done owner L i;simp only[Z8,Zq]at i;obtain⟨j,f,l⟩:=L.step c ⋯ h;obtain⟨b,e,L2⟩:=g _ _ l (by simp_all);refine%[b,?_|by simpa using L2];rw[foldl_cons];have m:(do
     let(owner,k)<-(some (owner,done.length))
     let j<-layClean.free t.mask owner (turns t.mask) (bits h%(t.mask+1)) (bits h)
     pure (owner.setIfInBounds j (some k),k+1))=some (owner.setIfInBounds j (some done.length),(done++[h]).length):=by
     show(layClean.free t.mask owner _ _ _).bind _=_;rw[f];simp
    rw[m,e];simp
 have n:LO t [] (Array.replicate (t.mask+1) none):=%[by simp,λj q e=>by
  rw[Array.getElem?_replicate]at e
  split at e<;> simp at e,λq o=>absurd o (Yv _)|λj p q e _=>by
  rw[Array.getElem?_replicate]at e
  split at e<;> simp at e]
 obtain⟨owner,e,L⟩:=d a.toList [] _ n (room);refine%[owner,?_|L];unfold layClean;rw[<-Array.foldl_toList];rw[show(0)=([]).length from rfl,e];rfl
end STab
namespace STab
open PySem PySem.SetTable
theorem sr(n:Nat):∀fuel k,3<=k->n<2^(k+fuel)->(2^k<=2*n\/k=3)->∃a,3<=a/\sizeAbove.go n fuel (2^k)=2^a/\n<2^a/\(2^a<=2*n\/a=3)
 | 0,k,b,c,d=>%[k,b,rfl,c|d]
 | fuel+1,k,b,c,d=>by
   rw[sizeAbove.go];by_cases h:2^k<=n
   .rw[if_pos h];have e:2^k*2=2^(k+1):=by rw[pow_succ]
    rw[e];exact sr n fuel _ ⋯ ((show k+1+fuel=k+(fuel+1) by lia)▸c) (.inl ⋯)
   .rw[if_neg h];exact%[k,b,rfl,⋯|d]
theorem uI(a:n<2^60):∃k,3<=k/\sizeAbove n=2^k/\n<2^k/\(2^k<=2*n\/k=3):=
 sr n 64 3 (Zh _) (Zf a (Nat.pow_le_pow_right (by decide) ∅)) (.inr rfl)
theorem mW [DecidableEq c]:∀{l m:List c},l.Nodup->m.Nodup->(∀x,x∈l↔x∈m)->l.Perm m
 |[],m,_,_,h=>by
  cases m with
  | nil=>simp
  | cons x m=>exact absurd ((h x).mpr Zl) ∅
 | x::l,m,d,b,h=>by
   obtain⟨f,g⟩:=nodup_cons.mp d;refine List.Perm.trans (List.Perm.cons x (mW g (b.erase x) λy=>?_)) (List.perm_cons_erase ((h x).mp Zl)).symm
   constructor
   .intro a;exact(List.mem_erase_of_ne (λe=>f (by simp_all))).mpr ((h y).mp (Zj _ a))
   .intro a;rcases mem_cons.mp ((h y).mpr (List.mem_of_mem_erase a))with q|q
    .exact absurd q (λe=>by rw[e]at a;exact b.not_mem_erase a)
    .exact q
theorem laid_ok{t:SetTable}(hp:t.mask+1=2^k)(C:7<=t.mask)(es:Array (Int×Value))(room:es.size<=t.mask)(finger moves:Nat)(led plain:Bool):
 ∃t' c,laid t.mask finger moves led plain (es.map (·.1))=some (t',c)/\t'.mask=t.mask/\t'.led=led/\t'.plain=plain/\t'.moves=moves/\WF t' (c.filterMap (es[·]?))/\(c.filterMap (es[·]?)).toList.Perm es.toList:=by
 obtain⟨owner,e,L⟩:=sq hp (es.map (·.1)) (by rw[size_map];lia);have E:(es.map (·.1)).toList.length=es.size:=by simp
 obtain⟨live,u⟩:∃live,(List.range (t.mask+1)).filterMap (λj=>(owner.getD j none).map (λq=>(j,q)))=live:=%[_|rfl]
 refine%[%[t.mask,(live.map (·.1)).toArray,#[],finger,led,moves|plain],(live.map (·.2)).toArray,by unfold laid;rw[e,<-u];rfl,rfl,rfl,rfl,rfl|?_];have gd:∀j q,owner.getD j none=some q↔owner[j]? =some (some q):=λj q=>by
  rw[Array.getD_eq_getD_getElem?];cases owner[j]? with
  | none=>simp
  | some o=>simp
 have mem:∀j q,(j,q)∈live↔owner[j]? =some (some q):=λj q=>by
  rw[<-u,mem_filterMap]
  constructor
  .rintro⟨G,ab,H⟩;obtain⟨w,r,I⟩:=map_eq_some_iff.mp H;cases I;exact(gd j q).mp r
  .intro ho;have:j<owner.size:=by
    obtain⟨d,_⟩:=Array.getElem?_eq_some_iff.mp ho;exact d
   refine%[j,mem_range.mpr (by rw[L.size]at this;exact this)|?_];rw[(gd j q).mpr ho];rfl
 have g:(live.map (·.1)).Pairwise (·<·):=by
  rw[<-u,Yy,List.pairwise_filterMap];refine List.Pairwise.imp (λ{a b} s x hx y J=>?_) List.pairwise_lt_range;obtain⟨_,_,rfl⟩:=map_eq_some_iff.mp hx;obtain⟨_,_,rfl⟩:=map_eq_some_iff.mp J;exact s
 have v:∀j q,(j,q)∈live->q<es.size:=λj q h=>by
  obtain⟨h',r,_⟩:=L.own j q ((mem j q).mp h);have:=(X7 r).1
  lia
 have A:(live.map (·.2)).Nodup:=by
  rw[Yt,Yy];refine X3 (λ{a b} M C s f=>?_) (by rw[Yy]at g;exact g);have d:=(mem a.1 a.2).mp M;have N:=(mem b.1 b.2).mp C;rw[<-f]at N;have:=L.one _ _ _ d N
  lia
 have B:(live.map (·.2)).Perm (List.range es.size):=mW A nodup_range λq=>by
  constructor
  .intro f;obtain⟨⟨j,w⟩,d,rfl⟩:=Xa f;exact mem_range.mpr (v j w d)
  .intro f;obtain⟨j,O⟩:=L.all q (E▸mem_range.mp f);exact Xb %[(j,q),(mem j q).mpr O|rfl]
 have fm:∀(l:List Nat),(∀q∈l,q<es.size)->l.filterMap (es[·]?)=l.map (λq=>es.getD q (0,Value.none)):=by
  intro l
  induction l with
  | nil=>intro _;rfl
  | cons q l ih=>
    intro f;have d:=f q Zl;have r:es[q]? =some (es.getD q (0,Value.none)):=by simp[Array.getD,d]
    rw[Zy,r,Yj,ih λy J=>f y (Zj _ J)]
 have Q:((live.map (·.2)).toArray.filterMap (es[·]?)).toList=(live.map (·.2)).map (λq=>es.getD q (0,Value.none)):=by
  rw[Array.toList_filterMap,List.toList_toArray];exact fm _ λq f=>by
   obtain⟨⟨j,w⟩,d,rfl⟩:=Xa f;exact v j w d
 have er:es.toList=(List.range es.size).map (λq=>es.getD q (0,Value.none)):=by
  apply ext_getElem
  .simp
  .intro i d N;have d:=by simpa using d
   simp[Array.getD,d]
 refine%[%[%[k|hp],C,rfl,?_,λj O=>?_,?_|λi j h x hi z=>?_]|?_]
 .intro a b M T s;have:=List.pairwise_iff_getElem.mp g a b (M) (T) s;simpa using this
 .obtain⟨⟨G,q⟩,d,rfl⟩:=Xa O;have:=(Array.getElem?_eq_some_iff.mp ((mem G q).mp d)).1;rw[L.size]at this
  lia
 .rw[<-Za (xs:=Array.filterMap _ _),Q];simp
 .have hi:(live.map (·.1))[i]? =some j:=by simpa using hi
  have z:((live.map (·.2)).toArray.filterMap (es[·]?)).toList[i]? =some (h,x):=by simpa using z
  rw[Q,Yk,Zk]at z;rw[Zk]at hi;cases U:live[i]? with
  | none=>rw[U]at hi;cases hi
  | some p=>
    obtain⟨G,q⟩:=p;rw[U]at hi z;cases hi;have hm:=Z7 U;obtain⟨h',r,n,n1,n2⟩:=L.own _ q ((mem _ q).mp hm);have f:=v _ q hm;have eh:h'=h:=by
     have I:(es.map (·.1)).toList[q]? =some (es[q]).1:=by simp[f]
     rw[I]at r;have e3:es.getD q (0,Value.none)=es[q]:=by simp[Array.getD,f]
     simp only[Function.comp,Option.map_some,e3,Option.some.injEq]at z;rw[z]at r;exact(Z9 r).symm
    subst eh;have wm:∀n,way {mask:=t.mask,place:=(live.map (·.1)).toArray,dummies:= #[],finger:=finger,led:=led,moves:=moves,plain:=plain} h' n=way t h' n:=λn=>pG (t':=t) (by rfl) h' n
    refine%[n,by rw[wm];exact n1|λm Y=>?_];rw[wm];obtain⟨w,H⟩:=(f6 (by rw[L.size];have:=qB t h' m;lia)).mp (n2 m Y);exact Xb %[(way t h' m,w),(mem _ _).mpr H|rfl]
 .rw[Q,er];exact B.map _
end STab
namespace STab
open PySem PySem.SetTable
section
variable{prog:Program}{w:World}{K:Type}[DecidableEq K]{knd:KeyKind prog w K}{A:Around}{E:ZD}{s:Shared}
def EL(knd:KeyKind prog w K)(h:Heap)(es:Array (Int×Value)):Prop:=∀(i:Nat) e,es[i]? =some e->∃r k,e=(tupleKeyHash knd k,Value.ref r)/\IsTupleKey knd h k r
theorem lH(g:IsTupleKey knd s.heap ks r)(h:Q false s):↥A (ofAClassStatement 8 (.ref r)) Q E s:=by
 have l:=g.typeIs;obtain⟨o,c,n,m,_,p,hi⟩:=g;unfold ofAClassStatement;refine Z2 (wpAny_typeOf l (Z2 (Z3 (Z2 (wpAny_seqItems m p (Z2 ?_))))));rw[<-forIn_toList];refine wpAny_forIn_list _ (λrest r s'=>r=(none,())/\s'=s/\∃i,ItemsAre knd i rest) _ ?_ ?_ _ _ %[rfl,rfl,ks|hi]
 .rintro x rest r s' ⟨rfl,rfl,i,d⟩;cases d with
  | @cons u v f j q b=>
    have t:=knd.byValue _ _ q;have e:ofAClassStatement 7 x=pure false:=by
     cases x with
     | ref a=>simp[carriedByValue]at t
     | _=>first|rfl|lia|lia
    refine Z2 ?_;rw[e];exact Z3 (Z3 %[rfl,rfl,f|b])
 .rintro r s' ⟨rfl,rfl,_⟩;exact Z3 h
theorem uJ(d:IsTupleKey knd s.heap ks r):∀(l:ZF),(∀y∈l,∃a c,y=Value.ref a/\IsTupleKey knd s.heap c a)->∀{Q:Bool->Shared->Prop},Q false s->↥A (searchCouldBeSeen (.ref r) l) Q E s:=by
 intro l g Q h;refine Z2 (wpAny_forIn_list _ (λrest x s'=>x=(none,())/\s'=s/\∀y∈rest,∃a c,y=Value.ref a/\IsTupleKey knd s.heap c a) _ ?_ ?_ _ _ %[rfl,rfl|g])
 .rintro y rest x s' ⟨rfl,rfl,e⟩;obtain⟨a,c,rfl,b⟩:=e y Zl;have f:=λy i=>e y (Zj _ i)
  dsimp only
  split
  .exact Z3 %[rfl,rfl|f]
  .exact Z2 (wpAny_eqIsQuiet_tuple d (Z2 (wpAny_eqIsQuiet_tuple b (Z2 (lH d (Z2 (lH b (Z3 %[rfl,rfl|f]))))))))
 .rintro x s' ⟨rfl,rfl,_⟩;exact Z3 h
theorem qC(hu:A.units<cLine)(ho:s.heap.get? a=some o)(hd:o.data= .set es ep t)(W:WF t es)(room:t.place.size<=t.mask)(ae:t.mask<=9000)
 (el:EL knd s.heap es) (hk:IsTupleKey knd s.heap k r)
 (h1:(∃(i:Nat) (g:Addr),es[i]? =some (tupleKeyHash knd k,Value.ref g)/\IsTupleKey knd s.heap k g)->Q (.there none) s)
 (h2:∀m,way t (tupleKeyHash knd k) m∉t.place.toList->(∀q,q<m->way t (tupleKeyHash knd k) q∈t.place.toList)->(∀(i:Nat) g u,es[i]? =some (tupleKeyHash knd u,Value.ref g)->IsTupleKey knd s.heap u g->u≠k)->Q (.free (way t (tupleKeyHash knd k) m) false) s):
 ↥A (setSearch a (.ref r) (tupleKeyHash knd k) true) Q E s:=by
 generalize hh:tupleKeyHash knd k=h at h1 h2
 have hf:t.fits es.size=true:=by
  unfold fits fill;rw[W.dum];simp[W.size];exact W.size▸room
 obtain⟨M,m1,m2,m3⟩:=uF W room h;have me:t.slot (way t h M)= .empty:=by
  rcases jv W.rise W.dum (way t h M)with⟨i,e,_⟩|⟨_,e⟩
  .exact absurd (mem_toList_iff.mpr (Array.mem_of_getElem? e)) m2
  .exact e
 have ag:t.gaveWay=false:=by
  obtain⟨c,hc⟩:=W.pow;have hb:=W.big;have c0:c≠0:=λq=>by rw[q]at hc;lia
  obtain⟨c',rfl⟩:=Nat.exists_eq_succ_of_ne_zero c0;rw[pow_succ]at hc;unfold gaveWay;have:t.mask%2=1:=by lia
  simp[this]
 have N:∀(fuel n:Nat) (st:Option Probe),st.getD (t.probeStart h)=stand t h n->n<=M->M<n+fuel->(∀j,j<n->∀(i:Nat) g u,t.slot (way t h j)= .live i->es[i]? =some (tupleKeyHash knd u,Value.ref g)->IsTupleKey knd s.heap u g->u≠k)->
  ↥A (setSearchFrom a (.ref r) h true fuel st) Q E s:=by
  intro fuel
  induction fuel with
  | zero=>intro n st _ a1 a2;lia
  | succ fuel ih=>
    intro n st ai hn a6 O;unfold setSearchFrom;refine Z2 (wpAny_setState_of ho hd hf ?_);dsimp only;rw[ag];simp only[Zx,if_false];rw[ai]
    generalize aj:SetTable.probe t _ h (stand t h n)=pr
    have l:SetTable.probe.go t (λi=>((es[i]?).map (·.1)).getD 0) h (10*turns t.mask) (stand t h n)=pr:=aj;obtain⟨q,q1,q2,q3,q4⟩:=sj (t:=t) W.dum (hashAt:=λi=>((es[i]?).map (·.1)).getD 0) (h:=h) (10*turns t.mask) n M hn ⋯ me;rcases q4 with⟨I,e2⟩|⟨i,I,e2,e3⟩
    .rw[e2]at l;subst l;have hq:q=M:=by
      rcases Nat.eq_or_lt_of_le q2 with z|z
      .exact z
      .have:=m3 q z;rcases jv W.rise W.dum (way t h q)with⟨i,_,T⟩|⟨z2,_⟩
       .rw[I]at T;cases T
       .exact absurd this z2
     subst hq;dsimp only;refine Z3 (h2 q m2 m3 λi g u p v B=>?_);subst B;rw[hh]at p;have hi:i<es.size:=(Array.getElem?_eq_some_iff.mp p).1;have hp:t.place[i]? =some (t.place[i]'(W.size▸hi)):=by simp
     obtain⟨U,c1,c2⟩:=W.chain i _ h _ hp p;have C:=pF W.rise hp;have al:U<q:=by
      rcases Nat.lt_trichotomy U q with z|z|z
      .exact z
      .rw[z,]at c1;rw[<-c1,me]at C;cases C
      .exact absurd (c2 q z) m2
     rw[<-c1]at C;by_cases Y:U<n
     .exact O U Y i g u C (hh▸p) v rfl
     .obtain⟨G,T,ab⟩:=q3 U ⋯ al;rw[C]at T;cases T;rw[p]at ab;exact ab rfl
    .rw[e3]at l;subst l;obtain⟨x0,p⟩:∃e,es[i]? =some e:=by
      have an:t.place[i]? =some (way t h q):=by
       rcases jv W.rise W.dum (way t h q)with⟨G,p1,H⟩|⟨_,H⟩
       .rw[I]at H;cases H;exact p1
       .rw[I]at H;cases H
      have:=(Array.getElem?_eq_some_iff.mp an).1;exact%[es[i]'(W.size▸this)|by simp[<-W.size,this]]
     obtain⟨g,u,rfl,v⟩:=el i x0 p;have a7:q<M:=Nat.lt_of_le_of_ne q2 λz=>by rw[z,me]at I;cases I
     have J:↥A (do
      let f<-holding [Value.ref g] (eqBool (Value.ref g) (Value.ref r))
      let x<-setState a
      if(true&&f)=true then pure (SetFound.there none)
      else match x.2.snd.sameMemory t.moves t.mask with
       | some same=>
         match if same=true then x.2.snd.slot (way t h q)else Slot.empty with
         | Slot.live G=>
           match x.fst[G]? with
           | some (_,y')=>do
             let b<-isSame y' (Value.ref g)
             let d<-pure (if b=true then some G else none)
             match d with
              | none=>do
                rule "set.search.anew"
                setSearchFrom a (Value.ref r) h true fuel none
              | some G=>
                if f=true then pure (SetFound.there (some G))
                else setSearchFrom a (Value.ref r) h true fuel (some (stand t h (q+1)))
           | none=>do
             let d<-pure none
             match d with
              | none=>do
                rule "set.search.anew"
                setSearchFrom a (Value.ref r) h true fuel none
              | some G=>
                if f=true then pure (SetFound.there (some G))
                else setSearchFrom a (Value.ref r) h true fuel (some (stand t h (q+1)))
         | x=>do
           let d<-pure none
           match d with
            | none=>do
              rule "set.search.anew"
              setSearchFrom a (Value.ref r) h true fuel none
            | some G=>
              if f=true then pure (SetFound.there (some G))
              else setSearchFrom a (Value.ref r) h true fuel (some (stand t h (q+1)))
       | x=>unsupported "set.changed-during-lookup:is-the-new-block-at-the-old-address") Q E s:=by
      refine Z2 (wpAny_holding (wpAny_eqBool_tuple hu v hk (Z2 (wpAny_setState_of ho hd hf ?_))));dsimp only;by_cases B:u=k
      .subst B;rw[Ze rfl];exact Z3 (h1 %[i,g,(by rw[p]at e2;exact e2)▸p|v])
      .rw[Zg B];have sm:t.sameMemory t.moves t.mask=some true:=by unfold sameMemory;rw[if_pos ∅]
       rw[sm];simp only[if_true];rw[I];dsimp only;rw[p];dsimp only;have same:isSame (Value.ref g) (Value.ref g)=pure true:=by
        unfold isSame;simp
       refine Z2 ?_;rw[same];refine Z3 ?_;simp only[if_true];refine Z2 (Z3 ?_);dsimp only;refine ih (q+1) _ rfl ⋯ ⋯ λj hj i2 r2 k2 s2 g2 t2=>?_
       by_cases as:j<n
       .exact O j as i2 r2 k2 s2 g2 t2
       .by_cases a0:j=q
        .subst a0;rw[I]at s2;cases s2;rw[p]at g2;have:g=r2:=by
          have:=Z9 g2;injection this with _ z
          injection z
         subst this;exact(v.inj t2)▸B
        .obtain⟨i3,p1,H⟩:=q3 j ⋯ ⋯;rw[s2]at p1;cases p1;rw[g2]at H;intro z;rw[z]at H;exact H hh
     dsimp only;rw[p];dsimp only;by_cases L:(!t.led)=true
     .rw[if_pos L];refine Z2 (uJ hk _ (λy hy=>?_) ?_)
      .obtain⟨e,a3,rfl⟩:=Xa hy;obtain⟨i2,a4⟩:=Array.getElem?_of_mem ((Array.mem_filter.mp (mem_toList_iff.mp a3)).1);obtain⟨r2,k2,rfl,a5⟩:=el i2 e a4;exact%[r2,k2,rfl|a5]
      .exact J
     .rw[if_neg L];exact J
 exact N 100000 0 none rfl (X1 _) (by unfold turns at m1;lia) (λj hj=>absurd hj (Yv _))
end
end STab
namespace STab
open PySem PySem.SetTable
structure IN (es:Array _) (t:SetTable) (led:Bool):Prop where
 wf:WF t es
 roomy:t.place.size*5<t.mask*3
 small:t.mask<=7\/t.mask+1<=8*es.size
 led:t.led=led
 plain:es.size≠0->t.plain=false
theorem IN.fits{es:Array _}{t:SetTable}{led:Bool}(I:IN es t led):t.fits es.size=true:=by
 unfold SetTable.fits fill;rw[I.wf.dum];have:=I.roomy;simp[I.wf.size];rw[<-I.wf.size]
 lia
theorem IN.fresh(finger moves:Nat)(led:Bool):IN #[] (SetTable.fresh finger moves led) led:=
 %[%[%[3|rfl],Zh _,rfl,λa b c=>absurd c (by simp[SetTable.fresh]),λj d=>by simp[SetTable.fresh]at d,rfl|λi j h x hi=>by simp[SetTable.fresh]at hi],show 0*5<7*3 from by decide,.inl (Zh _),rfl|λq=>absurd rfl q]
section
variable{prog:Program}{w:World}{K:Type}[DecidableEq K]{knd:KeyKind prog w K}{A:Around}{E:ZD}{s:Shared}
theorem relay_w(d:s.heap.get? a=some o)(e:o.data= .set es z t)(i:t.fits es.size=true)(B:es.size<=n)(hw:n<=4000)
 (h:∀c t',c.toList.Perm es.toList->WF t' c->t'.led=t.led->t'.plain=t.plain->n<=t'.mask->t'.mask+1<=2*n\/t'.mask<=7->Q () (s>>>s.heap.update a (Obj.putSet c t'))):
 ↥A (setRelay a n) Q E s:=by
 obtain⟨k,j,f,lt,l⟩:=uI (n:=n) ⋯;have C:8<=2^k:=Y9 (by simp:8<=2^3) (Nat.pow_le_pow_right ∅ j);have g:2^k<=2*n\/2^k=8:=by
  rcases l with q|q
  .exact .inl q
  .exact .inr (by rw[q])
 have m:2^k<=8000:=by rcases g with q|q<;> lia
 let p:SetTable:={t with mask:=2^k-1}
 obtain⟨t',b,r,G,u,v,H,W,P⟩:=laid_ok (t:=p) (k:=k) (by show 2^k-1+1=2^k;lia) (by show 7<=2^k-1;lia) es (by show es.size<=2^k-1;lia) t.finger _ t.led t.plain;have y:t.relaid (es.map (·.1)) n=some (t',b):=by
  unfold relaid;rw[f];exact r
 have sz:(b.filterMap (es[·]?)).size=es.size:=by rw[<-Za,P.length_eq,Za]
 refine Z2 (wpAny_setState_of d e i ?_);dsimp only;rw[f,if_neg (by rw[PySem.sizeLine_eq];lia)];rw[y];refine Z2 ?_;show wpAny _ A (if((b.filterMap _).size != es.size)=true then _ else pure _) _ E s;rw[if_neg (by simp[sz])];exact Z3 (wpAny_storeSet_of d e (h _ t' P W u v ⋯ (by rcases g with q|q<;> lia)) (by rw[sz,PySem.sizeLine_eq];lia))
theorem zG(d:s.heap.get? a=some o)(e:o.data= .set es i t)(f:t.fits es.size=true)(j:es.size<=1000)(m:es.size≠0)(c:t.plain=false)
 (h:∀b t',b.toList.Perm es.toList->IN b t' t.led->t'.plain=false->Q () (s>>>s.heap.update a (Obj.putSet b t'))):
 ↥A (setRelay a (grown es.size)) Q E s:=by
 have g:grown es.size=es.size*4:=by unfold grown;rw[if_neg ⋯]
 rw[g];refine relay_w d e f ⋯ ⋯ λb t' P W l p n m2=>?_
 have sz:b.size=es.size:=by rw[<-Za,P.length_eq,Za]
 exact h b t' P %[W,by rw[W.size,sz];lia,⋯,l|λ_=>p▸c] (p▸c)
theorem wQ{led:Bool}(J:A.units<cLine)(n:s.heap.get? a=some o)(l:o.data= .set es ep t)(I:IN es t led)(hn:es.size+1<=1000)
 (el:EL knd s.heap es) (z:IsTupleKey knd s.heap k r) (hv:∀(s':Shared) (L:Bool->Shared->Prop),IsTupleKey knd s'.heap k r->L false s'->↥A (hashByValue 8 (.ref r)) L E s')
 (h1:(∃(i:Nat) (p:Addr),es[i]? =some (tupleKeyHash knd k,Value.ref p)/\IsTupleKey knd s.heap k p)->Q false {s with toks:=s.toks+(k.length+1)})
 (M:(∀(i:Nat) (p:Addr) (B:List K),es[i]? =some (tupleKeyHash knd B,Value.ref p)->IsTupleKey knd s.heap B p->B≠k)->∀f t' C h',h'.get? a=some {o with data:= .set f C t'}->SameBut a s.heap h'->f.toList.Perm (es.toList++[(tupleKeyHash knd k,Value.ref r)])->IN f t' led->Q true {s with heap:=h',toks:=s.toks+(k.length+1)}):
 ↥A (setAdd a (.ref r)) Q E s:=by
 unfold setAdd;refine wpAny_holding (Z2 (wpAny_pyHash_tuple J z ?_));unfold setAddHashed;refine wpAny_holding ?_;unfold setAddHashedIn;refine Z2 (wpAny_setState_of (s:={s with toks:=s.toks+(k.length+1)}) n l I.fits ?_);dsimp only;have ns:byScan (Value.ref r) es=false:=by unfold byScan;simp[Value.scannable]
 rw[ns];simp only[Zx,if_false];have rm:=I.roomy;refine Z2 (qC (s:={s with toks:=s.toks+(k.length+1)}) J n l I.wf ⋯ (by rcases I.small with q|q<;> lia) el z (λq=>?_) λm N m2 O=>?_)
 .exact Z3 (h1 q)
 .dsimp only;refine Z2 (wpAny_setState_of (s:={s with toks:=s.toks+(k.length+1)}) n l I.fits ?_);dsimp only;have u:=I.wf;obtain⟨p1,T,U,p4,p5,p6,Y⟩:=u.put (x:=Value.ref r) N m2 t.led false;obtain⟨_,_,_,_,_,_,Wq⟩:=u.put (x:=Value.ref r) N m2 (t.put (way t (tupleKeyHash knd k) m)).1.led (t.put (way t (tupleKeyHash knd k) m)).1.plain;have v:(t.put (way t (tupleKeyHash knd k) m)).2<=es.size:=by
   rw[p1,<-u.size];exact(ju u.rise _).1
  have d:(insertAt es (t.put (way t (tupleKeyHash knd k) m)).2 (tupleKeyHash knd k,Value.ref r)).size=es.size+1:=iH _ _ _ v;have g:(insertAt es (t.put (way t (tupleKeyHash knd k) m)).2 (tupleKeyHash knd k,Value.ref r)).toList.Perm (es.toList++[(tupleKeyHash knd k,Value.ref r)]):=by
   rw[jV _ _ _ v];have q:=X0 (t.put (way t (tupleKeyHash knd k) m)).2 es.toList;refine List.Perm.trans List.perm_middle ?_;rw[q];exact List.perm_append_comm (l₁:=[_])
  generalize ab:insertAt es _ _=c at Y Wq d g
  have e:∀b:SetTable,WF b c->b.mask=t.mask->b.place.size=t.place.size+1->b.led=led->b.plain=false->
   ↥A (do storeSet a c b;if(!false&&b.tooFull)=true then do setRelay a (grown (es.size+1));pure true else pure true) Q E {s with toks:=s.toks+(k.length+1)}:=λb W2 e1 e2 e3 e4=>by
   have g1:=by
    have q:=get?_update_self (Obj.putSet c b) n (by rw[putSet_of c b l];rfl);rwa[putSet_of c b l]at q
   have b1:=SameBut.update s.heap a (Obj.putSet c b);refine Z2 (wpAny_storeSet_of n l ?_ (d▸Y9 hn (by decide)));have G:b.tooFull=true↔b.mask*3<=b.place.size*5:=by
    unfold tooFull fill;rw[W2.dum];simp
   by_cases hf:b.tooFull=true
   .rw[if_pos (by simp[hf])];have y:b.fits c.size=true:=by
     unfold SetTable.fits fill;rw[W2.dum];simp[W2.size];exact W2.size▸(by rw[e1,e2];have:=u.big;lia)
    rw[<-d];refine Z2 (zG g1 rfl y ⋯ ⋯ e4 λh H P3 I3 _=>Z3 ?_);have g2:=by
     have q:=get?_update_self (Obj.putSet h H) g1 (by rfl);rwa[putSet_of h H rfl]at q
    exact M O h H _ _ g2 (b1.trans (SameBut.update _ a _)) (P3.trans g) (by rw[e3]at I3;exact I3)
   .rw[if_neg (by simp[hf])];refine Z3 (M O c b _ _ g1 b1 g %[W2,⋯,?_,e3|λ_=>e4]);rw[e1,d];rcases I.small with q|q
    .exact .inl q
    .exact .inr ⋯
  by_cases j:(t.put (way t (tupleKeyHash knd k) m)).1.plain=true
  .rw[if_pos j];exact Z2 (hv _ _ z (e _ Y T U I.led rfl))
  .rw[if_neg j];exact e _ Wq T U (p4.trans I.led) (by simpa using j)
end
end STab
namespace L2
open PySem PySem.Spec PyProof.Rows STab
noncomputable def gP{a:Type}[DecidableEq a](ps:List (Addr×a))(p:Addr×a):List (Addr×a):=if p.2∈ps.map (·.2)then ps else ps++[p]
noncomputable def be{a:Type}[DecidableEq a](l:List (Addr×a)):List (Addr×a):=l.foldl gP []
section
variable{κ:Type}[DecidableEq κ]
theorem zH{ps:List _}{p q:Addr×κ}(h:q∈gP ps p):q∈ps\/q=p:=by
 unfold gP at h
 split at h
 .exact .inl h
 simp_all
theorem wR{ps:List (Addr×κ)}{p:Addr×κ}{k:κ}:k∈(gP ps p).map (·.2)↔k∈ps.map (·.2)\/k=p.2:=by
 unfold gP;by_cases h:p.2∈ps.map (·.2)
 .rw[if_pos h];exact%[.inl|λq=>q.elim id λe=>e▸h]
 .rw[if_neg h,Zc,Yl];simp
theorem uK{ps:List (Addr×κ)}{p:Addr×κ}(h:(ps.map (·.2)).Nodup):((gP ps p).map (·.2)).Nodup:=by
 unfold gP
 split
 .exact h
 .rename_i a
  rw[Zc];exact l8 h a
theorem vL:∀(l ps:List (Addr×κ)),(ps.map (·.2)).Nodup->((l.foldl gP ps).map (·.2)).Nodup/\(∀k,k∈(l.foldl gP ps).map (·.2)↔k∈ps.map (·.2)\/k∈l.map (·.2))/\(∀q∈l.foldl gP ps,q∈ps\/q∈l)
 |[],ps,h=>%[h,λk=>by simp|λq a=> .inl a]
 | p::l,ps,h=>by
   obtain⟨b,c,d⟩:=vL l _ (uK h);rw[foldl_cons];refine%[b,λk=>?_|λq a=>?_]
   .rw[c,wR,Yj,Yo]
    grind
   .rcases d q a with z|z
    .rcases zH z with z|z
     .exact .inl z
     .exact .inr (z▸Zl)
    .exact .inr (Zj _ z)
theorem dI(l:List (Addr×κ)):((be l).map (·.2)).Nodup:=(vL l [] Yu).1
theorem gQ(l:List (Addr×κ))(k:κ):k∈(be l).map (·.2)↔k∈l.map (·.2):=by
 have:=(vL l [] Yu).2.1 k;simpa [be]using this
theorem bo(l:List (Addr×κ)):∀q∈be l,q∈l:=λq a=>by
 rcases(vL l [] Yu).2.2 q a with z|z
 .cases z
 .exact z
theorem qD(val:Nat->Addr×κ)(i:Nat):be ((List.range (i+1)).map val)=gP (be ((List.range i).map val)) (val i):=by
 unfold be;rw[range_succ,Zc,List.foldl_append];rfl
end
section
variable{prog:Program}{w:World}{κ:Type}[DecidableEq κ]{knd:PySem.KeyKind prog w κ}{A:Around}{E:ZD}{s:Shared}{a:Addr}
def mX(w:World)(knd:PySem.KeyKind prog w κ)(a:Addr)(ps:List (Addr×List κ))(h:Heap):Prop:=
 ∃o es b t,h.get? a=some o/\o.ExactSet/\o.data= .set es b t/\IN es t (!aR w)/\es.toList.Perm (ps.map λp=>(tupleKeyHash knd p.2,Value.ref p.1))
theorem mX.keep(S:mX w knd a ps h)(k:∀o,h.get? a=some o->h'.get? a=some o):mX w knd a ps h':=by
 obtain⟨o,es,b,t,c,r⟩:=S;exact%[o,es,b,t,k o c|r]
theorem l9(x:IsTupleKey knd h k r)(q:∀o,h.get? r=some o->h'.get? r=some o):IsTupleKey knd h' k r:=by
 obtain⟨o,b,n,c,z⟩:=x;exact%[o,b,n,q o c|z]
theorem zI(u:A.units<cLine)(v:mX w knd a ps s.heap)(tk:∀q∈ps,IsTupleKey knd s.heap q.2 q.1)(y:IsTupleKey knd s.heap p.2 p.1)(room:ps.length+1<=1000)
 (B:∀(s':Shared) (l:Bool->Shared->Prop),IsTupleKey knd s'.heap p.2 p.1->l false s'->↥A (hashByValue 8 (.ref p.1)) l E s')
 (m:∀h' b tk,SameBut a s.heap h'->mX w knd a (gP ps p) h'->s.toks<=tk->Q b {s with heap:=h',toks:=tk}):↥A (setAdd a (.ref p.1)) Q E s:=by
 obtain⟨o,es,C,t,n,f,r,I,P⟩:=v;have Y:=by
  have:=P.length_eq;rw[Z5,Za]at this;exact this
 have mem:∀i e,es[i]? =some e->∃q∈ps,e=(tupleKeyHash knd q.2,Value.ref q.1):=λi e g=>by
  have:=mem_toList_iff.mpr (Array.mem_of_getElem? g);obtain⟨q,c,rfl⟩:=Xa (P.mem_iff.mp this);exact%[q,c|rfl]
 have G:EL knd s.heap es:=λi e g=>by
  obtain⟨q,c,rfl⟩:=mem i e g;exact%[q.1,q.2,rfl|tk q c]
 refine wQ u n r I ⋯ G y B (λ⟨i,H,e,J⟩=>?_) λd h t' j h' g' L M N=>?_
 .obtain⟨q,c,O⟩:=mem i _ e;have T:H=q.1:=by injection O with _ z;injection z
  subst T;refine m s.heap false _ (SameBut.refl a s.heap) ?_ (le_add_right _ _);unfold gP;rw[if_pos (Xb %[q,c|(J.inj (tk q c)).symm])];exact%[o,es,C,t,n,f,r,I|P]
 .refine m h' true _ L ?_ (le_add_right _ _);unfold gP;rw[if_neg]
  .refine%[_,h,j,t',g',f,rfl,N|M.trans ?_];rw[Zc];exact P.append_right _
  .intro U;obtain⟨q,c,e⟩:=Xa U;have:=P.mem_iff.mpr (Xb %[q,c|rfl]);obtain⟨i,hi⟩:=X2 this;exact d i q.1 q.2 (by simpa using hi) (tk q c) e
end
section
variable{prog:Program}{w:World}{κ:Type}[DecidableEq κ]{knd:PySem.KeyKind prog w κ}{A:Around}{R:Result->Shared->Prop}{I:Addr}{fp wr:List Addr}{G:Array GenState->Array GenState->Prop}{n:Nat}{P:Nat->Value->Prop}{St:Nat->Shared->Prop}
theorem oa(W:WalksS prog w A.in1 I fp wr G n P St)(S:Addr)(l:S∉fp)(O:A.in1.units<cLine)(val:Nat->Addr×List κ)(r:∀i v,i<n->P i v->v= .ref (val i).1)(U:List (List κ))(hU:U.length<=999)(B:∀i,i<n->(val i).2∈U)(c:∀i,i<n->(val i).1≠S/\(val i).1∉wr)
 (Q:∀i,i<n->∀(s':Shared) (z:Bool->Shared->Prop) (T:ZD),IsTupleKey knd s'.heap (val i).2 (val i).1->z false s'->↥A.in1 (hashByValue 8 (.ref (val i).1)) z T s'):
 ∀(k i:Nat) (s:Shared),n-i=k->i<=n->St i s->mX w knd S (be ((List.range i).map val)) s.heap->(∀j,j<n->IsTupleKey knd s.heap (val j).2 (val j).1)->
  (∀s',Moved (S::wr) G s s'->mX w knd S (be ((List.range n).map val)) s'.heap->R (.ok (.ret .none)) s')->codeAny (model prog w) A (.builtin "set.update.loop" %[[.ref S,.ref I]|[]]) R s:=by
 have t:S∉wr:=λh=>l (W.sub _ h)
 have more:∀b∈wr,b∈S::wr:=λb u=>Zj _ u
 intro k
 induction k with
 | zero=>
   intro i s C hi st E tk fin;have e:i=n:=by lia
   subst e;refine codeAny_builtin F.entry_set_update_loop ?_;rw[Around.under_plainId F.plain_set_update_loop _];show wpAny _ A.in1 (pyNext (.ref I)>>= _) _ _ s;refine Z2 (W.done s _ _ st λd g=>?_);show wpAny _ A.in1 (ret Value.none) _ _ d;exact Z3 (fin d (g.mono more) (E.keep λo e=>g.heap S o t e))
 | succ k Y=>
   intro i s C hi st E tk fin;have lt:i<n:=by lia
   refine codeAny_builtin F.entry_set_update_loop ?_;rw[Around.under_plainId F.plain_set_update_loop _];show wpAny _ A.in1 (pyNext (.ref I)>>= _) _ _ s;refine Z2 (W.item i s _ _ lt st λv d pv H g=>?_);obtain rfl:=r i v lt pv;have f:∀j,j<n->IsTupleKey knd d.heap (val j).2 (val j).1:=λj a=>l9 (tk j a) λo e=>g.heap _ o (c j a).2 e
   have J:∀q∈be ((List.range i).map val),IsTupleKey knd d.heap q.2 q.1:=λq hq=>by
    obtain⟨j,a,rfl⟩:=Xa (bo _ q hq);exact f j (by have:=mem_range.mp a;lia)
   have room:(be ((List.range i).map val)).length+1<=1000:=by
    have q:=nodup_sub (dI ((List.range i).map val)) (m:=U) λk C=>by
     obtain⟨p,hp,rfl⟩:=Xa ((gQ _ k).mp C);obtain⟨j,a,rfl⟩:=Xa hp;exact B j (by have:=mem_range.mp a;lia)
    rw[Z5]at q
    lia
   refine Z2 (wpAny_holding (zI (p:=val i) O (E.keep (h':=d.heap) λo e=>g.heap S o t e) J (f i lt) room (λs' z=>Q i lt s' z _) λh2 b ab L M y=>Z3 %[plainId_quiet F.plain_set_update_loop _|Y (i+1) _ ⋯ lt (W.frame _ d _ _ H y λb u o e=>?_) (by rw[qD];exact M) (λj a=>l9 (f j a) λo e=>(L.2 _ (c j a).1)▸e) λs3 m3 N=>?_]))
   .rw[L.2 b (λq:b=S=>l (q▸u))];exact e
   .refine fin s3 (Moved.trans W.gtrans ((g.mono more).then_heap y λb o u e=>?_) m3) N;rw[L.2 b (λq:b=S=>u (q▸Zl))];exact e
end
section
variable{prog:Program}{w:World}{κ:Type}[DecidableEq κ]{knd:PySem.KeyKind prog w κ}{A:Around}{E:ZD}{s:Shared}
theorem og(hh:A.handled=none)(hu:A.units+16<cLine)(hl:s.heap.IsList l a)(hi:a.toList=ps.map λp=>Value.ref p.1)(tk:∀p∈ps,IsTupleKey knd s.heap p.2 p.1)(U:List (List κ))(hU:U.length<=999)(ab:∀p∈ps,p.2∈U)
 (hv:∀p∈ps,∀(B:Around) (s':Shared) (O:Bool->Shared->Prop) (E':ZD),IsTupleKey knd s'.heap p.2 p.1->O false s'->↥B (hashByValue 8 (.ref p.1)) O E' s')
 (hQ:∀(h':Heap) (tk:Nat),mX w knd ⇑s (be ps) h'->(∀b o,s.heap.get? b=some o->h'.get? b=some o)->Q (.ref ⇑s) {s with heap:=h',toks:=tk}):
 ↥A (call (.type "set") [.ref l]) Q E s:=by
 obtain⟨c,tl,a3⟩:=called_set.mro;have ae:=called_set.made;have a4:=called_set.sub;refine wpAny_call (codeAny_of_tree ?_);show wpAny _ _ (callAny (.type "set") _) _ _ _;refine Z3 %[Code.quiet_builtin _ (by decide +kernel)|codeAny_builtin F.entry_type_call ?_];rw[Around.under_plain (weight_type_call_type "set" [.ref l] []) rfl];have a6:=called_set.notType;have a7:=called_set.canCreate;have a8:=PySem.F.typeCall_set_1 (.ref l)
 repeat any_goals first|assumption|wp_step
 refine codeAny_mono (rV (.ref l) (E:=E) (Q₁:=λobj q=>obj= .ref ⇑s/\q=(s>>>s.heap.push (aS w))) %[rfl|rfl]) λr q C=>?_
 cases r with
 | error e=>exact C
 | ok fl=>
   cases fl with
   | ret obj=>
     obtain⟨rfl,rfl⟩:=C;have gS:(s.heap.push (aS w)).get? ⇑s=some (aS w):=Zi _ rfl;have tS:Shared.TypeIs (s>>>s.heap.push (aS w)) (.ref ⇑s) "set":=%[_,gS|rfl]
     have a9:=called_set.init.lookup;have bb:=called_set.init.bind (.ref ⇑s)
     repeat any_goals first|assumption|wp_step
     refine codeAny_mono (codeAny_call_builtin (R:=wants (λr t=>r= .none/\∃h' tk,t={s with heap:=h',toks:=tk}/\mX w knd ⇑s (be ps) h'/\(∀b o,s.heap.get? b=some o->h'.get? b=some o)) E) called_set.init.plain F.entry_set_init (check_set_init_1 tS ?_)) λG t f=>?_
     .obtain⟨ol,gl,cl,nl,dl⟩:=hl;obtain⟨a5,y,ag,m⟩:=ol;simp only at cl dl;subst cl;subst dl;have ai:(s.heap.push (aS w)).get? l=some {cls:= .type "list",dict:=y,data:= .seq a nl,slots:=m}:=Z6 _ gl;have bf:=PySem.F.sub_list_set;have bl:=PySem.F.sub_list_frozenset;have bm:(Value.type "list"==Value.type "dict")=false:=by decide
      have H:(s.heap.push (aS w)).IsList l a:=%[_,ai,rfl,nl|rfl]
      unfold Builtin.«set.__init__»;unfold noKeywords;unfold Builtin.Frozenset.updateFrom
      generalize aj:pyIter=PI
      wp_walk
      subst aj;refine wpAny_pyIter_list H (Z2 (wpAny_runValue ?_));have I:l<⇑s:=Zt gl;have h3:A.in1.in1.in1.handled=none:=by simp[hh]
      have T:(s.heap.push (aS w)).objs.size=⇑s+1:=Zp ..;have al:l≠(s.heap.push (aS w)).objs.size:=by rw[T];exact Zr (Yg I)
      have an:⇑s∉[(s.heap.push (aS w)).objs.size,l]:=by
       rw[T];simp only[Yo,Yw,or_false,not_or];exact%[Zr (Yh _)|Yr I]
      have J:a.size=ps.length:=by rw[<-Za,hi,Z5]
      have as:A.in1.in1.in1.units<cLine:=by simp only[Around.in1];lia
      have g:∀i,i<a.size->∃p∈ps,ps[i]? =some p/\ps.getD i (0,[])=p:=λi h=>by
       have h':i<ps.length:=by lia
       exact%[ps[i],Y7 h',by simp[h']|by simp[Zb,h']]
      refine oa (knd:=knd) ((Walks.list h3 _ l al a).toS) ⇑s an as (λi=>ps.getD i (0,[])) (λi v d a0=>?_) U hU (λi d=>?_) (λi d=>?_) (λi d=>?_) (a.size-0) 0 _ ⋯ (X1 _)
       %[%[_,Zi _ rfl,rfl|rfl]|H.push _] %[_,#[],0,_,Z6 _ gS,%[rfl,rfl|rfl],rfl,IN.fresh 0 0 _|List.Perm.refl _] (λj d=>?_) ?_
      .obtain⟨p,u,L,n⟩:=g i d;have:a.toList[i]? =some v:=by rw[Y6];exact a0
       rw[hi,Zk,L]at this;show v= .ref (ps.getD i (0,[])).1;rw[n];exact(Z9 this).symm
      .obtain⟨p,u,L,n⟩:=g i d;show(ps.getD i (0,[])).2∈U;rw[n];exact ab p u
      .obtain⟨p,u,L,n⟩:=g i d;obtain⟨po,_,_,pg,_⟩:=tk p u;have M:=Zt pg;show(ps.getD i (0,[])).1≠_/\(ps.getD i (0,[])).1∉_;rw[n];refine%[Zr M|?_];simp only[Yo,Yw,or_false,T];exact Zr (Yg M)
      .obtain⟨p,u,L,n⟩:=g i d;intro s' O E';show IsTupleKey knd s'.heap (ps.getD i (0,[])).2 (ps.getD i (0,[])).1->_->wpAny _ _ (hashByValue 8 (.ref (ps.getD i (0,[])).1)) _ _ _;rw[n];exact hv p u _ s' O E'
      .obtain⟨p,u,L,n⟩:=g j d;show IsTupleKey knd _ (ps.getD j (0,[])).2 (ps.getD j (0,[])).1;rw[n];exact l9 (tk p u) λo e=>Z6 _ (Z6 _ e)
      intro s3 Y S3;have C:(List.range a.size).map (λi=>ps.getD i (0,[]))=ps:=by
       rw[J];apply ext_getElem
       .simp
       .intro i h1 h2;simp[Zb,h2]
      rw[C]at S3;obtain⟨h',g',d',a1,a2⟩:=s3;have eg:g'=s.gens:=Y.gens;have ed:d'=s.drawn:=Y.drawn;have eo:a2=s.os:=Y.os;subst eg;subst ed;subst eo;refine Z3 ?_;show wpAny _ _ (ret Value.none) _ _ _;refine Z3 %[rfl,h',a1,rfl,S3|λb o e=>?_];have N:=Zt e;refine Y.heap b o ?_ (Z6 _ (Z6 _ e));simp only[Yo,Yw,or_false,not_or,T];exact%[Zr N|Zr (Yg N)]
     .cases G with
      | error e=>exact f
      | ok z=>
        cases z with
        | ret r=>
          obtain⟨rfl,h',tk,rfl,S3,k3⟩:=f
          repeat any_goals first|assumption|wp_step
          exact hQ _ _ S3 k3
        | _=>exact f.elim
   | _=>exact C.elim
end
open PySem PySem.Spec PyProof.Rows
section
variable{prog:Program}{w:World}{A:Around}{s:Shared}
theorem fR{Nv:Value->Nat}{P:Fin->Shared->Prop}(C:s.heap.get? a=some (seqObj "list" vs.toArray n))(z:vs.length<64)
 (f:∀l:Heap,(∀b o,b≠a->s.heap.get? b=some o->l.get? b=some o)->2<=vs.length->∀Q:SortKind->Shared->Prop,Q kd (s>>>l)->↥A (keyKind' vs.toArray) Q E (s>>>l))
 (H:∀l:Heap,(∀b o,b≠a->s.heap.get? b=some o->l.get? b=some o)->SBig.Cmp prog w A (λs'=>s'=(s>>>l)) kd (λx=>x.1∈vs) (λx=>Nv x.1))
 (h:∀g:ZF,g.Perm vs->g.Pairwise (λx y=>Nv x<=Nv y)->P (.done (.ret .none)) (s>>>sortedHeap s.heap a vs g.toArray)):
 ↥A (Builtin.«list.sort» %[[.ref a]|[]]) P E s:=by
 rw[list_sort_plain];have L:a<⇑s:=Zt C;have j:vs.length<=sizeLine:=Y9 (le_of_lt z) (by decide);refine Z2 (listItems_at C rfl ?_);refine Z2 (listUpdate_at C rfl ?_ (j));obtain⟨I,B⟩:∃I,(s.heap.update a (Obj.mapSeq λ_=> #[])).get? a=some (seqObj "list" #[] I):=%[_|get?_update_seq C (λ_=> #[])]
 refine Z2 (seqEpoch_at B rfl ?_);refine Z2 (wpAny_newTuple ?_ (j));refine Z2 (wpAny_newList ?_);refine wpAny_holding ?_;have keep:∀b o,b≠a->s.heap.get? b=some o->(((s.heap.update a (Obj.mapSeq λ_=> #[])).push (seqObj "tuple" vs.toArray 0)).push (seqObj "list" #[] 0)).get? b=some o:=λb o O e=>
  Z6 _ (Z6 _ ((get?_update_other _ _ (Ne.symm O)).trans e))
 have d:(((s.heap.update a (Obj.mapSeq λ_=> #[])).push (seqObj "tuple" vs.toArray 0)).push (seqObj "list" #[] 0)).get? a=some (seqObj "list" #[] I):=by
  rw[Heap.get?_push_ne _ _ _ (by rw[size_push',Heap.size_update];exact Zr (Yg L)),Heap.get?_push_ne _ _ _ (by rw[Heap.size_update];exact Zr L)];exact B
 have f:=f _ keep;have H:=H _ keep;show ↥A _ P E {s with heap:=((s.heap.update a (Obj.mapSeq λ_=> #[])).push (seqObj "tuple" vs.toArray 0)).push (seqObj "list" #[] 0)};dsimp only;have J:vs.toArray.size=vs.length:=by simp
 have m:(vs.toArray.zip vs.toArray).toList=vs.map λv=>(v,v):=by
  rw[Array.toList_zip,List.toList_toArray];apply ext_getElem
  .simp
  .intro i h1 p;simp
 have fin:∀c:SortSt,(arrOf c).toList.Perm (vs.map λv=>(v,v))->SBig.Srt (λx=>Nv x.1) (arrOf c).toList->P (.done (.ret .none)) (s>>>(sortedHeap s.heap a vs ((arrOf c).map (·.2)))):=by
  intro c t G;have M:∀x∈(arrOf c).toList,x.1=x.2:=λx u=>by
   obtain⟨v,_,rfl⟩:=Xa (t.mem_iff.mp u);rfl
  have e:(arrOf c).map (·.2)=((arrOf c).toList.map (·.2)).toArray:=by
   apply Array.ext';simp
  rw[e];refine h _ ?_ ?_
  .have:=t.map (·.2);rwa[Yk,show((λx:Keyed=>x.2) ∘ λv:Value=>(v,v))=id from rfl,map_id]at this
  .rw[Yy];exact X3 (λ{x y} u T q=>by rw[<-M x u,<-M y T];exact q) G
 by_cases p:vs.toArray.size<2
 .rw[if_pos p,if_pos p];refine Z2 (Z3 ?_);rw[StateT.run_pure];refine Z2 (Z3 ?_);dsimp only;refine Z2 (seqEpoch_at d rfl (Z2 (listUpdate_at d rfl ?_ (hsz2:=by rw[size_map];show(pairsOf vs).size<=_;rw[pairsOf_size,sizeLine_eq];lia))));simp only[bne_self_eq_false,Zx,if_false];refine Z3 (fin _ (by rw[m]) ?_);rw[m]
  match vs,J,p with
  |[],_,_=>exact List.Pairwise.nil
  |[v],_,_=>exact List.pairwise_singleton _ _
  | v1::v2::r,h3,U=>simp at U;lia
 .rw[if_neg p,if_neg p];refine Z2 (f ⋯ _ ?_);refine Z2 (wpAny_mono (SBig.sc_sortFew (D:=λx=>x.1∈vs) (st:=SortSt.mk' kd (vs.toArray.zip vs.toArray) #[] 7 none) H (λx u=>?_) ?_ ?_ rfl rfl
   (Q:=λ_ c=>(arrOf c).toList.Perm (vs.map λv=>(v,v))/\failedOf c=none/\SBig.Srt (λx=>Nv x.1) (arrOf c).toList) (λc Y a2 a3=>%[?_,a3|a2]) _ rfl) ?_ λ_ _ e=>e.elim)
  .rw[m]at u;obtain⟨v,hv,rfl⟩:=Xa u;exact hv
  .rw[<-Za,m,Z5]
   lia
  .show(vs.toArray.zip vs.toArray).size<64;rw[<-Za,m,Z5];exact z
  .rwa[m]at Y
  .rintro⟨⟨⟩,c⟩ s' ⟨rfl,t,N,G⟩;dsimp only at t N G ⊢;refine Z2 (seqEpoch_at d rfl (Z2 (listUpdate_at d rfl ?_ (hsz2:=?_))))
   .rw[N];simp only[bne_self_eq_false,Zx,if_false];exact Z3 (fin c t G)
   .rw[size_map,<-Za,t.length_eq,Z5];exact Nat.le_succ_of_le j
end
noncomputable def bc(x y:Str):Bool:=decide (x.cps.toList<y.cps.toList)
noncomputable def c8:ZB->ZB->Bool
 |[],[]=>false
 |[],_::_=>true
 | _::_,[]=>false
 | x::xs,y::ys=>if x=y then c8 xs ys else bc x y
theorem fH(x:Str):bc x x=false:=Zg (List.lt_irrefl _)
theorem Eu{x y:Str}(h:x.cps.toList=y.cps.toList):x=y:=by
 obtain⟨⟨l⟩⟩:=x
 simp_all
theorem f9(a:bc x y=true)(b:bc y z=true):bc x z=true:=Ze (List.lt_trans (Zn a) (Zn b))
theorem gc{x y:Str}(h:bc x y=false)(a:x≠y):bc y x=true:=by
 exact Ze (Classical.byContradiction λb=>a (Eu (List.le_antisymm b (of_decide_eq_false h))))
theorem vM:∀x,c8 x x=false
 |[]=>rfl
 | x::xs=>by rw[c8,if_pos rfl];exact vM xs
theorem iX:∀{x y z:ZB},c8 x y=true->c8 y z=true->c8 x z=true
 |[],[],z,b,a=>by cases b
 |[],y::ys,[],b,a=>by cases a
 |[],y::ys,z::zs,b,a=>rfl
 | x::xs,[],z,b,a=>by cases b
 | x::xs,y::ys,[],b,a=>by cases a
 | x::xs,y::ys,z::zs,b,a=>by
   rw[c8]at b a ⊢;by_cases d:x=y
   .rw[if_pos d]at b;subst d;by_cases c:x=z
    .rw[if_pos c]at a ⊢;exact iX b a
    .rw[if_neg c]at a ⊢;exact a
   .rw[if_neg d]at b;by_cases c:y=z
    .rw[if_pos c]at a;subst c;rw[if_neg d];exact b
    .rw[if_neg c]at a;have f:=f9 b a;rw[if_neg (λe=>by rw[e,fH]at f;cases f)];exact f
theorem kJ:∀{x y:ZB},c8 x y=false->x≠y->c8 y x=true
 |[],[],a,c=>absurd rfl c
 |[],y::ys,a,c=>by cases a
 | x::xs,[],a,c=>rfl
 | x::xs,y::ys,a,c=>by
   rw[c8]at a ⊢;by_cases b:x=y
   .rw[if_pos b]at a;rw[if_pos b.symm];exact kJ a λe=>c (by rw[b,e])
   .rw[if_neg b]at a;rw[if_neg (Ne.symm b)];exact gc a b
noncomputable def eA(ks:List ZB)(k:ZB):Nat:=ks.countP λu=>c8 u k
theorem iY(b:x∈ks):c8 x y=decide (eA ks x<eA ks y):=by
 have up:∀(l:List ZB) p q,(∀u∈l,p u=true->q u=true)->l.countP p<=l.countP q:=λl p q h=>List.countP_mono_left h
 cases h:c8 x y with
 | true=>
   symm
   refine Ze ?_;have c:∀l:List _,x∈l->l.countP (λu=>c8 u x)<l.countP (λu=>c8 u y):=by
    intro l
    induction l with
    | nil=>simp
    | cons u l d=>
      intro b;rw[countP_cons,countP_cons];have f:=up l (λu=>c8 u x) _ λu _ a=>iX a h
      rcases mem_cons.mp b with e|e
      .subst e;rw[if_neg (by rw[vM];simp),if_pos h]
       lia
      .by_cases a:c8 u x=true
       .rw[if_pos a,if_pos (iX a h)]
        lia
       .rw[if_neg a]
        split<;> lia
   exact c ks b
 | false=>
   symm
   refine Zg (Nat.not_lt.mpr (up ks _ _ λu _ a=>?_));by_cases e:x=y
   .exact e▸a
   .exact iX a (kJ h e)
section
variable{prog:Program}{w:World}{A:Around}{s:Shared}{E:ZD}
abbrev wS(prog:Program)(w:World)(h:Heap)(zs:ZB)(r:Addr):Prop:=IsTupleKey (aM prog w) h (zs.map Sum.inr) r
theorem gi:∀{zs:ZB} {vs:ZF},ItemsAre (aM prog w) (zs.map Sum.inr) vs->StrsAre vs zs
 |[],_,h=>by cases h;exact .nil
 | z::zs,_,h=>by
   cases h with
   | cons a d=>
     have a:jf (Sum.inr z) _=true:=a;rcases aU a with⟨i,t,b,c⟩|⟨y,t,b,c⟩
     .cases b
     .cases b;subst c;exact .cons z t (gi d)
theorem zJ:∀(x y:ZB) (vs us:ZF) (i:Nat),StrsAre vs x->StrsAre us y->(x.length=y.length)->fin=false->Q (c8 x y) s->PySem.W.KatLex prog w A b fin Q (vs.zip us) i s
 |[],[],_,_,i,.nil,.nil,_,a,h=>a▸h
 | x::xs,y::ys,_,_,i,.cons _ t c,.cons _ u d,f,a,h=>by
   rw[List.zip_cons_cons];refine kat_cons (eqBool_str ?_);rw[c8]at h;by_cases e:x=y
   .subst e;rw[if_pos rfl]at h;rw[beq_self_eq_true];exact kat_yes (zJ xs ys _ _ _ c d (by simpa using f) a h)
   .rw[if_neg e]at h;rw[beq_eq_false_iff_ne.mpr e];refine kat_no ?_;cases g:(b&&i==0)with
    | true=>exact oneLt_str h
    | false=>exact PySem.W.kat_one _ _ (lt_str h)
theorem BM(d:wS prog w s.heap x r)(e:wS prog w s.heap y q)(f:x.length=y.length)(h:Q (c8 x y) s):↥A (keyLt' (tuples' b) (.ref r) (.ref q)) Q E s:=by
 obtain⟨o,xs,nx,g,_,i,j⟩:=d;obtain⟨p,ys,t,l,_,m,n⟩:=e;have a:=gi j;have c:=gi n;refine kat_lt g i l m (zJ x y _ _ 0 a c f ?_ h);have u:=bx a;have v:=bx c
 simp_all
end
theorem sw [DecidableEq d][DecidableEq i](g:d->i)(j:∀a b,g a=g b->a=b)(l:List (Addr×d)):be (l.map λp=>(p.1,g p.2))=(be l).map λp=>(p.1,g p.2):=by
 have m:∀(l ps:List _),(l.map λp=>(p.1,g p.2)).foldl gP (ps.map λp=>(p.1,g p.2))=(l.foldl gP ps).map λp=>(p.1,g p.2):=by
  intro l
  induction l with
  | nil=>intro ps;rfl
  | cons p l n=>
    intro ps;rw[Yj,foldl_cons,foldl_cons];have e:gP (ps.map λp=>(p.1,g p.2)) (p.1,g p.2)=(gP ps p).map λp=>(p.1,g p.2):=by
     unfold gP;have f:(g p.2∈(ps.map λp=>(p.1,g p.2)).map (·.2))↔p.2∈ps.map (·.2):=by
      rw[Yk]
      constructor
      .intro h;obtain⟨q,c,e⟩:=Xa h;exact Xb %[q,c|j _ _ e]
      .intro h;obtain⟨q,c,e⟩:=Xa h;exact Xb %[q,c|by show g q.2=g p.2;rw[e]]
     by_cases h:p.2∈ps.map (·.2)
     .rw[if_pos h,if_pos (f.mpr h)]
     .rw[if_neg h,if_neg (λz=>h (f.mp z)),Zc];rfl
    rw[e];exact n _
 exact m l []
noncomputable abbrev FM(p:Addr×ZB):Addr×List Key:=(p.1,p.2.map Sum.inr)
theorem qE:∀a b:ZB,a.map (Sum.inr:Str->Key)=b.map Sum.inr->a=b
 |[],[],_=>rfl
 |[],_::_,h=>by cases h
 | _::_,[],h=>by cases h
 | x::xs,y::ys,h=>by
   injection h with c d
   injection c with e
   rw[e,qE xs ys d]
section
#where
variable{S:Addr}
theorem mY:∀{vs:ZF} {zs:ZB},StrsAre vs zs->ItemsAre (aM prog w) (zs.map Sum.inr) vs
 | _,_,.nil=> .nil
 | _,_,.cons x t h=> .cons (dv x t) (mY h)
theorem BN(c:zs≠[])(b:wS prog w s.heap zs r)(h:Q false s):↥A (hashByValue 8 (.ref r)) Q E s:=by
 have d:=b.typeIs;obtain⟨o,a,n,e,_,f,hi⟩:=b;refine Z2 (wpAny_specialOf d F.slot_tuple_hash.lookup (Z2 (wpAny_seqItems e f (Z2 ?_))));rw[<-forIn_toList]
 match zs,a.toList,(gi hi),c with
 | z::zs,_,.cons _ t g,_=>
   exact Z2 (Z2 (Z3 (Z3 (Z3 (Z3 h)))))
noncomputable def kOf(ps:ZG):Value->ZB
 | .ref r=>((ps.find? λp=>p.1==r).map (·.2)).getD []
 | _=>[]
noncomputable def aOf:Value->Addr
 | .ref r=>r
 | _=>0
theorem mZ(L:∀(E1:ZD) (R:ZF->Shared->Prop),(∀c vs,vs.Perm (ps.map λp=>Value.ref p.1)->(∀b o,s.heap.get? b=some o->c.heap.get? b=some o)->c.gens=s.gens->c.os=s.os->R vs c)->↥A.in1 (collect (.ref S)) R E1 s)(tk:∀p∈ps,wS prog w s.heap p.2 p.1)(Y:∀p∈ps,p.2.length=m)(m0:m≠0)(al:ps.length<64)
 (hQ:∀(c s':Shared) (l:Addr) (ss:ZG) (n:Nat),ss.Perm ps->ss.Pairwise (λa b=>c8 b.2 a.2=false)->(∀b o,s.heap.get? b=some o->c.heap.get? b=some o)->c.gens=s.gens->c.os=s.os->(∀b o,c.heap.get? b=some o->s'.heap.get? b=some o)->s'.gens=c.gens->s'.os=c.os->⇑c<=l->s'.heap.get? l=some {cls:= .type "list",data:= .seq (ss.map λp=>Value.ref p.1).toArray n}->Q (.ref l) s'):
 ↥A (call (.builtin "sorted") [.ref S]) Q E s:=by
 have r:∀p∈ps,kOf ps (.ref p.1)=p.2:=λp d=>by
  show((ps.find? λq=>q.1==p.1).map (·.2)).getD []=p.2;cases B:ps.find? λq=>q.1==p.1 with
  | none=>
    have:=List.find?_eq_none.mp B p d;simp at this
  | some q=>
    have C:=List.mem_of_find?_eq_some B;have e:q.1=p.1:=by have:=List.find?_some B;simpa using this
    show q.2=p.2;have t1:=tk q C;rw[e]at t1;exact qE _ _ (t1.inj (tk p d))
 refine Calls.call_function_entry kind_sorted plain_sorted entry_sorted (args_sorted1 _) ?_;unfold Builtin.«sorted»;refine Z2 (m:=checkCount "sorted" 1 1 _) (Z3 ?_);refine Z2 (L _ _ λc vs q2 k1 g1 o1=>?_);have hl:vs.length=ps.length:=by rw[q2.length_eq,Z5]
 have mem:∀v∈vs,∃p∈ps,v=Value.ref p.1:=λv G=>by
  obtain⟨p,d,rfl⟩:=Xa (q2.mem_iff.mp G);exact%[p,d|rfl]
 refine Z2 (wpAny_newList ?_ (by rw[sizeLine_eq];lia));have gL:(c.heap.push (seqObj "list" vs.toArray 0)).get? ⇑c=some (seqObj "list" vs.toArray 0):=Zi _ rfl;have H:∀p∈ps,∀j:Heap,(∀b o,b≠⇑c->(c.heap.push (seqObj "list" vs.toArray 0)).get? b=some o->j.get? b=some o)->wS prog w j p.2 p.1:=λp d j J=>by
  refine l9 (tk p d) λo e=>?_
  have M:=k1 _ _ e;exact J _ _ (Zr (Zt M)) (Z6 _ M)
 refine Z2 (wpAny_holding (wpAny_call_entry slot_list_sort %[_,gL|rfl] entry_list_sort (fR (s:=(c>>>c.heap.push (seqObj "list" vs.toArray 0))) (kd:=tuples' true) (Nv:=λv=>eA (ps.map (·.2)) (kOf ps v)) gL ⋯ (λj J an Q6 ab=>?_) (λj J=>?_) λg p1 p2=>%[_,rfl|?_]) (args_list_sort _)))
 .have tups:∀l:ZF,(∀v∈l,∃p∈ps,v=Value.ref p.1)->∃fs:ZF,KatTups j l fs/\fs.length=l.length/\∀f∈fs,∃z t,f=Value.str z t:=by
   intro l
   induction l with
   | nil=>intro _;exact%[[],KatTups.nil,rfl|λf B=>by cases B]
   | cons v l ih=>
     intro G;obtain⟨fs,f1,f2,f3⟩:=ih λu hu=>G u (Zj _ hu)
     obtain⟨p,d,rfl⟩:=G v Zl;obtain⟨o',h,n',g',c',d',i'⟩:=H p d j J;have i:=gi i';have ae:p.2≠[]:=λe=>by have:=Y p d;rw[e]at this;exact m0 this.symm
     obtain⟨z,zs,ez⟩:∃z zs,p.2=z::zs:=by
      cases ag:p.2 with
      | nil=>exact absurd ag ae
      | cons z zs=>exact%[z,zs|rfl]
     rw[ez]at i;obtain⟨t',vr,ev⟩:∃t' vr,h.toList=Value.str z t'::vr:=by
      cases N:h.toList with
      | nil=>rw[N]at i;cases i
      | cons a b=>
        rw[N]at i;cases i with
        | cons _ t' _=>exact%[t',b|rfl]
     have e0:h[0]? =some (Value.str z t'):=by
      have:h.toList[0]? =some (Value.str z t'):=by rw[ev];rfl
      simpa using this
     exact⟨Value.str z t'::fs,KatTups.cons g' c' d' e0 f1,by simp[f2],λf B=>by
      rcases mem_cons.mp B with e|e
      .exact%[z,t'|e]
      .exact f3 f e⟩
  obtain⟨fs,f1,f2,f3⟩:=tups vs mem;refine kat_kind (T:= .type "str") f1 ⋯ (λf B=>?_) (by decide) ab;obtain⟨z,t',rfl⟩:=f3 f B;exact Looks.of_pure rfl
 .intro x y s' hx hy i;subst i;obtain⟨p,d,ai⟩:=mem _ hx;obtain⟨q,C,aj⟩:=mem _ hy;obtain⟨x1,x2⟩:=x;obtain⟨y1,y2⟩:=y;obtain rfl:x1=Value.ref p.1:=ai;obtain rfl:y1=Value.ref q.1:=aj;show ↥A.in1.in1 (keyLt' (tuples' true) (Value.ref p.1) (Value.ref q.1)) (λb s'=>b=decide (eA (ps.map (·.2)) (kOf ps (Value.ref p.1))<eA (ps.map (·.2)) (kOf ps (Value.ref q.1)))/\s'=(c>>>j)) (λ_ _=>False) (c>>>j);rw[r p d,r q C];refine BM (s:=(c>>>j)) (H p d j J) (H q C j J) (by rw[Y p d,Y q C]) %[?_|rfl];exact iY (Xb %[p,d|rfl])
 .have U:g.Perm (ps.map λp=>Value.ref p.1):=p1.trans q2;have oe:g=(g.map λv=>(aOf v,kOf ps v)).map λp=>Value.ref p.1:=by
   rw[Yk];refine(map_id g).symm.trans (Yi λv G=>?_);obtain⟨p,d,rfl⟩:=Xa (U.mem_iff.mp G);rfl
  obtain⟨n,gl⟩:∃n,(sortedHeap (c.heap.push (seqObj "list" vs.toArray 0)) ⇑c vs g.toArray).get? ⇑c=some (seqObj "list" g.toArray n):=sortedHeap_at gL;refine Z3 %[_,rfl|hQ c _ ⇑c (g.map λv=>(aOf v,kOf ps v)) n ?_ ?_ k1 g1 o1 (λb o' M=>?_) rfl rfl (Zh _) ?_]
  .have:=U.map λv=>(aOf v,kOf ps v)
   rw[Yk]at this;refine this.trans ?_;have:(ps.map ((λv=>(aOf v,kOf ps v)) ∘ λp=>Value.ref p.1))=ps:=by
    refine(Yi λp d=>?_).trans (map_id ps);show(p.1,kOf ps (.ref p.1))=p;rw[r p d]
   rw[this]
  .rw[Yy];refine X3 (λ{u v} hu G I=>?_) p2;obtain⟨p,d,rfl⟩:=Xa (U.mem_iff.mp hu);obtain⟨q,C,rfl⟩:=Xa (U.mem_iff.mp G);show c8 (kOf ps (.ref q.1)) (kOf ps (.ref p.1))=false;have I:eA (ps.map (·.2)) (kOf ps (.ref p.1))<=eA (ps.map (·.2)) (kOf ps (.ref q.1)):=I;rw[r p d,r q C]at I ⊢;rw[iY (ks:=ps.map (·.2)) (Xb %[q,C|rfl])];exact Zg ⋯
  .have O:=Zt M;show(sortedHeap _ _ _ _).get? b=_;rw[sortedHeap_old (Zr O) (by rw[Zp];exact Yg O)];exact Z6 _ M
  .have e3:(seqObj "list" g.toArray n)=({cls:= .type "list",data:= .seq ((g.map λv=>(aOf v,kOf ps v)).map λp=>Value.ref p.1).toArray n}:Obj):=by
    rw[(congrArg List.toArray oe.symm)]
   exact gl.trans (congrArg some e3)
end
section
variable{X:Cx}{K:ZA}
noncomputable def m4(P:Program)(w:World)(a:Addr)(ps:ZG):HO:= .ext (mX w (aM P w) a (ps.map FM))
def bd(H:Hp)(ps:ZG):Prop:=∀p∈ps,p.2≠[]/\H p.1=some (.tup (p.2.map V.str))
theorem qF(I:Inv X pins f H s)(h:bd H ps):∀p∈ps,wS X.prog X.w s.heap p.2 p.1:=λp a=>by
 obtain⟨_,its,b,o,c,d,n,e⟩:=I.hok p.1 _ (h p a).2;exact%[o,its.toArray,n,c,d,e|mY (gF b)]
theorem qG:∀{ps:ZG} {us:ZF},aH (ps.map λp=>V.ref p.1) us->us=ps.map λp=>Value.ref p.1
 |[],_,.nil=>rfl
 | _::_,_,.cons r t=>by
   cases r;rw[qG t];rfl
theorem qH:∀(ps:ZG),aH (ps.map λp=>V.ref p.1) (ps.map λp=>Value.ref p.1)
 |[]=> .nil
 | _::ps=> .cons rfl (qH ps)
theorem wU(j:X.calm=true)(E:X.A.units+64<cLine):bX X (.type "set") (λxs H Q=>∃p ps,xs=[.ref p]/\SqL X.K H p (ps.map λq=>V.ref q.1)/\bd H ps/\(∃U:List _,U.length<=999/\∀q∈ps,q.2∈U)/\∀l,H l=none->Q (.ref l) (upd H l (m4 X.prog X.w l (be ps)))):=by
 intro pins s G H xs us Q I r h;obtain⟨p,ps,rfl,m,g,⟨U,J,d⟩,q⟩:=h;obtain⟨u,rfl,n⟩:=cI r;cases n;obtain⟨its,t,pl,L⟩:=I.list m;have v:=qG t;refine og (knd:=aM X.prog X.w) (I.ok.hd j) ⋯ pl.isList (ps:=ps.map FM) (by simp_all) (λi a=>?_) (U.map λz=>z.map Sum.inr) (by simp_all) (λi a=>?_) (λi a B s' M N e f=>?_) λh' w S k=>?_
 .obtain⟨b,c,rfl⟩:=Xa a;exact(qF I g) b c
 .obtain⟨b,c,rfl⟩:=Xa a;exact Xb %[b.2,d b c|rfl]
 .obtain⟨b,c,rfl⟩:=Xa a;exact BN (g b c).1 e f
 .rw[(sw _ qE ps)]at S;refine%[.ref ⇑s,_,I.laid (o:=m4 X.prog X.w ⇑s _) k (Zh _) %[S,?_|λO T y A=>mX.keep y A],rfl|q _ I.fresh];obtain⟨o,_,_,_,C,_⟩:=S;exact%[o|C]
theorem qI(w:X.calm=true):bX X (.builtin "sorted") (λxs H Q=>∃a ps m,xs=[.ref a]/\H a=some (m4 X.prog X.w a ps)/\bd H ps/\(∀p∈ps,p.2.length=m)/\m≠0/\ps.length<64/\
 ∀l (ss:List _),H l=none->ss.Perm ps->ss.Pairwise (λa b=>c8 b.2 a.2=false)->Q (.ref l) (upd H l (.lst (ss.map λp=>V.ref p.1)))):=by
 intro pins s T H xs us Q I r h;obtain⟨a,ps,m,rfl,y,z,A,B,d,q⟩:=h;obtain⟨u,rfl,C⟩:=cI r;cases C;obtain⟨⟨o,es,U,t,E,e,G,J,P⟩,_,_⟩:=(I.hok a _ y)
 have Y:es.size=ps.length:=by
  have:=P.length_eq
  simp_all
 have pv:(es.toList.map (·.2)).Perm (ps.map λp=>Value.ref p.1):=by
  have:=P.map (·.2);rw[Yk,Yk]at this;exact this
 refine mZ (λE1 R L=>jS (I.ok.hd w) E e G (by show es.size<4096;lia) J.fits J.plain J.led λj vs M f g1 i _=>L j vs (M.trans pv) f g1 i) (qF I z) A B d λj s' l ss n v N f g1 i k g o c O=>?_
 have I:=I.keptS f g1 i;refine%[.ref l,_,I.stoodS (o:= .lst _) (I.keptS k g o) c %[?_,ss.map _,n,qH ss|O],rfl|q l ss (I.hok.fresh c) v N];rw[Z5,v.length_eq,sizeLine_eq]
 lia
theorem zK{P:Program}(h:X.K=K)(c:X.prog=P)(hw:X.w=w)(a:X.calm=true)(b:bV k X.A):cw X (.type "set") (λxs H Q=>∃p ps,xs=[.ref p]/\SqL K H p (ps.map λq=>V.ref q.1)/\bd H ps/\(∃U:List ZB,U.length<=999/\∀q∈ps,q.2∈U)/\∀l,H l=none->Q (.ref l) (upd H l (m4 P w l (be ps)))):=by
 subst h;subst hw;exact⟨wU a b.units⟩
theorem pI{P:Program}(d:X.prog=P)(hw:X.w=w)(c:X.calm=true):cw X (.builtin "sorted") (λxs H Q=>∃a ps m,xs=[.ref a]/\H a=some (m4 P w a ps)/\bd H ps/\(∀p∈ps,p.2.length=m)/\m≠0/\ps.length<64/\
 ∀(l:Addr) (ss:ZG),H l=none->ss.Perm ps->ss.Pairwise (λa b=>c8 b.2 a.2=false)->Q (.ref l) (upd H l (.lst (ss.map λp=>V.ref p.1)))):=by
 subst hw;exact⟨qI c⟩
end
noncomputable def wV(K:ZA)(a b:Addr):It:=⟨λi H=>∃xs ys x y,SqL K H a xs/\SqL K H b ys/\xs[i]? =some x/\ys[i]? =some y,
 λi H v c=>∃T x y,H T=none/\v= .ref T/\c=upd H T (.tup [x,y])/\(∀xs,SqL K H a xs->xs[i]? =some x)/\(∀ys,SqL K H b ys->ys[i]? =some y),
 λi H=>∃xs ys,SqL K H a xs/\SqL K H b ys/\i<=xs.length/\i<=ys.length/\(i=xs.length\/i=ys.length)⟩
theorem wW{P:Program}{K:ZA}(z TI TO i1 i2 l1 l2:Addr)(D:ZipApart z TI TO i1 i2 l1 l2):
 mw P w K (.Tuple elts kt tp) (wV K l1 l2) [z,TI,TO,i1,i2] z (ZSt z TI TO i1 i2 (λi h=>h.IsListIter i1 l1 i) (λi h=>h.IsListIter i2 l2 i)) where
 mem:=by simp
 obj:=λi h st b hb=>by
  obtain⟨hz,hTI,⟨a,c,hTO⟩,⟨o1,e1,_,d1⟩,o2,e2,_,d2⟩:=st
  grind
 keep:=λi h h' st k=>by
  obtain⟨hz,hTI,⟨a,c,hTO⟩,⟨o1,e1,r1⟩,o2,e2,r2⟩:=st;exact%[k z ∅ _ hz,k TI ∅ _ hTI,%[a,c|k TO ∅ _ hTO],%[o1,k i1 ∅ _ e1|r1],o2,k i2 ∅ _ e2|r2]
 item:=by
  intro X hP hw hK hc i pins s σ H E I hf st hg;subst hP hw hK;obtain⟨hz,hTI,⟨a,c,hTO⟩,h1,h2⟩:=st;obtain⟨xs,ys,x,y,hq1,hq2,hx,hy⟩:=hg;obtain⟨its1,rv1,pl1,hz1⟩:=I.list hq1;obtain⟨its2,rv2,pl2,hz2⟩:=I.list hq2;obtain⟨u1,hu1,ru1⟩:=rv1.get hx;obtain⟨u2,hu2,ru2⟩:=rv2.get hy;refine wpAny_pyNext_zip_item D hz hTI hTO h1 h2 pl1.isList pl2.isList (x:=u1) (y:=u2) (by simpa using hu1) (by simpa using hu2) λh' a1 a2 a3 a4 a5 a6 hk=>%[_,rfl|wpAny_letOwnedTupleGo_zip (s:=(s>>>h')) a1 λh'' hz'' sb=>?_]
  replace sb:SameBut z h' h'':=sb;have turn1:Inv X pins σ H (s>>>h''):=by
   have nit:∀b v,H b=some v->b∉[z,TI,TO,i1,i2]:=λb v e hb=>by rw[(hf b hb).1]at e;cases e
   have kk:∀b o,b∉[z,TI,TO,i1,i2]->s.heap.get? b=some o->h''.get? b=some o:=λb o hb e=>by
    simp only[Yo,Yw,or_false,not_or]at hb;exact(sb.2 b hb.1).trans (hk b o hb.1 hb.2.2.1 hb.2.2.2.1 hb.2.2.2.2 e)
   refine I.step (g':=s.gens) (d':=s.drawn) (ch:=[z,TI,TO,i1,i2]) (λb hb=>%[(hf b hb).2.2.2.1,(hf b hb).2.1,(hf b hb).2.2.2.2.1|(hf b hb).2.2.2.2.2]) (λb o _ _ hc e _=>kk b o hc e) (λb o _ _ hc e _=>%[o.slots|kk b o hc e]) (λ_ _ _ _ n=>n)
    (λb o hc e=>%[o|kk b o hc e]) (λ_ _ e=>e) (λ_ _ _ e=>e) (λb ps e=>%[#[]|by rw[e];simp]) (λm hm=>?_) (λb v e=>?_) I.bare
   .obtain⟨o,es,ep,ho,r⟩:=hm;exact%[o,es,ep,kk _ o (λhb=>(hf _ hb).2.1 rfl) ho|r]
   .refine(I.hok b v e).stay (λc' v' hc' q=>kk c' v' ?_ q) (λ_ q=>q) λ_ _ q=>q
    rcases hc' with q'|q'
    .exact q'▸nit b v e
    .exact nit c' _ q'
  have Hn:H ⇑s=none:=I.fresh;have I2:Inv X pins σ (upd H ⇑s (.tup [x,y])) (s>>>h''):=by
   have nf:⇑s∉X.fs:=I.nofs (Zh _);refine%[turn1.ok,turn1.os,turn1.bare,?_,turn1.loc,turn1.cell,?_,?_,?_,?_|turn1.len]
   .refine%[turn1.base.keep,turn1.base.slot,λb o e n hx=>?_,turn1.base.there,λb xs e=>?_,λb o v e=>?_|λb ps e=>?_]
    .rw[am ((λb o e=>Zr (Zf (Zt e) I.sz)) b o e)];exact turn1.base.free b o e n hx
    .rw[am (ar (turn1.base.tups b xs e) Hn)];exact turn1.base.tups b xs e
    .rw[am (ar (turn1.base.frzs b o v e) Hn)];exact turn1.base.frzs b o v e
    .obtain⟨m,q⟩:=turn1.base.tbls b ps e;exact%[m|(am (ar q Hn))▸q]
   .rw[am (Zr I.lt)];exact turn1.free
   .intro x' c' e;obtain⟨v',q⟩:=I.cell x' c' e;rw[am (Zr q.lt)];exact turn1.freeC x' c' e
   .intro p hp;obtain⟨e,n,r⟩:=turn1.pin p hp;refine%[e,?_|r];rw[am (Zr (Zt (I.pin p hp).1))];exact n
   .intro b v e;by_cases hb:b=⇑s
    .subst hb;rw[aa]at e;cases e;exact%[by show 2<=sizeLine;decide,[u1,u2],.cons ru1 (.cons ru2 .nil),_,((sb.2 _ (Yr (Zt hz))).trans a5),rfl,_|rfl]
    .rw[am hb]at e;refine(turn1.hok b v e).stay (λ_ _ _ q=>q) (λc' q=>?_) λc' xs q=>?_
     .rw[am (ar q Hn)];exact q
     .rw[am (ar q Hn)];exact q
  refine%[.ref ⇑s,_,I2,rfl,%[_,x,y,Hn,rfl,rfl,λzs hzs=>(I.list_inj hzs hq1)▸hx|λzs hzs=>(I.list_inj hzs hq2)▸hy],%[hz'',(sb.2 _ D.TIz).trans (hk _ _ D.TIz D.TITO D.TIi1 D.TIi2 hTI),%[_,_|(sb.2 _ D.TOz).trans a2],?_|?_]|λb hb=>?_]
  .obtain⟨o,e,r⟩:=a3;exact%[o,(sb.2 _ D.i1z).trans e|r]
  .obtain⟨o,e,r⟩:=a4;exact%[o,(sb.2 _ D.i2z).trans e|r]
  .have:b<⇑s:=by
    simp only[Yo,Yw,or_false]at hb;obtain⟨o1,q1,_⟩:=h1;obtain⟨o2,q2,_⟩:=h2;rcases hb with rfl|rfl|rfl|rfl|rfl
    .exact Zt hz
    .exact Zt hTI
    .exact Zt hTO
    .exact Zt q1
    .exact Zt q2
   rw[am (Zr this)];exact(hf b hb).1
 done:=by
  intro X hP hw hK hc i pins s σ H E I hf st hg;subst hP hw hK;obtain⟨hz,hTI,⟨a,c,hTO⟩,h1,h2⟩:=st;obtain⟨xs,ys,hq1,hq2,g1,g2,g3⟩:=hg;obtain⟨its1,rv1,pl1,hz1⟩:=I.list hq1;obtain⟨its2,rv2,pl2,hz2⟩:=I.list hq2;have n1:=rv1.length;have n2:=rv2.length;refine wpAny_pyNext_zip_end (I.ok.hd hc) D hz hTI hTO h1 h2 pl1.isList pl2.isList (by
   rcases g3 with q|q
   .exact .inl (by simp;lia)
   .exact .inr (by simp;lia)) λh' hk=>%[rfl|?_]
  have nit:∀b v,H b=some v->b∉[z,TI,TO,i1,i2]:=λb v e hb=>by rw[(hf b hb).1]at e;cases e
  have kk:∀b o,b∉[z,TI,TO,i1,i2]->s.heap.get? b=some o->h'.get? b=some o:=λb o hb e=>by
   simp only[Yo,Yw,or_false,not_or]at hb;exact hk b o hb.1 hb.2.2.1 hb.2.2.2.1 hb.2.2.2.2 e
  refine I.step (λb hb=>%[(hf b hb).2.2.2.1,(hf b hb).2.1,(hf b hb).2.2.2.2.1|(hf b hb).2.2.2.2.2]) (λb o _ _ hc e _=>kk b o hc e) (λb o _ _ hc e _=>%[o.slots|kk b o hc e]) (λ_ _ _ _ n=>n)
   (λb o hc e=>%[o|kk b o hc e]) (λ_ _ e=>e) (λ_ _ _ e=>e) (λb ps e=>%[#[]|by rw[e];simp]) (λm hm=>?_) (λb v e=>?_) I.bare
  .obtain⟨o',es,ep,ho',r⟩:=hm;exact%[o',es,ep,kk _ o' (λhb=>(hf _ hb).2.1 rfl) ho'|r]
  .refine(I.hok b v e).stay (λc' v' hc' q=>kk c' v' ?_ q) (λ_ q=>q) λ_ _ q=>q
   rcases hc' with q'|q'
   .exact q'▸nit b v e
   .exact nit c' _ q'
 self:=λ_ _ _ _ _ st h=>wpAny_pyIter_zip st.1 h
def CY(K:ZA)(d:TA):TI:=λe H R=>d e H λvs c=>∃a b,vs=[.ref a,.ref b]/\(∃xs,SqL K c a xs)/\(∃ys,SqL K c b ys)/\R (wV K a b) c
section
variable{X:Cx}{K:ZA}{pos:Pos}
theorem FN(N:X.K=K){O p:Pos}{a b:Expr}{E:TA}(Q:Gl X "zip")(T:X.mg "zip"=none)(U:ba a=false)(r:ba b=false)(Y:QA X [a,b] E):
 QI X (.Tuple G kt O) (.Call (.Name "zip" p) [a,b] [] pos) (CY K E):=by
 subst N
 constructor
 intro pins s σ H R I h;refine Call_ (iz I Q T boot_zip (PyProof.Rows.callWith_type1 (thP (Y.h pos pins s σ H _ I h) λus c vs H1 f r1 q1=>?_) (aD U) (by rw[aD r];rfl)));obtain⟨t,u,e,⟨xs,v⟩,⟨ys,w⟩,q⟩:=q1;subst e;obtain⟨u1,u2,rfl,e1,e2⟩:=jj r1;cases e1;cases e2;obtain⟨J,ab,g,ae⟩:=f.list v;obtain⟨its2,ag,l,ai⟩:=f.list w;refine call_zip_2 g.isList l.isList λh1 L y z A B _ hk=>wpAny_pyIter_zip L ?_
 have d:∀i j,i≠j->⇑c+i≠⇑c+j:=λi j h e=>h (Nat.add_left_cancel e)
 have n:∀i,t≠⇑c+i:=λi=>Zr (Zf (by obtain⟨o,C,_⟩:=g.isList;exact Zt C) (le_add_right _ _))
 have nb:∀i,u≠⇑c+i:=λi=>Zr (Zf (by obtain⟨o,C,_⟩:=l.isList;exact Zt C) (le_add_right _ _))
 refine%[⇑c+4,[⇑c+4,⇑c+2,⇑c+3,⇑c+0,⇑c+1],_,wV X.K t u,H1,rfl,(f.kept hk),
  wW _ _ _ _ _ t u %[d 2 4 (by decide),d 3 4 (by decide),d 0 4 (by decide),d 1 4 (by decide),d 2 3 (by decide),d 2 0 (by decide),d 2 1 (by decide),d 3 0 (by decide),d 3 1 (by decide),d 0 1 (by decide),n 4,n 3,n 0,n 1,nb 4,nb 3,nb 0|nb 1],
  %[L,y,%[_,_|z],A|B],λb M=>?_|q]
 have m:⇑c<=b:=by
  simp only[Yo,Yw,or_false]at M;rcases M with rfl|rfl|rfl|rfl|rfl<;> exact le_add_right _ _
 exact f.fpOk m (f.hok.fresh m)
end
open PySem PySem.Spec PySem.Calls PyProof.Rows PyProof.V PySem.W
def Raw(h:Heap)(d:Addr)(es:Array DictEntry)(a:Nat):Prop:=∃o,h.get? d=some o/\o.ExactDict/\o.data= .dict es a
section
#where
variable{d it:Addr}{es:Array DictEntry}{ep i:Nat}
theorem Raw.ty(h:Raw s.heap d es ep):s.TypeIs (.ref d) "dict":=%[h.choose,h.choose_spec.1|h.choose_spec.2.1.1]
theorem Raw.lt(r:Raw h d es ep):d<h.objs.size:=Zt r.choose_spec.1
theorem Raw.up(r:Raw h d es ep)(e:∀o,h.get? d=some o->h'.get? d=some o):Raw h' d es ep:=%[r.choose,e _ r.choose_spec.1|r.choose_spec.2]
theorem zL(lo:(d==sysModules)=false)(r:Raw s.heap d es ep)
 (h:Q (.ref ⇑s) {s with heap:=s.heap.push {cls:= .type "dict_keyiterator",data:= .fields #[.ref d,.int 0 0,.int es.size 0,.int ep 0]}}):↥A (pyIter (.ref d)) Q E s:=by
 have ty:=r.ty;obtain⟨o,g,_,a⟩:=r;refine wpAny_pyIter_slot ty F.slot_dict_iter (wpAny_call_entry F.slot_dict_iter ty F.entry_dict_iter (Z2 (Z2 (wpAny_notOrdered_dict ty (Z3 ?_)))) (F.args_dict_iter_1 _));show wpAny _ _ (Builtin.Dict.showsAll d>>= _) _ _ s;unfold Builtin.Dict.showsAll;rw[if_neg (lo▸Zs)];refine Z2 (Z3 (Z2 (wpAny_dictEntries g a (Z2 (wpAny_dictEpoch g a (Z2 (wpAny_newObj_type (Z3 %[_,rfl,"dict_keyiterator",_,%[_,Zi _ rfl|rfl],F.slot_dict_keyiterator_next.lookup|?_]))))))));simpa [rawInt]using h
theorem zM(k:s.heap.IsKeyIter it d i es.size ep)(r:Raw s.heap d es ep)(hi:i<es.size)
 (h:∀h',h'.IsKeyIter it d (i+1) es.size ep->SameBut it s.heap h'->Q (some es[i].key) (s>>>h')):↥A (pyNext (.ref it)) Q E s:=by
 obtain⟨o,b,g,a⟩:=id k;obtain⟨j,c,_,e⟩:=r;unfold pyNext;refine Z2 (wpAny_attempt (wpAny_callSpecial?_slot (name:=Str.ofString "__next__") k.typeIs F.slot_dict_keyiterator_next (wpAny_call_entry F.slot_dict_keyiterator_next k.typeIs F.entry_dict_keyiterator_next ?_ (F.args_dict_keyiterator_next_1 _))));refine Z2 (Z3 (Z2 (Z2 (Z2 (wpAny_typeNameOfWhole_keyiter k.typeIs (Z3 (Z2 (wpAny_fieldsOf b a ?_))))))));simp only[show Builtin.Dict_items.ownsTuple "dict_keyiterator"=false by decide,Zx,if_false];show wpAny _ _ (if(Value.ref d==Value.none)=true then _ else _) _ _ s;rw[if_neg (by exact Zs)];refine Z2 (Z3 (Z2 (wpAny_dictEntries c e ?_)));rw[if_neg ∅];refine Z2 (Z3 (Z2 (wpAny_dictEpoch c e ?_)));rw[if_neg ∅];refine Z3 ?_;simp only[if_false,Int.toNat_natCast,Array.getElem?_eq_getElem hi];refine Z2 (Z2 (wpAny_typeNameOfWhole_keyiter k.typeIs (Z3 (Z2 (wpAny_isOneOf_keyiter k.typeIs ?_)))));show wpAny _ _ (setField (.ref it) 1 (rawInt ((i:Int) +1))>>= _) _ _ s;refine Z2 (wpAny_setField b a ∅ ?_);have f:(s.heap.update it (Obj.mapFields (·.setIfInBounds 1 (rawInt ((i:Int) +1))))).IsKeyIter it d (i+1) es.size ep:=
  %[_,get?_update_self _ b (Obj.isFreed_of_fields (Obj.data_mapFields a _)),(Obj.cls_mapFields ..).trans g|by rw[Obj.data_mapFields a];simp[rawInt]]
 exact Z2 (wpAny_holding (Z2 (wpAny_isOneOf_keyiter f.typeIs (Z3 (Z3 %[_,rfl|Z3 (h _ f (SameBut.update ..))])))))
theorem BO(j:A.handled=none)(k:s.heap.IsKeyIter it d i es.size ep)(r:Raw s.heap d es ep)(hi:es.size<=i)
 (h:∀h',ExtBut it s.heap h'->Q none (s>>>h')):↥A (pyNext (.ref it)) Q E s:=by
 obtain⟨o,c,l,e⟩:=id k;obtain⟨n,f,_,g⟩:=r;unfold pyNext;refine Z2 (wpAny_attempt (wpAny_callSpecial?_slot (name:=Str.ofString "__next__") k.typeIs F.slot_dict_keyiterator_next (wpAny_call_entry F.slot_dict_keyiterator_next k.typeIs F.entry_dict_keyiterator_next ?_ (F.args_dict_keyiterator_next_1 _))));refine Z2 (Z3 (Z2 (Z2 ?_)));refine Z2 (wpAny_typeNameOfWhole_keyiter k.typeIs (Z3 (Z2 (wpAny_fieldsOf c e ?_))));simp only[show Builtin.Dict_items.ownsTuple "dict_keyiterator"=false by decide,Zx,if_false];show wpAny _ _ (if(Value.ref d==Value.none)=true then _ else _) _ _ s;rw[if_neg (by exact Zs)];refine Z2 (Z3 (Z2 (wpAny_dictEntries f g ?_)));rw[if_neg ∅];refine Z2 (Z3 (Z2 (wpAny_dictEpoch f g ?_)));rw[if_neg ∅];refine Z3 ?_;simp only[show ¬ ((i:Int)<0)from by lia,if_false,Int.toNat_natCast,Array.getElem?_eq_none hi];refine Z2 (Z2 (wpAny_typeNameOfWhole_keyiter k.typeIs (Z3 ?_)));show wpAny _ _ (setField (.ref it) 0 .none>>= _) _ _ s;refine Z2 (wpAny_setField c e ∅ (Z2 ?_));simp only[newExc,newTuple];refine Z2 (m:=firstArgMember _ _) (wpAny_of_eq (a:=Value.none) (by first|rfl|(simp only[firstArgMember];rfl)) (wpAny_newObj_type ?_ (by size_fits)));simp only[raiseNew];refine Z2 (wpAny_handled ?_);rw[show A.in1.handled=none from j];refine Z2 (Z3 (wpAny_throw ?_));refine Z2 (wpAny_isInstance (T:="StopIteration") (b:=true) %[_,Zi _ rfl|rfl] isSubtype_stop ?_);exact Z3 (h _ (((SameBut.update ..).extBut.push _).push _))
theorem BP(lo:(d==sysModules)=false):KdlSrc prog w "dict" d d es.size (λi v=>∃h:i<es.size,v=es[i].key) (λh=>Raw h d es ep) where
 type:=λ_ r=>r.ty
 there:=λ_ r=>%[r.lt|r.lt]
 keep:=λ_ _ r hk=>r.up λo e=>hk d (.inl rfl) o e
 notList:=by decide
 notTuple:=by decide
 hint:=λ_ _ _ _ r hq=>kdl_hint_dict r.ty hq
 iter:=λA s hh r=>%[_,λi h=>h.IsKeyIter ⇑s d i es.size ep/\Raw h d es ep,(λ_ _ hq=>zL lo r hq),{
  sub:=λb hb=>by simp_all
  frame:=λ_ _ _ st hk=>%[st.1.at λo e=>hk _ ∅ o e|st.2.up λo e=>hk d ∅ o e]
  item:=λi s' Q E hi st hQ=>zM st.1 st.2 hi λh' k' hs'=>hQ _ h' s'.toks %[hi|rfl] %[k'|st.2.up λo e=>hs'.extBut d o (Zr r.lt) e] λb o hb e=>hs'.extBut b o (λh=>hb (by simp[h])) e
  done:=λs' Q E st hQ=>BO hh st.1 st.2 (Zh _) λh' he'=>hQ h' s'.toks λb o hb e=>he' b o (λh=>hb (by simp[h])) e
  self:=λ_ _ _ _ st hQ=>wpAny_pyIter_keyiter st.1 hQ},%[_,Zi _ rfl,rfl|rfl]|r.up λo e=>Z6 _ e]
theorem sA{P:Nat->Value->Prop}{R:ZF->Shared->Prop}(K:KdlSrc prog w T r d n P j)(l:A.handled=none)(ok:j s.heap)(m:n<=sizeLine)
 (h:∀(h':Heap) (tk:Nat) (acc:ZI),(∀b o,s.heap.get? b=some o->h'.get? b=some o)->⇑s<=h'.objs.size->ItemsOf P acc n->R acc.toList {s with heap:=h',toks:=tk}):↥A (collect (.ref r)) R E s:=by
 have lt:=K.there _ ok;refine Z2 (wpAny_runValue (codeAny_builtin entry_proto_collect' (Z2 (wpAny_newObj_type (Z3 %[plainId_quiet F.plain_list_iadd _|codeAny_builtin entry_list_iadd' ?_])))));rw[Around.under_plainId F.plain_list_iadd _];have a:=kdl_extend (s:=(s>>>s.heap.push _))
  (R:=λq s'=>∃h' tk acc c,q= .ok (.ret (.ref ⇑s))/\s'={s with heap:=h',toks:=tk}/\(∀b o,s.heap.get? b=some o->h'.get? b=some o)/\h'.get? ⇑s=some {cls:= .type _,dict:=none,data:= .seq acc c,slots:= #[]}/\ItemsOf P acc n)
  K l (K.keep _ _ ok λb _ o e=>Z6 _ e) ⇑s (Yr lt.1) (Yr lt.2) _ 0 (Zi _ rfl)
  (λh' tk acc c g g' it=>%[h',tk,acc,c,rfl,rfl,λb o e=>g b o (Zr (Zt e)) (Z6 _ e),g'|it]) m
 refine wpAny_mono a (λfin s' x=>?_) λe s' x=>?_
 .cases fin with
  | done f=>
    obtain⟨h',tk,acc,c,e,rfl,g,g',it⟩:=x;cases e;exact Z2 (wpAny_load g' (Z3 (h h' tk acc g (le_of_lt (Zt g')) it)))
  | again p=>
    refine%[x.1|codeAny_mono x.2 λq t y=>?_];obtain⟨h',tk,acc,c,rfl,rfl,g,g',it⟩:=y;exact Z2 (wpAny_load g' (Z3 (h h' tk acc g (le_of_lt (Zt g')) it)))
 simp_all
theorem sB{R:ZF->Shared->Prop}(lo:(d==sysModules)=false)(f:A.handled=none)(r:Raw s.heap d es ep)(g:es.size<=sizeLine)
 (h:∀(h':Heap) (tk:Nat),(∀b o,s.heap.get? b=some o->h'.get? b=some o)->⇑s<=h'.objs.size->R (es.toList.map (·.key)) {s with heap:=h',toks:=tk}):↥A (collect (.ref d)) R E s:=by
 refine sA (BP lo) f r g λh' tk acc l c a=>?_
 have e:acc.toList=es.toList.map (·.key):=by
  apply List.ext_getElem?;intro j;rw[Zk,Y6,Y6];by_cases m:j<es.size
  .have n:j<acc.size:=a.1▸m;obtain⟨_,q⟩:=a.2 j acc[j] ∅
   simp_all
  .rw[Array.getElem?_eq_none (by rw[a.1];lia),Array.getElem?_eq_none ⋯];rfl
 rw[e];exact h h' tk l c
end
section
#where
variable{S:Addr}
end
section
variable{X:Cx}{K:ZA}
end
section
variable{X:Cx}
theorem eY(c:bV k X.A)(d:swapsWith a (some (.Subscript o i b)) pos.line X.env=pure false)(e:QE X a f)(g:QE X o h)(hi:QE X i ty):QS X (.Assign [.Subscript o i b] a pos) (jJ h ty f):=
 ⟨Bn (by have:=c.units;lia) g.h hi.h e.h d⟩
theorem wX [DecidableEq c](a:List (c×V))(k:c)(v:V):(cJ a k v).map (·.1)=if k∈a.map (·.1)then a.map (·.1)else a.map (·.1) ++[k]:=by
 unfold cJ;have e:(a.any λb=>decide (b.1=k))=true↔k∈a.map (·.1):=by
  grind
 by_cases h:k∈a.map (·.1)
 .rw[if_pos (e.mpr h),if_pos h,Yk];refine Yi λb _=>?_
  show(if b.1=k then(b.1,v)else b).1=b.1
  split<;> rfl
 .rw[if_neg (λz=>h (e.mp z)),if_neg h,Zc];rfl
end
structure sC (K:ZA) (mg:ZC) (x:Str):Prop where
 at_:mg x=some (.ref (cr mg x))
 cls:Cls K (cr mg x)
structure sD (K:ZA) (mg:ZC) (x m qual:Str) (st:Stmt) (ps:ZB):Prop where
 ex:∃f fd,A8 K (cr mg x) m f/\Fun K m qual st f fd/\fC K fd ps []
structure zN (K:ZA) (mg:ZC) (x qual:Str) (st:Stmt) (ps:ZB):Prop where
 ex:∃f fd,Mk K (cr mg x) f/\Fun K "__init__" qual st f fd/\fC K fd ps []
structure wY (P:Program) (w:World) (K:ZA) (mg:ZC) (base:Heap) (k:Nat) (x m:Str) (ps:ZB) (sp:Sp):Prop where
 ex:∃f fd,eC P w K mg base CX0 k f fd ps sp/\A8 K (cr mg x) m f/\fC K fd ps []
structure BQ (P:Program) (w:World) (K:ZA) (mg:ZC) (base:Heap) (k:Nat) (x:Str) (ps:ZB) (sp:Sp):Prop where
 ex:∃f fd,eC P w K mg base CX0 k f fd ps sp/\Mk K (cr mg x) f/\fC K fd ps []
section
variable{P:Program}{w:World}{K:ZA}{mg:ZC}{base:Heap}{x m qual:Str}{st:Stmt}{N ps:ZB}{k:Nat}{sp:Sp}
theorem sD.cal(D:sD K mg x m qual st ps)(S:au N ps (ak st))
 (a:∀(H:Hp) (vs:List V) (Q:VK) (E:XK),sp vs H Q E->vs.length=ps.length/\∀(f:Addr) (b:Value) (A:Around) (outer:List Env) (s:Shared),bV k (A.deeper (envOfC qual (ak st) ⇑s f b))->
  ∃t,PSs (p8 CX0 P w K mg base N qual (ak st) f b A outer s H E).nox (bB st) t/\t {nx:=λ_ c=>Q .non c,rt:=Q} (start N vs) H):wY P w K mg base (k+1) x m ps sp:=by
 obtain⟨f,d,e,F,g⟩:=D.ex;exact%[f,d,F.ok S (λv H Q E h=>(a H v Q E h).1) (λb A o s H v Q E r h=>(a H v Q E h).2 f b A o s r),e|g]
theorem zN.cal(D:zN K mg x qual st ps)(S:au N ps (ak st))
 (a:∀(H:Hp) (vs:List V) (Q:VK) (E:XK),sp vs H Q E->vs.length=ps.length/\∀(f:Addr) (b:Value) (A:Around) (outer:List Env) (s:Shared),bV k (A.deeper (envOfC qual (ak st) ⇑s f b))->
  ∃t,PSs (p8 CX0 P w K mg base N qual (ak st) f b A outer s H E).nox (bB st) t/\t {nx:=λ_ c=>Q .non c,rt:=Q} (start N vs) H):BQ P w K mg base (k+1) x ps sp:=by
 obtain⟨f,d,e,F,g⟩:=D.ex;exact%[f,d,F.ok S (λv H Q E h=>(a H v Q E h).1) (λb A o s H v Q E r h=>(a H v Q E h).2 f b A o s r),e|g]
end
section
variable{X:Cx}{K:ZA}{j k:Nat}{x m:Str}{ps:ZB}{sp:Sp}{p pos apos:Pos}{o e:Expr}{es:List Expr}{to te:TE}{t:TA}
theorem Ev(C:wY X.prog X.w X.K X.mg X.base j x m ps sp)(c:sC X.K X.mg x)(d:bV k X.A)(a:Nat.ble j k=true)
 (g:eval (.Call (.Attribute o m apos) [] [] pos) X.env=(do
  let b<-eval o X.env
  standAt apos.atName
  let(f,first)<-holding [b] (getMethod b m pl)
  callWith pos f first (backTo pos (starEach [] X.env)) (backToKw pos (keywordEach [] X.env)))) (h:QE X o to):QE X (.Call (.Attribute o m apos) [] [] pos) (vw (cr X.mg x) m sp [] E0 to tW):=by
 obtain⟨f,n,F,i,l⟩:=C.ex;exact⟨yP h.h c.cls i F (d.mono (Nat.le_of_ble_eq_true a)) l .nil y8 g⟩
theorem FO(C:BQ X.prog X.w X.K X.mg X.base j x ps sp)(c:sC X.K X.mg x)(g:bV k X.A)(h:Gl X x)(a:Nat.ble (j+1) k=true)(b:(x==("__debug__"))=false)(d:(e::es).any ba=false)(i:QA X (e::es) t):
 QE X (.Call (.Name x p) (e::es) [] pos) (vy (cr X.mg x) sp [] E0 t):=by
 obtain⟨f,q,F,l,n⟩:=C.ex;rw[Zv,Yx]at d;exact⟨Bb l F (g.mono (Nat.le_of_ble_eq_true a)) h c.at_ n .nil y8 i.h b (aD d.1) (gG d.2)⟩
theorem Ew(h:X.K=K)(a:gJ o=false)(b:QE X o to):QE X (.Attribute o f pos) (Dy K to f):=by
 subst h;exact⟨DA b.h (fF a)⟩
theorem BR(h:X.K=K)(c:gH a=false)(d:QE X o to)(g:QE X a i):QS X (.Assign [.Attribute o f b] a pos) (Dz K to i f):=by
 subst h;exact⟨DB d.h g.h (jM c)⟩
end
structure GvT (K:ZA) (mg:ZC) (x:Str) (xs:List V):Prop where
 ex:∃a,mg x=some (.ref a)/\∀H,SqT K H a xs
theorem zO{K:ZA}{h:Heap}{o:Obj}{its:ZI}{n:Nat}(X:K.In h)(G:h.Ns mainGlobals mg)(z:nsIn K mainGlobals x=some (some (.ref a)))
 (b:K.lookup a=some o) (c:o.cls= .type "tuple") (d:o.data= .seq its n) (e:its.size<=sizeLine) (r:aH xs its.toList):GvT K mg x xs:=
 %[a,mg_of X G z|λ_=> .inr %[o,its,n,b,c,d,e|r]]
theorem FP{X:Cx}{K:ZA}{x:Str}(h:X.K=K)(g:GvT K X.mg x xs)(b:Gl X x)(c:(x==("__debug__":Str))=false):QE X (.Name x pos) (λ_ H Q=>∀a,(∀d,SqT K d a xs)->Q (.ref a) H):=by
 obtain⟨a,e,f⟩:=g.ex;refine⟨λpins s i H Q I q=>CM (v:= .ref a) %[.ref a,e|rfl] b c pins s i H Q I (q a f)⟩
theorem tryN{X:Cx}(c:∀e s,X.xe e s->False)(d:QSs X a g):QS X (.Try a [h] [] [] pos) g:=by
 refine⟨λpins s i H D I q=>wpAny_Try_except (wpAny_mono (d.h pins s i H D I q) (λf b q=>?_) λe b q=>(c e b q).elim)⟩;cases f with
 | next=>exact wpAny_execs_nil q
 | brk=>exact q
 | cont=>exact q
 | ret u=>exact q
section
variable{X:Cx}{K:ZA}
end
theorem m7(x y:Str):c8 [x] [y]=bc x y:=by
 show(if x=y then false else bc x y)=bc x y
 split
 .rename_i e;rw[e,fH]
 .rfl
section
#where
variable{S:Addr}
theorem lI(h:∀(O:ZD) (R:ZF->Shared->Prop),(∀c,(∀b o,s.heap.get? b=some o->c.heap.get? b=some o)->c.gens=s.gens->c.os=s.os->R us c)->↥A.in1 (collect (.ref S)) R O s)(e:StrsAre us ks)(T:us.length<64)
 (U:∀(c s':Shared) (l:Addr) (vs:ZF) (ss:ZB) (n:Nat),StrsAre vs ss->ss.Perm ks->ss.Pairwise (λa b=>bc b a=false)->(∀b o,s.heap.get? b=some o->c.heap.get? b=some o)->c.gens=s.gens->c.os=s.os->(∀b o,c.heap.get? b=some o->s'.heap.get? b=some o)->s'.gens=c.gens->s'.os=c.os->⇑c<=l->s'.heap.get? l=some {cls:= .type "list",data:= .seq vs.toArray n}->Q (.ref l) s'):
 ↥A (call (.builtin "sorted") [.ref S]) Q E s:=by
 refine Calls.call_function_entry kind_sorted plain_sorted entry_sorted (args_sorted1 _) ?_;unfold Builtin.«sorted»;refine Z2 (m:=checkCount "sorted" 1 1 _) (Z3 ?_);refine Z2 (h _ _ λc Y g1 o1=>?_);refine Z2 (wpAny_newList ?_ (by rw[sizeLine_eq];lia));have C:(c.heap.push (seqObj "list" us.toArray 0)).get? ⇑c=some (seqObj "list" us.toArray 0):=Zi _ rfl;have f:∀v∈us,∃x t,v=Value.str x t/\[x]∈ks.map λz=>[z]:=λv g=>by
  obtain⟨x,t,rfl⟩:=e.all v g;refine%[x,t,rfl|Xb %[x,?_|rfl]];rw[<-e.strs];exact Xb %[_,g|rfl]
 refine Z2 (wpAny_holding (wpAny_call_entry slot_list_sort %[_,C|rfl] entry_list_sort (fR (s:=(c>>>c.heap.push (seqObj "list" us.toArray 0))) (kd:=oneType') (Nv:=λv=>eA (ks.map λz=>[z]) [strOf v]) C ⋯ (λG k6 H Q6 I=>?_) (λG k6=>?_) λd q p2=>%[_,rfl|?_]) (args_list_sort _)))
 .obtain⟨v1,B,r,rfl⟩:∃v1 B r,us=v1::B::r:=by
   match us,H with
   | v1::B::r,_=>exact%[v1,B,r|rfl]
  rw[keyKind_strs e];exact Z3 I
 .intro x y s' hx hy J;subst J;obtain⟨x1,x2⟩:=x;obtain⟨y1,y2⟩:=y;obtain⟨a,t,rfl,L⟩:=f _ hx;obtain⟨b,u,rfl,M⟩:=f _ hy;show ↥A.in1.in1 (keyLt' oneType' (.str a t) (.str b u)) (λr s'=>r=decide (eA (ks.map λz=>[z]) [a]<eA (ks.map λz=>[z]) [b])/\s'=(c>>>G)) (λ_ _=>False) (c>>>G);rw[keyLt'_oneType];refine oneLt_str %[?_|rfl];rw[<-iY L,m7];rfl
 .have i:∀v∈d,∃x t,v=Value.str x t:=λv g=>e.all v (q.mem_iff.mp g)
  obtain⟨n,gl⟩:∃n,(sortedHeap (c.heap.push (seqObj "list" us.toArray 0)) ⇑c us d.toArray).get? ⇑c=some (seqObj "list" d.toArray n):=sortedHeap_at C;refine Z3 %[_,rfl|U c _ ⇑c d (d.map strOf) n (strsAre_map d i) ?_ ?_ Y g1 o1 (λb o' N=>?_) rfl rfl (Zh _) gl]
  .exact e.strs▸q.map _
  .rw[Yy];refine X3 (λ{u v} hu g j=>?_) p2;obtain⟨a,t,rfl,L⟩:=f _ (q.mem_iff.mp hu);obtain⟨b,t',rfl,M⟩:=f _ (q.mem_iff.mp g);show bc b a=false;rw[<-m7,iY M];have j:eA (ks.map λz=>[z]) [a]<=eA (ks.map λz=>[z]) [b]:=j;exact Zg ⋯
  .have p:=Zt N;show(sortedHeap _ _ _ _).get? b=_;rw[sortedHeap_old (Zr p) (by rw[Zp];exact Yg p)];exact Z6 _ N
end
theorem jW:∀{ks:ZB} {us:ZF},aH (ks.map V.str) us->StrsAre us ks
 |[],_,.nil=> .nil
 | _::_,_,.cons r t=>by
   obtain⟨t',rfl⟩:=r;exact .cons _ _ (jW t)
theorem gR:∀{ks:ZB} {us:ZF},StrsAre us ks->aH (ks.map V.str) us
 | _,_,.nil=> .nil
 | _,_,.cons _ t h=> .cons %[t|rfl] (gR h)
section
variable{X:Cx}{K:ZA}
theorem wZ(h:X.K=K):cw X (.builtin "sorted") (λxs H Q=>∃a ks,xs=[.ref a]/\SqL K H a (ks.map V.str)/\ks.length<64/\∀l (ss:ZB),H l=none->ss.Perm ks->ss.Pairwise (λa b=>bc b a=false)->Q (.ref l) (upd H l (.lst (ss.map V.str)))):=by
 subst h;refine⟨λpins s E H xs us Q I r h=>?_⟩;obtain⟨a,ks,rfl,j,m,q⟩:=h;obtain⟨u,rfl,p⟩:=cI r;cases p;obtain⟨its,f,⟨o,n,t,v,G,d⟩,J⟩:=I.list j;have L:its.length=ks.length:=by rw[<-f.length,Z5]
 refine lI (λM R w=>wpAny_collect_seq a (.inl rfl) t v d (λh' k=>?_) (by simp_all)) (jW f) ⋯ λN s' l vs ss n y i z A g1 B k g o c C=>?_
 .exact w _ k rfl rfl
 .have e:=I.keptS A g1 B;refine%[.ref l,_,e.stoodS (o:= .lst _) (e.keptS k g o) c %[?_,vs,n,gR y|C],rfl|q l ss (e.hok.fresh c) i z];rw[Z5,i.length_eq,sizeLine_eq]
  lia
theorem m8{P:Program}:∀{es:List DictEntry} {vs:List (Key×Value)} {ks:ZB},Pairs (aM P w) es vs->vs.map (·.1)=ks.map Sum.inr->StrsAre (es.map (·.key)) ks
 | _,_,[],h,e=>by
   cases h with
   | nil=>exact .nil
   | cons _ _ _=>cases e
 | _,_,k::ks,h,e=>by
   cases h with
   | nil=>cases e
   | @cons l m a b c n d=>
     rw[Yj,Yj]at e;injection e with f g
     rcases aU (c)with⟨i,t,q,_⟩|⟨x,t,q,j⟩
     .simp_all
     .rw[f]at q;cases q;rw[Yj,j];exact .cons _ _ (m8 d g)
theorem pJ(m:X.calm=true):cw X (.builtin "sorted") (λxs H Q=>∃(a:Addr) (c:List (Key×V)) (ks:ZB),xs=[.ref a]/\H a=some (.dK c)/\c.map (·.1)=ks.map Sum.inr/\ks.length<64/\
 ∀l (ss:ZB),H l=none->ss.Perm ks->ss.Pairwise (λa b=>bc b a=false)->Q (.ref l) (upd H l (.lst (ss.map V.str)))):=by
 refine⟨λpins s M H xs us Q I r h=>?_⟩;obtain⟨a,c,ks,rfl,p,e,t,q⟩:=h;obtain⟨u,rfl,v⟩:=cI r;cases v;obtain⟨_,lo,vs,w,o,es,N,g,ex,y,_,z,_⟩:=jI I.hok p;have i:=m8 z (e▸w.keys.symm);have O:es.size=ks.length:=by
  have:=bx i
  grind
 refine lI (λT R A=>sB lo (I.ok.hd m) %[o,g,ex|y] (by rw[sizeLine_eq];lia) λh' tk k B=>A _ k rfl rfl) i (by simp_all) λU s' l vs ss n C j E G g1 J k g o d L=>?_
 have f:=I.keptS G g1 J;refine%[.ref l,_,f.stoodS (o:= .lst _) (f.keptS k g o) d %[?_,vs,n,gR C|L],rfl|q l ss (f.hok.fresh d) j E];rw[Z5,j.length_eq,sizeLine_eq]
 lia
theorem w4(h:X.K=K):cw X (.builtin "sorted") (λxs H Q=>∃a ps m,xs=[.ref a]/\SqL K H a (ps.map λp=>V.ref p.1)/\bd H ps/\(∀p∈ps,p.2.length=m)/\m≠0/\ps.length<64/\
 ∀l (ss:List _),H l=none->ss.Perm ps->ss.Pairwise (λa b=>c8 b.2 a.2=false)->Q (.ref l) (upd H l (.lst (ss.map λp=>V.ref p.1)))):=by
 subst h;refine⟨λpins s M H xs us Q I r h=>?_⟩;obtain⟨a,ps,m,rfl,j,t,v,w,d,q⟩:=h;obtain⟨u,rfl,y⟩:=cI r;cases y;obtain⟨its,z,⟨o,n,A,B,N,e⟩,O⟩:=I.list j;have:=qG z;subst this;refine mZ (λT R C=>wpAny_collect_seq a (.inl rfl) A B e (λh' k=>?_) (by simp_all)) (qF I t) v w d λU s' l ss n i E G g1 J k g o c L=>?_
 .exact C _ _ (List.Perm.refl _) k rfl rfl
 .have f:=I.keptS G g1 J;refine%[.ref l,_,f.stoodS (o:= .lst _) (f.keptS k g o) c %[?_,ss.map _,n,qH ss|L],rfl|q l ss (f.hok.fresh c) i E];rw[Z5,i.length_eq,sizeLine_eq]
  lia
theorem w6(a:bV k X.A)(b:behindInMarks .In o=false)(hi:QE X i ty)(c:QE X o d):QT X (.Compare i [.In] [o] pos) (tB (DY ty d)):=
 ⟨yd (DZ (by have:=a.units;lia) hi.h c.h) b⟩
end
theorem dj{X:Cx}{K:ZA}(h:X.K=K)(c:lZ b)(d:QE X a e)(f:QE X b g):QE X (.Subscript a b pos) (tOp (DL K) e g):=by subst h;exact⟨yV DN d.h f.h c⟩
theorem uL(h:(env.blockKind== .function&&env.kindOf x==some .local&&b.line==pos.line&&!(a.names.any λ(n,k)=>n==x&&(k== .local||k== .cell)))=false):
 swapsWith (.ListComp c gens a pos) (some (.Name x b)) l env=pure false:=by
 show(pure (env.blockKind== .function&&env.kindOf x==some _&&b.line==pos.line&&!(a.names.any _)))=pure false;rw[h]
theorem zP{X:Cx}(i:Nat)(e:X.N.Nodup)(hi:X.N[i]? =some x)(f:Loc X.env.scope x)(g:X.fn x=true\/X.env.scope.names.lookup x=some .local)
 (b:(X.env.blockKind== .function&&X.env.kindOf x==some .local&&h.line==pos.line&&!(a.names.any λ(n,k)=>n==x&&(k== .local||k== .cell)))=false) (j:QE X (.ListComp c gens a pos) l):
 QS X (.Assign [.Name x h] (.ListComp c gens a pos) d) (pY l (jh i)):=⟨yv e hi f j.h (uL b) g⟩
section
#where
end
section
variable(h:Heap)(l1 l2:Addr)
end
section
#where
end
section
variable{X:Cx}{K:ZA}{pos:Pos}
end
section
variable{X:Cx}{pos:Pos}
theorem gT(b:PassesOwn (model X.prog X.w) X.A X.env X.xe)(d:QT X c e)(f:QSs X a g):QS X (.While c a [] pos) (yw e g):=⟨yx b d.h f.h⟩
theorem cb(a:bV k X.A)(b:DX i)(c:QE X o d)(hi:QE X i ty):QE X (.Subscript o i pos) (y3 d ty):=⟨Bm (by have:=a.units;lia) c.h hi.h b⟩
end
section
#where
theorem BS{P:Nat->Value->Prop}(val:Nat->Str)(a:∀i v,P i v->∃t,v= .str (val i) t):CmpOf prog w A .Gt P (λi j=>decide ((val j).cps.toList<(val i).cps.toList)):=λi j b c s Q E hi d h=>by
 obtain⟨t,rfl⟩:=a i b hi;obtain⟨u,rfl⟩:=a j c d;exact richCompare_gives (typeIs_str s _ t) (typeIs_str s _ u) PySem.F.slot_str_gt PySem.F.entry_str_gt (PySem.F.args_str_gt_2 _ _) (gives_str_gt _ _ t u) (λx=>nomatch x) h
theorem vN{P:Nat->Value->Prop}(val:Nat->Str)(a:∀i v,P i v->∃t,v= .str (val i) t):CmpOf prog w A .Lt P (λi j=>decide ((val i).cps.toList<(val j).cps.toList)):=λi j b c s Q E hi d h=>by
 obtain⟨t,rfl⟩:=a i b hi;obtain⟨u,rfl⟩:=a j c d;exact richCompare_gives (typeIs_str s _ t) (typeIs_str s _ u) PySem.F.slot_str_lt PySem.F.entry_str_lt (PySem.F.args_str_lt_2 _ _) (gives_str_lt _ _ t u) (λx=>nomatch x) h
theorem zQ{i:Nat}{v:Value}(h:(#[Value.str x t,Value.str y u]:ZI)[i]? =some v):∃t,v= .str (if i=0 then x else y) t:=by
 match i,h with
 | 0,h=>exact%[t|by simpa using h.symm]
 | 1,h=>exact%[u|by simpa using h.symm]
 | i+2,h=>simp at h
theorem sE(a:Nat->Nat->Bool):argBest a 1=if a 1 0=true then 1 else 0:=by simp[argBest]
theorem qJ{x y:Str}(l:A.handled=none)
 (h:∀h' tk,(∀c o,s.heap.get? c=some o->h'.get? c=some o)->Q (if x.cps.toList<y.cps.toList then .str y u else .str x t) {s with heap:=h',toks:=tk}):
 ↥A (call (.builtin "max") [.str x t,.str y u]) Q E s:=by
 have j:(s.heap.push {cls:= .type _,data:= .seq #[.str x t,.str y u]}).IsTuple ⇑s _:=%[_,Zi _ rfl,rfl,0|rfl]
 refine call_max_two (wpAny_pyIter_tuple j ?_);have b:(s.heap.push {cls:= .type "tuple",data:= .seq #[.str x t,.str y u]}).objs.size=⇑s+1:=Zp ..;refine%[_,[_,⇑s],[_],_,_,_,_,rfl,Walks.tuple (A:=A.in1) l _ ⇑s (b▸Zr (Yh _)) _,
  %[%[_,Zi _ rfl,rfl|rfl]|j.push _],λc d=>?_,by simp,BS _ (λ_ _=>zQ)|λv h' tk m n=>?_]
 .rw[Zp,b];rcases mem_cons.mp d with rfl|d
  .simp
  .rcases mem_cons.mp d with rfl|d
   .exact Yg (Yh _)
   .cases d
 .have f:=λc o e=>by
   refine n c o (λi=>?_) (Z6 _ (Z6 _ e));rcases mem_cons.mp i with p|i
   .have:=Zt e;rw[p,b]at this;exact X5 _ (Nat.lt_of_succ_lt this)
   .cases i
  have q:=h h' tk f;have a:(#[Value.str x t,Value.str y u])[argBest _ 1]? =some v:=m;rw[sE]at a;by_cases g:x.cps.toList<y.cps.toList
  .rw[if_pos (by simp[g])]at a;rw[if_pos g]at q;exact(show Value.str y u=v by simpa using a)▸q
  .rw[if_neg (by simp[g])]at a;rw[if_neg g]at q;exact(show Value.str x t=v by simpa using a)▸q
theorem qK{x y:Str}(l:A.handled=none)
 (h:∀h' tk,(∀c o,s.heap.get? c=some o->h'.get? c=some o)->Q (if y.cps.toList<x.cps.toList then .str y u else .str x t) {s with heap:=h',toks:=tk}):
 ↥A (call (.builtin "min") [.str x t,.str y u]) Q E s:=by
 have j:(s.heap.push {cls:= .type _,data:= .seq #[.str x t,.str y u]}).IsTuple ⇑s _:=%[_,Zi _ rfl,rfl,0|rfl]
 refine call_min_two (wpAny_pyIter_tuple j ?_);have b:(s.heap.push {cls:= .type "tuple",data:= .seq #[.str x t,.str y u]}).objs.size=⇑s+1:=Zp ..;refine%[_,[_,⇑s],[_],_,_,_,_,rfl,Walks.tuple (A:=A.in1) l _ ⇑s (b▸Zr (Yh _)) _,
  %[%[_,Zi _ rfl,rfl|rfl]|j.push _],λc d=>?_,by simp,vN _ (λ_ _=>zQ)|λv h' tk m n=>?_]
 .rw[Zp,b];rcases mem_cons.mp d with rfl|d
  .simp
  .rcases mem_cons.mp d with rfl|d
   .exact Yg (Yh _)
   .cases d
 .have f:=λc o e=>by
   refine n c o (λi=>?_) (Z6 _ (Z6 _ e));rcases mem_cons.mp i with p|i
   .have:=Zt e;rw[p,b]at this;exact X5 _ (Nat.lt_of_succ_lt this)
   .cases i
  have q:=h h' tk f;have a:(#[Value.str x t,Value.str y u])[argBest _ 1]? =some v:=m;rw[sE]at a;by_cases g:y.cps.toList<x.cps.toList
  .rw[if_pos (by simp[g])]at a;rw[if_pos g]at q;exact(show Value.str y u=v by simpa using a)▸q
  .rw[if_neg (by simp[g])]at a;rw[if_neg g]at q;exact(show Value.str x t=v by simpa using a)▸q
theorem oh{l:Addr}{its:ZI}{val:Nat->Str}{Q:ZD}(n:A.handled=none)(f:s.heap.IsList l its)(g:0<its.size)(a:∀(i:Nat) v,its[i]? =some v->∃t,v= .str (val i) t)
 (h:∀v h' tk,its[argBest (λi j=>decide ((val i).cps.toList<(val j).cps.toList)) (its.size-1)]? =some v->(∀b o,s.heap.get? b=some o->h'.get? b=some o)->Q v {s with heap:=h',toks:=tk}):
 ↥A (call (.builtin "min") [.ref l]) Q E s:=by
 have c:l<⇑s:=by obtain⟨_,e,_⟩:=f;exact Zt e
 refine call_min_walk (wpAny_pyIter_list f %[_,[⇑s,l],[⇑s],_,_,_,_,rfl,Walks.list (A:=A.in1) n _ l (Zr c) its,%[%[_,Zi _ rfl,rfl|rfl]|f.push _],λb d=>?_,g,vN val a|λv h' tk p q=>?_])
 .rw[Zp];rcases mem_cons.mp d with rfl|d
  .simp
  .rcases mem_cons.mp d with rfl|d
   .exact Yg c
   .cases d
 .refine h v h' tk p λb o e=>q b o (λm=>?_) (Z6 _ e)
  rcases mem_cons.mp m with r|m
  .exact absurd (r▸Zt e) (X5 _)
  .cases m
theorem m9(val:Nat->Str):∀k,argBest (λi j=>decide ((val i).cps.toList<(val j).cps.toList)) k<=k/\∀j,j<=k->bc (val j) (val (argBest (λi j=>decide ((val i).cps.toList<(val j).cps.toList)) k))=false
 | 0=>%[Zh _|λj b=>by rw[le_zero.mp b];exact fH _]
 | k+1=>by
   obtain⟨g,d⟩:=m9 val k;rw[argBest];by_cases c:bc (val (k+1)) (val (argBest (λi j=>decide ((val i).cps.toList<(val j).cps.toList)) k))=true
   .have a:=c;unfold bc at a;rw[if_pos a];refine%[Zh _|λj b=>?_];by_cases e:j=k+1
    .exact e▸fH _
    .cases f:bc _ _ with
     | false=>rfl
     | true=>have:=f9 f c;rw[d j ⋯]at this;cases this
   .have a:=c;unfold bc at a;rw[if_neg a];refine%[⋯|λj b=>?_];by_cases e:j=k+1
    .lia
    .exact d j ⋯
end
section
variable{X:Cx}
theorem w8(b:X.calm=true):bX X (.builtin "max") (λxs H Q=>∃x y,xs=[.str x,.str y]/\Q (.str (if bc x y=true then y else x)) H):=by
 intro pins s c H xs us Q I r h;obtain⟨x,y,rfl,q⟩:=h;obtain⟨u,d,rfl,⟨t,rfl⟩,t',rfl⟩:=jj r;refine qJ (I.ok.hd b) λh' tk k=>%[_,H,I.kept k,?_|q]
 by_cases a:x.cps.toList<y.cps.toList
 .rw[if_pos a,if_pos (show bc x y=true from Ze a)];exact%[_|rfl]
 .rw[if_neg a,if_neg (show ¬ bc x y=true from λe=>a (Zn e))];exact%[_|rfl]
theorem xa(b:X.calm=true):bX X (.builtin "min") (λxs H Q=>∃x y,xs=[.str x,.str y]/\Q (.str (if bc y x=true then y else x)) H):=by
 intro pins s c H xs us Q I r h;obtain⟨x,y,rfl,q⟩:=h;obtain⟨u,d,rfl,⟨t,rfl⟩,t',rfl⟩:=jj r;refine qK (I.ok.hd b) λh' tk k=>%[_,H,I.kept k,?_|q]
 by_cases a:y.cps.toList<x.cps.toList
 .rw[if_pos a,if_pos (show bc y x=true from Ze a)];exact%[_|rfl]
 .rw[if_neg a,if_neg (show ¬ bc y x=true from λe=>a (Zn e))];exact%[_|rfl]
theorem xc(z:X.calm=true):bX X (.builtin "min") (λxs H Q=>∃(p:Addr) (ss:ZB),xs=[.ref p]/\SqL X.K H p (ss.map V.str)/\0<ss.length/\∀m∈ss,(∀y∈ss,bc y m=false)->Q (.str m) H):=by
 intro pins s M H xs us Q I r h;obtain⟨p,ss,rfl,A,N,q⟩:=h;obtain⟨u,rfl,f⟩:=cI r;cases f;obtain⟨its,g,B,O⟩:=I.list A;have a:=g.length;rw[Z5]at a;have C:its.toArray.size=ss.length:=by rw[Zo,a]
 have c:∀i v,its.toArray[i]? =some v->∃t,v=Value.str (ss.getD i Str.empty) t:=λi v e=>by
  have e:=by simpa using e
  have hi:i<ss.length:=a▸(X7 e).1;obtain⟨u,l,f⟩:=g.get (by rw[Zk,Z4 hi];rfl);rw[e]at l;obtain⟨t,d⟩:=f;exact%[t|by rw[Z9 l,d,Zb,Z4 hi];rfl]
 refine oh (I.ok.hd z) B.isList ⋯ c λv h' tk n k=>?_
 obtain⟨E,o⟩:=m9 _ _;obtain⟨t,d⟩:=c _ _ n
 generalize argBest _ _=b at E o n d
 have w:b<ss.length:=by lia
 have G:ss.getD b Str.empty=ss[b]:=by rw[Zb,Z4 w];rfl
 refine%[.str _,H,I.kept k,%[t|d]|q _ (G▸Y7 w) λy J=>?_];obtain⟨j,L,rfl⟩:=getElem_of_mem J;have:=o j ⋯;rwa[show ss.getD j Str.empty=ss[j] by rw[Zb,Z4 L];rfl]at this
theorem Ex(a:X.calm=true):cw X (.builtin "max") (λxs H Q=>∃x y,xs=[.str x,.str y]/\Q (.str (if bc x y=true then y else x)) H):=⟨w8 a⟩
theorem Ey(a:X.calm=true):cw X (.builtin "min") (λxs H Q=>∃x y,xs=[.str x,.str y]/\Q (.str (if bc y x=true then y else x)) H):=⟨xa a⟩
theorem Ez{K:ZA}(h:X.K=K)(a:X.calm=true):cw X (.builtin "min") (λxs H Q=>∃(p:Addr) (ss:ZB),xs=[.ref p]/\SqL K H p (ss.map V.str)/\0<ss.length/\∀m∈ss,(∀y∈ss,bc y m=false)->Q (.str m) H):=by subst h;exact⟨xc a⟩
end
section
#where
end
section
variable{prog:Program}{w:World}{A:Around}{R:Result->Shared->Prop}{I:Addr}{fp wr:List Addr}{G:Array GenState->Array GenState->Prop}{n:Nat}{P:Nat->Value->Prop}{St:Nat->Shared->Prop}
end
section
#where
end
section
variable{X:Cx}{K:ZA}
end
theorem BT{b:Type}{a:List (b×V)}{vs:List (b×Value)}(r:KV a vs):aH (a.map (·.2)) (vs.map (·.2)):=by
 induction r with
 | nil=>exact .nil
 | cons h _ c=>exact .cons h.2 c
section
variable{X:Cx}{K:ZA}
def zR:V->List V->Hp->VK->Prop:=λx vs H Q=>asR x λa=>∃k y,vs=[kV k,y]/\∃b,H a=some (.dK b)/\b.length<sizeLine/\(∀v,bz b k=some v->Q v H)/\(bz b k=none->Q y (upd H a (.dK (cJ b k y))))
theorem BU:MtM X "dict.setdefault" zR:=by
 intro pins s G H x vs v us Q I p r h;obtain⟨a,rfl,k,y,rfl,b,e,J,t,u⟩:=eP h;cases p;obtain⟨L,w,rfl,A,l⟩:=jj r;obtain⟨z,m,vs,c,n⟩:=jI I.hok e;refine call_meetsIn PySem.F.slot_dict_setdefault n.typeIs PySem.F.entry_dict_setdefault (PySem.F.args_dict_setdefault_3 _ _ _) (kt_meets_setdefault _ a (lA A) m w) %[vs,n,c.length▸z,λM hw=>?_|λN h' f B=>?_]
 .have q:=c.val k;cases d:bz b k with
  | none=>
    rw[fV.none_of (o:=valueAt vs k) (d▸q)]at hw;cases hw
  | some i=>
    obtain⟨C,g,j⟩:=fV.some_of (d▸q);rw[g]at hw;exact(Z9 hw)▸%[i,H,I.tok _,j|t i d]
 .have d:bz b k=none:=by
   cases d:bz b k with
   | none=>rfl
   | some i=>
     obtain⟨C,g,_⟩:=fV.some_of (d▸c.val k)
     grind
  exact%[y,_,l7 I (e▸True.intro) B (let⟨q,_,_,E,_⟩:=f;%[q|E]) (t9 (by have:=fE b k y;lia) m (c.put k l) f),l|u d]
theorem jX:MtQ X "dict.setdefault" zR:=⟨BU⟩
noncomputable def sF(v a:Addr):HO:= .ext λh=>h.IsValuesView v a
def zS:V->List V->Hp->VK->Prop:=λx vs H Q=>asR x λa=>vs=[]/\∃b,H a=some (.dK b)/\∀v,H v=none->Q (.ref v) (upd H v (sF v a))
theorem BV:MtM X "dict.values" zS:=by
 intro pins s w H x vs v us Q I i j h;obtain⟨a,rfl,rfl,l,e,q⟩:=eP h;cases i;have c:=j.zero;subst c;obtain⟨z,m,vs,n,f⟩:=jI I.hok e;refine call_meetsIn PySem.F.slot_dict_values f.typeIs PySem.F.entry_dict_values (PySem.F.args_dict_values_1 _) (meets_dict_values _ a m) %[%[vs|f]|?_];have g:(s.heap.push {cls:= .type _,data:= .fields _}).IsValuesView ⇑s a:=%[_,Zi _ rfl,rfl|rfl]
 refine%[.ref ⇑s,_,I.laid (o:=sF ⇑s a) (λb u e=>Z6 _ e) (Zh _) %[g,?_|λy A p t=>?_],rfl|q _ I.fresh]
 .obtain⟨o,d,_⟩:=g;exact%[o|d]
 .obtain⟨o,d,r⟩:=p;exact%[o,t _ d|r]
theorem zT:MtQ X "dict.values" zS:=⟨BV⟩
theorem uM(j:X.calm=true):bX X (.type "list") (λxs H Q=>∃(v a:Addr) (b:List (Key×V)),xs=[.ref v]/\H v=some (sF v a)/\H a=some (.dK b)/\∀l,H l=none->Q (.ref l) (upd H l (.lst (b.map (·.2))))):=by
 intro pins s L H xs us Q I r h;obtain⟨v,a,b,rfl,m,n,q⟩:=h;obtain⟨u,rfl,p⟩:=cI r;cases p;obtain⟨z,M,vs,f,t⟩:=jI I.hok n;have g:=(I.hok _ _ m).1;obtain⟨o,es,w,y,A⟩:=t;have B:s.heap.DictAt _ a vs w:=%[o,es,y|A]
 have C:=f.length;refine PySem.W.kdl_call (PySem.W.kdl_values) (I.ok.hd j) %[g|B] ⋯ λh' tk acc c keep E d=>?_
 have N:acc.toList.length=b.length:=by rw[Za,d.1,C]
 refine%[.ref ⇑s,_,I.laid keep (Zh _) ?_,rfl|q _ I.fresh];have e:acc.toList=vs.map (·.2):=by
  refine ext_getElem (by simp_all) λi G O=>?_
  obtain⟨k,J⟩:=d.2 i _ (Array.getElem?_eq_getElem G);obtain⟨T,U⟩:=X7 J
  simp_all
 exact%[by rw[Z5];exact z,acc.toList,c,e▸BT f|E]
theorem BW(c:X.calm=true):cw X (.type "list") (λxs H Q=>∃(v a:Addr) (b:List (Key×V)),xs=[.ref v]/\H v=some (sF v a)/\H a=some (.dK b)/\∀l,H l=none->Q (.ref l) (upd H l (.lst (b.map (·.2))))):=⟨uM c⟩
end
theorem sG:∀{ss:ZB},z∈ss->∃j,ss[j]? =some z/\(∀m,m<j->∀y,ss[m]? =some y->y≠z)/\(z::ss.eraseIdx j).Perm ss
 | x::ss,h=>by
   by_cases e:x=z
   .exact%[0,by simp[e],λm b=>absurd b ⋯|by simp[e]]
   .obtain⟨j,c,d,f⟩:=sG ((mem_cons.mp h).resolve_left λq=>e q.symm);refine%[j+1,c,λm b y a=>?_|?_]
    .cases m with
     | zero=>simp at a;exact a▸e
     | succ m=>exact d m ⋯ y (a)
    .exact(List.Perm.swap _ _ _).trans (f.cons _)
section
variable{X:Cx}{K:ZA}
def EA:V->List V->Hp->VK->Prop:=λx vs H Q=>asR x λa=>∃k y,vs=[kV k,y]/\∃b,H a=some (.dK b)/\Q ((bz b k).getD y) H
theorem EB:MtM X "dict.get" EA:=by
 intro pins s n H x vs v us Q I f g h;obtain⟨a,rfl,k,y,rfl,b,e,q⟩:=eP h;cases f;obtain⟨o,i,rfl,j,l⟩:=jj g;obtain⟨z,m,vs,c,d⟩:=jI I.hok e;exact call_meetsIn slot_dict_get d.typeIs PySem.F.entry_dict_get (PySem.F.args_dict_get_3 _ _ _) (meets_dict_get_default _ a (lA j) m i) %[_,d.mapOf,(bz b k).getD y,H,I.tok _,(c.val k).getD l|q]
theorem sH:MtQ X "dict.get" EA:=⟨EB⟩
noncomputable def isZ(z:Str):Value->Bool
 | .str x _=>x==z
 | _=>false
theorem xf(t:Tok)(r:aH (ss.map V.str) its)(h:ss.length=its.length)(l:z∈ss):∃(j:Nat) (e:j<its.toArray.size),ss[j]? =some z/\(z::ss.eraseIdx j).Perm ss/\(∀y,y∈its.toArray->MeetsSeq.EqGives y (.str z t) (isZ z y))/\isZ z its.toArray[j]=true/\∀m (a:m<its.toArray.size),m<j->isZ z its.toArray[m]=false:=by
 obtain⟨j,f,n,o⟩:=sG l;have b:∀m y,its[m]? =some y->∃x t,y=Value.str x t/\ss[m]? =some x:=λm y c=>by
  have a:m<ss.length:=h▸(X7 c).1;obtain⟨u,i,p⟩:=r.get (by rw[Zk,Z4 a];rfl);rw[c]at i;obtain⟨t,q⟩:=p;exact%[_,t,(Z9 i).trans q|Z4 a]
 have e:j<its.length:=h▸(X7 f).1;refine%[j,e,f,o,λy c=>?_,?_|λm a g=>?_]
 .obtain⟨m,a⟩:=X2 (by simpa using c);obtain⟨x,t',rfl,_⟩:=b m y a;exact eqGives_str x z t' t
 .obtain⟨x,t',ex,d⟩:=b j _ (Z4 e);rw[f]at d;show isZ z its[j]=true;rw[ex,<-Z9 d];exact beq_self_eq_true z
 .obtain⟨x,t',ex,d⟩:=b m _ (Z4 a);show isZ z its[m]=false;rw[ex];exact beq_eq_false_iff_ne.mpr (n m g x d)
def qL:V->List V->Hp->VK->Prop:=λx vs H Q=>asR x λl=>∃z,vs=[.str z]/\∃ss:ZB,H l=some (.lst (ss.map V.str))/\z∈ss/\∀a,(z::a).Perm ss->Q .non (upd H l (.lst (a.map V.str)))
theorem xg:MtM X "list.remove" qL:=by
 intro pins s A H x vs v us Q I c d h;obtain⟨l,rfl,z,rfl,ss,a,f,q⟩:=eP h;cases c;obtain⟨u,rfl,g⟩:=d.one;obtain⟨t,rfl⟩:=g;obtain⟨i,its,n,r,b,e⟩:=I.lstM a;rw[Z5]at b i;obtain⟨j,m,_,o,p,w,y⟩:=xf t r b f;refine call_meets F.slot_list_remove %[_,e|rfl] F.entry_list_remove (F.args_list_remove_2 _ _) (MeetsSeq.list_remove l its.toArray n _ _ p j m w y (by simp_all)) %[e,.non,_,I.lset (its':=its.eraseIdx j) a e ?_ ?_ ?_,rfl|q _ o]
 .simp
 .rw[List.eraseIdx_eq_take_drop_succ,Zc,List.map_take,List.map_drop,<-List.eraseIdx_eq_take_drop_succ];exact r.eraseIdx j
 .have:=kq ss j;rw[Z5]
  lia
theorem zU:MtQ X "list.remove" qL:=⟨xg⟩
end
theorem xh:typeLookup (.type "list_reverseiterator") "__len__"=pure none:=by kernel_rfl
theorem zV:typeLookup (.type "list_reverseiterator") "__length_hint__"=pure (some (.builtin "list_reverseiterator.__length_hint__")):=by kernel_rfl
section
#where
theorem oi(hh:A.handled=none)(N:s.heap.IsRevIter I l ((a.size:Int) -1))(O:s.heap.IsList l a)(ne:l≠I)(hz:a.size<=sizeLine)
 (hQ:∀s' acc c,(∀b o,b≠I->s.heap.get? b=some o->s'.heap.get? b=some o)->s'.gens=s.gens->s'.os=s.os->s'.heap.get? ⇑s=some {cls:= .type "list",data:= .seq acc c}->acc.toList=a.toList.reverse->Q (.ref ⇑s) s'):
 ↥A (call (.type "list") [.ref I]) Q E s:=by
 have u:I<⇑s:=let⟨_,i,_⟩:=N;Zt i;have v:l<⇑s:=let⟨_,i,_⟩:=O;Zt i
 generalize p:s.heap.push {cls:=Value.type "list",data:=Data.seq #[]}=G
 have gz:G.objs.size=⇑s+1:=by rw[<-p,Zp]
 have y:∀b o,s.heap.get? b=some o->G.get? b=some o:=λb o e=>by rw[<-p];exact Z6 _ e
 have q:G.get? ⇑s=some {cls:=Value.type "list",data:=Data.seq #[]}:=by rw[<-p];exact Zi _ rfl
 refine callType_codes (Q₁:=λobj g=>obj= .ref ⇑s/\g=(s>>>G)) F.called_list (F.typeCall_list_1 (Value.ref I)) F.entry_list_init (code_list_new (Value.ref I) %[rfl|by rw[p]]) λobj g j=>?_
 obtain⟨rfl,rfl⟩:=j;refine%[%[_,q|rfl],F.args_list_init_2 _ _|?_];show ↥A.in1.in1 (Builtin.«list.__init__» %[[.ref ⇑s,.ref I]|[]]) _ _ _;unfold Builtin.«list.__init__»;refine Z2 ?_;refine listItems_at (s:=(s>>>G)) q rfl ?_;refine Z2 (listUpdate_at (s:=(s>>>G)) q rfl ?_ (X1 _));have U:=get?_update_self (Obj.mapSeq λ_=> #[]) q rfl;have f:∀b o,b≠⇑s->G.get? b=some o->(G.update ⇑s (Obj.mapSeq λ_=> #[])).get? b=some o:=λb o z e=>(get?_update_other _ _ (Ne.symm z)).trans e
 refine Z2 (wpAny_letGo ?_)
 generalize G.update ⇑s (Obj.mapSeq λ_=> #[])=h at U f
 have B:I≠⇑s:=Zr u;have nl:l≠⇑s:=Zr v;have m:h.IsRevIter I l ((a.size:Int) -1):=N.at λo e=>f _ _ B (y _ _ e)
 have C:h.IsList l a:=let⟨o,i,r⟩:=O;%[o,f _ _ nl (y _ _ i)|r];have W:=Walks.listRev (prog:=prog) (w:=w) (A:=A.in1.in1) hh I l ne a;have n:(0<=a.size/\h.IsRevIter I l (↑a.size-1-((0:Nat):Int))/\h.IsList l a):=%[X1 _,by simpa using m|C]
 show ↥A.in1.in1 (Builtin.List.listExtendWith (.ref ⇑s) (.ref I) .none) _ _ (s>>>h);unfold Builtin.List.listExtendWith;have t:Shared.TypeIs (s>>>h) (.ref I) "list_reverseiterator":=m.typeIs;refine Z2 (wpAny_typeOf (T:="list_reverseiterator") t ?_);have n1:Builtin.List.listSameRef (.ref ⇑s) (.ref I)=false:=beq_eq_false_iff_ne.mpr (Ne.symm B);have n2:(Value.type "list_reverseiterator"==Value.type "list")=false:=by decide
 have n3:(Value.type "list_reverseiterator"==Value.type "tuple")=false:=by decide
 simp only[n1,n2,n3,Bool.or_false,Zx,if_false];refine Z2 (W.self 0 (s>>>h) _ _ n ?_);refine Z2 (wpAny_holding ?_);unfold Builtin.List.listLengthHint;refine Z2 (wpAny_specialOf (T:="list_reverseiterator") t xh ?_);show wpAny _ _ (specialOf (.ref I) (Str.ofString "__length_hint__")>>= _) _ _ _;refine Z2 (wpAny_specialOf t zV ?_)
 wp_delta
 refine Z2 (wpAny_isInstance (T:="list_reverseiterator") (b:=true) t (by rw[isSubtype_type];kernel_rfl) ?_);simp only[Bool.not_true,Zx,if_false];rw[if_pos (by decide +kernel)];rw[if_neg (by decide)];refine Z3 ?_;rw[if_neg (by decide +kernel)];have H:⇑s∉[I,l]:=by
  simp only[Yo,Yw,or_false,not_or];exact%[Ne.symm B|Ne.symm nl]
 refine Z3 %[plainId_quiet F.plain_extend_loop _|codeAny_extend_loopS W.toS hz _ H _ a.size 0 _ _ _ rfl (X1 _) n U (ItemsOf.nil _) λs5 acc c5 J L d=>?_];refine%[rfl|hQ s5 acc c5 (λb o z e=>?_) J.gens J.os L ?_]
 .have nb:b≠⇑s:=Zr (Zt e);refine J.heap b o ?_ (f _ _ nb (y _ _ e));simp only[Yo,Yw,or_false,not_or];exact%[nb|z]
 .apply List.ext_getElem?;intro k;have al:acc.toList.length=a.size:=Za▸d.1;by_cases Y:k<a.size
  .have M:k<acc.size:=d.1▸Y;have:=d.2 k acc[k] ∅;rw[List.getElem?_reverse (Y),Za,Y6,Y6,this];simp[M]
  .rw[X6 ⋯,X6 (by simp;lia)]
end
noncomputable def EC(n:Nat)(a l:Addr)(m:Nat):HO:= .ext λh=>n<=a/\h.IsRevIter a l (m-1)
theorem xi{X:Cx}:bX X (.type "reversed") (λxs H Q=>∃(l:Addr) (ys:List V),xs=[.ref l]/\SqL X.K H l ys/\∀r,H r=none->Q (.ref r) (upd H r (EC X.s₀.heap.objs.size r l ys.length))):=by
 intro pins s a H xs us Q I r h;obtain⟨l,ys,rfl,c,q⟩:=h;obtain⟨u,rfl,d⟩:=cI r;cases d;obtain⟨its,f,pl,j⟩:=I.list c;refine call_reversed_list pl.isList ?_;have g:=I.hok.fresh (Zh _);have J:Inv X pins a H (s>>>(s.heap.push (revObj l (its.toArray.size-1)))):=I.keptS (λb o e=>Z6 _ e) rfl rfl;refine%[.ref ⇑s,_,I.stoodS (o:=EC X.s₀.heap.objs.size ⇑s l ys.length) J (Zh _) %[%[I.sz|?_],%[_|Zi _ rfl]|λ_ _ ⟨i,x⟩ k=>%[i|x.at λo e=>k o e]],rfl|q _ g];rw[f.length,<-Zo];exact%[_,Zi _ rfl,rfl|rfl]
theorem Inv.dropped{X:Cx}(I:Inv X pins l H s)(m:H a=some (.ext j))(r:X.s₀.heap.objs.size<=a)(g:∀b o,b≠a->s.heap.get? b=some o->s'.heap.get? b=some o)(t:s'.gens=s.gens)(v:s'.os=s.os):Inv X pins l (drop H a) s':=by
 have d:∀{b:Addr} {o:HO},H b=some o->(∀j,o≠ .ext j)->b≠a:=λe n z=>by
  grind
 have un:Un (frs X.stack) [a] H (drop H a) s.heap s'.heap:=by
  refine%[λb o e _ _ f=>g b o (by simpa using f) e,λb o e _ _ f=>%[o.slots|g b o (by simpa using f) e],λb o _ n _=>?_,λb o e f=>%[o|g b o (by simpa using f) e],λb xs e=>?_,λb o u e=>?_|λb ps e=>%[#[]|?_]]
  .unfold drop;split
   .rfl
   .exact n
  .rw[iV (d e ∅)];exact e
  .rw[iV (d e ∅)];exact e
  .rw[iV (d e ∅)];simpa using e
 have h:HOk X.prog X.w (drop H a) s'.heap:=λb o e=>by
  have nb:b≠a:=λz=>by rw[z,wN]at e;cases e
  rw[iV nb]at e;refine(I.hok b o e).stay (λc u i q=>g c u ?_ q) (λc q=>?_) λc xs q=>?_
  .rcases i with rfl|i
   .exact nb
   .exact d i ∅
  .rw[iV (d q ∅)];exact q
  .rw[iV (d q ∅)];exact q
 exact I.call' v un h (by rw[t];exact I.bare) λb w=>by
  obtain rfl:b=a:=by simpa using w
  refine%[.inr r,λz=>?_,λx c e z=>?_|λp y z=>?_]
  .have:=I.free;grind
  .have:=I.freeC x c e;grind
  .have:=(I.pin p y).2.1;rw[z,m]at this;cases this
theorem sI{X:Cx}(w:X.calm=true):bX X (.type "list") (λxs H Q=>∃(r l:Addr) (ys:List V),xs=[.ref r]/\H l=some (.lst ys)/\H r=some (EC X.s₀.heap.objs.size r l ys.length)/\∀p,drop H r p=none->p≠r->Q (.ref p) (upd (drop H r) p (.lst ys.reverse))):=by
 intro pins s J H xs us Q I r h;obtain⟨a,l,ys,rfl,g,f,q⟩:=h;obtain⟨u,rfl,y⟩:=cI r;cases y;obtain⟨z,its,n,A,m,e⟩:=I.lstM g;obtain⟨⟨t,b⟩,_⟩:=I.hok a _ f;have i:l≠a:=λz=>by rw[z,f]at g;cases g
 have sz:its.toArray.size=ys.length:=by simp_all
 refine oi (I.ok.hd w) (by rw[sz];exact b) %[_,e,rfl,n|rfl] i (by rw[sz];exact z) λs' acc c B C j E d=>?_
 have v:=I.dropped f t (λ_ _ _ e=>e) rfl rfl;have G:=I.dropped f t B C j;have lt:=let⟨_,j,_⟩:=b;Zt j;refine%[.ref ⇑s,_,v.stoodS (o:= .lst ys.reverse) G (Zh _) %[?_,acc.toList,c,?_|?_],rfl|q _ (v.hok.fresh (Zh _)) (Yr lt)]
 .rw[List.length_reverse];exact z
 .rw[d];exact A.reverse
 .exact E
def sJ(b:TE):TE:=λc H Q=>b c H λv a=>∃l ys,v= .ref l/\a l=some (.lst ys)/\∀p,a p=none->Q (.ref p) (upd a p (.lst ys.reverse))
theorem zW{X:Cx}(h:X.calm=true)(i:Gl X "reversed")(j:X.mg "reversed"=none)(a:Gl X "list")(b:X.mg "list"=none)(d:ba e=false)(m:QE X e n):
 QE X (.Call (.Name "list" o) [.Call (.Name "reversed" s) [e] [] t] [] u) (sJ n):=by
 have w:QE X (.Call (.Name _ s) [e] [] t) _:=ctE ⟨xi⟩ i j PyProof.Rows.boot_reversed rfl rfl (by simp[d]) (paE d (⟨Es m.h⟩) ap);have y:=ctE (p:=o) (pos:=u) ⟨sI h⟩ a b boot_list rfl rfl rfl (paE rfl w ap);refine⟨Et y.h λA H Q q=>?_⟩;refine%[_,q|λv B ⟨l,ys,z,c,q⟩=>%[l,ys,by rw[z],SqL.of c|λr f=>?_]];refine%[r,l,ys,rfl,by rw[am (ar c f)];exact c,aa|λp g _=>?_];rw[zy f]at g ⊢;exact q p g
section
variable{X:Cx}
def ED:R2:=λx y H Q=>asR x λa=>asR y λb=>∃xs,H a=some (.lst xs)/\H b=some (.lst [])/\Q (.bl (decide (xs≠[]))) H
theorem EE(A:X.A.units+64<cLine):OpR X (compareOp .NotEq) ED:=by
 intro pins s B H x y v u Q I l m h;obtain⟨a,rfl,o⟩:=eP h;obtain⟨b,rfl,xs,p,t,q⟩:=eP o;cases l;cases m;obtain⟨z,its,n,r,g,e⟩:=I.lstM p;obtain⟨C,its2,i,E,d,c⟩:=I.lstM t;obtain rfl:its2=[]:=length_eq_zero_iff.mp d.symm;by_cases f:xs=[]
 .subst f;obtain rfl:its=[]:=length_eq_zero_iff.mp g.symm;exact richCompare_meets_room (op:= .NotEq) %[_,e|rfl] %[_,c|rfl] PySem.F.slot_list_ne PySem.F.entry_list_ne (PySem.F.args_list_ne_2 _ _) (SeqAt.list_neAt a b #[] #[] n i none none #[] #[] rfl λ_=>true) %[e,c,λj h=>absurd h (Yv j),by simp,.bl _,H,I,rfl|q] ⋯
 .have w:its.toArray.size≠0:=by
   rw[Zo,<-g];exact λq=>f (length_eq_zero_iff.mp q)
  rw[Ze f]at q;exact richCompare_meets_room (op:= .NotEq) %[_,e|rfl] %[_,c|rfl] PySem.F.slot_list_ne PySem.F.entry_list_ne (PySem.F.args_list_ne_2 _ _) (SeqAt.list_ne_lengthsAt a b its.toArray #[] n i none none #[] #[] (by simpa using w)) %[e,c,by simp,.bl true,H,I,rfl|q] ⋯
theorem CZ(a:bV k X.A):OpQ X (compareOp .NotEq) ED:=⟨EE a.units⟩
end
section
#where
theorem eZ(I:List i->j->Shared->Prop):∀(xs:List i) (b:j) (s:Shared),I xs b s->
 (∀x r b s,I (x::r) b s->↥A (f x b) (λy s'=>match y with| .done c=>Q c s'| .yield c=>I r c s') E s)->(∀b s,I [] b s->Q b s)->↥A (forIn xs b f) Q E s
 |[],b,s,h,_,a=>by
  exact Z3 (a b s h)
 | x::r,b,s,h,d,a=>by
   rw[forIn_cons];refine Z2 (wpAny_mono (d x r b s h) (λy s' g=>?_) λ_ _ e=>e);cases y with
   | done c=>exact Z3 g
   | yield c=>exact eZ I r c s' g d a
theorem zX:∀as {Q:Bool->Shared->Prop},(∀b∈as,∃c,bj w b c s.heap)->Q true s->↥A (setsQuiet as) Q E s:=by
 intro as Q h j;refine Z2 (eZ (λr b s'=>(∀b∈r,∃c,bj w b c s.heap)/\b=(none,())/\s'=s) as _ s %[h,rfl|rfl] ?_ ?_)
 .rintro x r b s' ⟨f,rfl,rfl⟩;obtain⟨c,o,es,B,t,ss,l,m,n,p,C,q,d,G,v,y,g⟩:=f x Zl;refine Z2 (wpAny_setEntries_of l n v (Z2 ?_));rw[<-forIn_toList];refine eZ (λr b a=>(∀e∈r,∃z u,e=(hashStr w z,Value.str z u))/\b=(none,())/\a=s') es.toList _ _ %[d,rfl|rfl] ?_ ?_
  .rintro e r b a ⟨i,rfl,rfl⟩;obtain⟨z,u,rfl⟩:=i e Zl;exact Z3 %[λe h=>i e (Zj _ h),rfl|rfl]
  .rintro b a ⟨_,rfl,rfl⟩;exact Z3 %[λe h=>f e (Zj _ h),rfl|rfl]
 .rintro b s' ⟨_,rfl,rfl⟩;exact Z3 j
noncomputable def hsE(w:World)(p:Str×Tok):Int×Value:=(hashStr w p.1,.str p.1 p.2)
theorem bj.texts{a:Addr}{h:Heap}{o:Obj}{es:Array (Int×Value)}(c:StrsAre (es.toList.map (·.2)) ss)(f:ss.Perm ks)(d:∀e∈es.toList,∃z u,e=(hashStr w z,Value.str z u))(xs:List (Int×Value))(b:xs.Perm es.toList):∃zs:List (Str×Tok),xs=zs.map (hsE w)/\(zs.map (·.1)).Perm ks:=by
 have all:∀l,(∀e∈l,∃z u,e=(hashStr w z,Value.str z u))->∃zs:List _,l=zs.map (hsE w):=λl=>by
  induction l with
  | nil=>exact λ_=>%[[]|rfl]
  | cons e l g=>
    intro h;obtain⟨z,u,rfl⟩:=h e Zl;obtain⟨zs,rfl⟩:=g λx b=>h x (Zj _ b)
    exact%[(z,u)::zs|rfl]
 obtain⟨zs,rfl⟩:=all xs λe i=>d e (b.mem_iff.mp i)
 refine%[zs,rfl|?_];obtain⟨ts,j,m⟩:=ce c (b.map _);have e:ts=zs.map (·.1):=by
  rw[<-j.strs,Yk,Yk];rfl
 exact e▸m.trans f
theorem pK{f:List Addr}{c:ZH}{Q:Array (Int×Value)->Shared->Prop}(T:bj w a ks s.heap)(hO:∀b∈f,∃js,bj w b js s.heap)(m:∀r,c=some r->r≠a/\bj w r [] s.heap)
 (hQ:∀(zs:List (Str×Tok)) (d:Drawn) (h':Heap),(zs.map (·.1)).Perm ks->(∀b o,c≠some b->s.heap.get? b=some o->h'.get? b=some o)->(∀r,c=some r->bj w r [] h')->Q (zs.map (hsE w)).toArray {s with heap:=h',drawn:=d}):
 ↥A (setWalkUnseen a f c) Q E s:=by
 obtain⟨o,es,ep,t,ss,U,ae,Y,I,hp,ag,J,H,hf,L,g⟩:=id T;have fin:∀(xs:List _) d h',xs.Perm es.toList->(∀b o,c≠some b->s.heap.get? b=some o->h'.get? b=some o)->(∀r,c=some r->bj w r [] h')->Q xs.toArray {s with heap:=h',drawn:=d}:=λxs d h' hx q h2=>by
  obtain⟨zs,rfl,hz⟩:=bj.texts (a:=a) (h:=h') (o:=o) I hp J xs hx;exact hQ zs d h' hz q h2
 have walk:↥A (setWalk a) Q E s:=by
  refine Z2 (wpAny_setState_of U Y hf ?_);show wpAny _ _ (if aR w=true then _ else _) _ _ _;by_cases M:aR w=true
  .rw[if_pos M];refine Z2 (wpAny_askSetting (Z3 ?_));have:=fin (pickOrder (w.params.setOrder a ep) es).toList s.drawn s.heap (pA _ _) (λ_ _ _ e=>e) λr e=>(m r e).2
   exact this
  .rw[if_neg M]
   split
   .exact Z2 (qu es.size es.toList _ _ ∅ λys d p=>Z3 (fin ys d s.heap p (λ_ _ _ e=>e) λr e=>(m r e).2))
   .refine Z2 ?_;show wpAny _ _ (if(!t.led&&decide _)=true then unsupported _ else pure ()) _ _ _;rw[g,show aR w=false by simpa using M];refine Z3 (Z3 ?_);have:=fin es.toList s.drawn s.heap (.refl _) (λ_ _ _ e=>e) λr e=>(m r e).2
    exact this
 refine Z2 (wpAny_setState_of U Y hf ?_);show wpAny _ _ (if(aR w||t.led&&t.plain||decide _)=true then _ else _) _ _ _;by_cases q:(aR w||t.led&&t.plain||decide (es.size<=1))=true
 .rw[if_pos q];exact walk
 .rw[if_neg q];refine Z2 (zX _ (λb H=>?_) ?_)
  .rcases mem_cons.mp H with e|e
   .exact e▸%[_|T]
   .exact hO b e
  refine Z2 (wpAny_rule ?_);cases c with
  | none=>
    have:=fin es.toList s.drawn s.heap (.refl _) (λ_ _ _ e=>e) λr e=>(m r e).2
    exact Z3 this
  | some r=>
    obtain⟨ne,o2,N,ai,n,aj,i,u,j,v,O,y,B,C,G,ab,l⟩:=m r rfl;dsimp only;refine Z2 (wpAny_setState_of i j G ?_)
    split
    .refine Z2 (wpAny_storeSet_of i j ?_ (fits_of_scanBound C));have:=fin es.toList s.drawn _ (.refl _) (λb o H e=>((SameBut.update s.heap r (Obj.putSet N {n with led:=n.led&&t.led,plain:=n.plain&&t.plain})).2 b λz=>H (by rw[z])).trans e) λr' e=>?_
     .exact Z3 this
     .cases e;exact(bj.stored (t':={n with led:=n.led&&t.led,plain:=n.plain&&t.plain}) i u j v O y B C G (by rw[(L λz=>q (by rw[z];simp)),Bool.and_false]) (by rw[l,g,Bool.and_self])).2
    .have:=fin es.toList s.drawn s.heap (.refl _) (λ_ _ _ e=>e) λr e=>(m r e).2
     exact Z3 this
end
section
#where
theorem BX(h:jf (Sum.inr z) (Value.str y u)=true):y=z:=by
 rcases aU h with⟨i,t',a,b⟩|⟨c,t',a,b⟩
 .lia
 grind
theorem sK{ks:ZB}(g:s.heap.get? a=some o)(i:o.data= .set es G t)(b:∀e∈es.toList,∃z u,e=(hashStr w z,Value.str z u))(B:es.size<scanBound)(l:t.fits es.size=true)
 (m:∀r,(r=none->∀e∈es.toList,∀u,e.2≠ .str z u)->(∀j,r=some j->∃u,es.toList[j]? =some (hashStr w z,.str z u))->Q r s):↥A (setFind a (.str z tk) (hashStr w z)) Q E s:=by
 have n:ElemsOf (aM prog w) es.toList:=pq b;have c:(aM prog w).is (Sum.inr z) (.str z tk)=true:=dv z tk;refine Z2 (wpAny_setState_of g i l ?_);dsimp only;rw[byScan_of rfl B n];refine Z2 (wpAny_rule (Z2 (wpAny_setScan_of c g i l n ?_)));cases p:List.findIdx? _ es.toList with
 | some j=>
   obtain⟨v,d,_⟩:=List.findIdx?_eq_some_iff_getElem.mp p;dsimp only;rw[zero_add];refine Z3 (m _ (λh=>(nomatch h)) λH e=>?_);cases e;obtain⟨y,u,f⟩:=b _ (Y7 v);rw[f]at d;rw[BX (u:=u) d]at f;exact%[u|by rw[Z4 v,f]]
 | none=>
   refine Z3 (m none (λ_ e C u q=>?_) λj e=>(nomatch e));have:=List.findIdx?_eq_none_iff.mp p e C;rw[q,show(aM prog w).is (Sum.inr z) (Value.str z u)=true from dv z u]at this;cases this
theorem xj{t:SetTable}(h:t.fits n=true)(hi:i<n):(t.drop i).fits (n-1)=true/\(t.drop i).led=t.led/\(t.drop i).plain=t.plain:=by
 unfold SetTable.fits at h ⊢;rw[Zu,beq_iff_eq,decide_eq_true_eq]at h;unfold SetTable.drop;have:t.place[i]? =some t.place[i]:=by simp
 rw[this];refine%[?_,rfl|rfl];rw[Zu,beq_iff_eq,decide_eq_true_eq];unfold SetTable.fill at h ⊢;simp only[SetTable.eraseAt,SetTable.insertAt,size_append,Array.size_extract,Array.size_push]
 lia
theorem uN(h:i<es.size):(SetTable.eraseAt es i).toList=es.toList.eraseIdx i:=by
 rw[List.eraseIdx_eq_take_drop_succ,SetTable.eraseAt,toList_append,toList_extract,toList_extract,List.extract_eq_take_drop,List.extract_eq_take_drop];simp;exact Zm ∅
theorem sL{ks:ZB}(H:bj w a ks s.heap)(l:∀h' b,SameBut a s.heap h'->bj w a (ks.erase z) h'->Q b (s>>>h')):↥A (setDiscardHashed a (.str z tk) (hashStr w z)) Q E s:=by
 obtain⟨o,es,ep,t,ss,g,m,h,c,I,n,d,J,p,v,f⟩:=id H;refine Z2 (sK (ks:=ks) g h d J p λr L M=>?_);cases r with
 | none=>
   have N:z∉ks:=λq=>by
    obtain⟨u,j⟩:=(dR c).mpr (I.mem_iff.mpr q);obtain⟨e,y,O⟩:=Xa j;exact L rfl e y u O
   rw[List.erase_of_not_mem N]at l;exact Z3 (l s.heap false (SameBut.refl a s.heap) H)
 | some i=>
   obtain⟨u,j⟩:=M i rfl;have hi:i<es.size:=(X7 j).1;have B:((hashStr w z,Value.str z u)::(SetTable.eraseAt es i).toList).Perm es.toList:=by
    rw[uN hi];have:=eU (xs:=es.toList) (hi);rwa[(X7 j).2]at this
   obtain⟨ts,C,T⟩:=ce c (B.map _);cases C with
   | cons _ _ C=>
   obtain⟨U,Y,d3⟩:=xj p hi;have G:(SetTable.eraseAt es i).size=es.size-1:=by
    rw[<-Za,<-Za,<-B.length_eq];simp
   refine Z2 (wpAny_setState_of g h p ?_);dsimp only;refine Z2 (wpAny_storeSet_of g h (Z2 (wpAny_point (Z3 (l _ true (SameBut.update s.heap a _) (bj.stored g m h C ((List.cons_perm_iff_perm_erase.mp (T.trans I)).2) (n.erase z) (λe y=>d e (B.mem_iff.mp (Zj _ y))) ?_ ?_ ?_ ?_).2)))) (fits_of_scanBound ?_))
   .lia
   .exact G▸U
   .exact d3▸v ⋯
   .exact Y▸f
   .lia
end
theorem vO(h:STab.WF t es)(a:es.size<=t.mask):t.fits es.size=true:=by
 unfold SetTable.fits SetTable.fill;rw[h.size,h.dum];simpa using a
section
#where
def qM(w:World)(a:Addr)(n:Nat)(h:Heap):Prop:=∃o b t,h.get? a=some o/\o.ExactSet/\o.data= .set #[] b t/\t.place= #[]/\t.dummies= #[]/\t.led=(!aR w)/\(∃k,t.mask+1=2^k)/\7<=t.mask/\n<=t.mask
theorem qM.fits{t:SetTable}(a:t.place= #[])(b:t.dummies= #[]):t.fits (#[]:Array (Int×Value)).size=true:=by
 unfold SetTable.fits SetTable.fill;rw[a,b];simp
theorem BY{n:Nat}{Q:Unit->Shared->Prop}(a:s.heap.get? r=some (aS w))(f:n<=1000)(c:∀h',SameBut r s.heap h'->qM w r n h'->Q () (s>>>h')):↥A (setRoomFor r n) Q E s:=by
 have d:(SetTable.fresh 0 0 (!aR w)).fits _=true:=qM.fits rfl rfl;refine Z2 (wpAny_setState_of a rfl d ?_);show wpAny _ _ (match(if(0+n)*5>=7*3 then some ((0+n)*2)else none)with|some x=>setRelay r x|_=>pure ()) _ _ _;by_cases h:(0+n)*5>=7*3
 .rw[if_pos h];refine STab.relay_w a rfl d ∅ ⋯ λb t' P W l p g m2=>c _ (SameBut.update s.heap r _) ?_
  obtain rfl:b= #[]:=by
   have:=P.length_eq;simpa using this
  have e:=by
   have q:=get?_update_self (Obj.putSet #[] t') a (by rfl);rwa[putSet_of #[] t' rfl]at q
  exact%[_,_,t',e,%[rfl,rfl|rfl],rfl,Array.eq_empty_of_size_eq_zero W.size,W.dum,l,W.pow,W.big|⋯]
 .rw[if_neg h];exact Z3 (c s.heap (SameBut.refl r s.heap) %[_,_,_,a,%[rfl,rfl|rfl],rfl,rfl,rfl,rfl,%[3|rfl],Zh 7|by show n<=7;lia])
theorem zY{ks:ZB}(L:bj w a ks s.heap)(M:s.heap.get? r=some (aS w))(N:r≠a)(h1:1<=ks.length)(h2:ks.length<=1000)(O:∀h',SameBut r s.heap h'->bj w r ks h'->Q () (s>>>h')):↥A (setMerge r a) Q E s:=by
 obtain⟨o,es,ep,t,ss,T,U,Y,m,C,y,z,hb,G,B,d⟩:=id L;have hn:es.size=ks.length:=by
  have q:=bx m;rw[Z5,Za,C.length_eq]at q;exact q
 have pl:t.plain=false:=B ⋯;unfold setMerge;rw[if_neg (by simpa using N)];refine Z2 (wpAny_setState_of T Y G ?_);dsimp only;rw[if_neg (λh:es.isEmpty=true=>by have:=Zn h;lia)];refine Z2 (BY M ⋯ λh' sb ⟨o2,ab,n,g,u,i,H,I,J,k2,b2,m2⟩=>Z2 (wpAny_setState_of (s:=(s>>>h')) g i (qM.fits H I) ?_));dsimp only;have j:n.fill=0:=by unfold SetTable.fill;rw[H,I];rfl
 have put:∀(b:Array (Int×Value)) (t':SetTable),b.toList.Perm es.toList->t'.fits b.size=true->t'.plain=false->t'.led=(!aR w)->↥A (storeSet r b t') Q E (s>>>h'):=λb t' P f p l=>by
  have sz:b.size=es.size:=by rw[<-Za,P.length_eq,Za]
  obtain⟨ts,r1,r2⟩:=ce m (P.map (·.2));exact wpAny_storeSet_of (s:=(s>>>h')) g i (O _ (sb.trans (SameBut.update h' r _)) (bj.stored (w:=w) g u i r1 (r2.trans C) y (λe he=>z e (P.mem_iff.mp he)) ⋯ f p l).2) (fits_of_scanBound ⋯)
 unfold SetTable.road;rw[j,if_neg (by decide)]
 split
 .exact put es _ (.refl _) G (by show(n.plain&&t.plain)=false;rw[pl,Bool.and_false]) (by show(n.led&&t.led)=_;rw[J,d,Bool.and_self])
 .obtain⟨k,hk⟩:=k2;obtain⟨t',c,e1,e2,e3,e4,e5,W,P⟩:=STab.laid_ok hk b2 es ⋯ n.finger n.moves _ _;have sz:(c.filterMap (es[·]?)).size=es.size:=by rw[<-Za,P.length_eq,Za]
  rw[e1];refine Z2 ?_;show wpAny _ A (if((c.filterMap _).size != es.size)=true then _ else pure _) _ E _;rw[if_neg (by simp[sz])];exact Z3 (put _ t' P (show t'.fits _=true from vO W (by rw[sz,e2];lia)) (by rw[e4,pl,Bool.and_false]) (by rw[e3,J,d,Bool.and_self]))
 .rename_i v
  split at v<;> cases v
end
theorem bj.nd(S:bj w a ks h):ks.Nodup:=by
 obtain⟨_,_,_,_,_,_,_,_,_,_,h,_⟩:=S;exact h
section
#where
theorem qN(c:bj w b f s.heap)(d:Q true s):↥A (Builtin.Frozenset.isAnySet (.ref b)) Q E s:=by
 obtain⟨o,es,g,t,ss,e,a,_⟩:=c;exact Z2 (wpAny_isInstance (b:=true) %[o,e|a.1] (by kernel_rfl) (Z3 d))
theorem jY(d:bj w b e s.heap)(f:Q e.length s):↥A (Builtin.Frozenset.sizeOf b) Q E s:=by
 obtain⟨o,es,u,t,ss,g,h,i,a,j,l,m,v,n,p,c⟩:=d;have r:=by
  have q:=bx a;rw[Z5,Za,j.length_eq]at q;exact q
 exact Z2 (wpAny_setEntries_of g i n (Z3 (r▸f)))
theorem zZ(N:bj w r ks s.heap)(O:bj w b T s.heap)(ne:r≠b)(big:T.length<ks.length)(al:ks.length<=900)
 (hQ:∀h' d f,(∀c o,c≠r->s.heap.get? c=some o->h'.get? c=some o)->(∀x,x∈f↔x∈ks/\x∉T)->bj w r f h'->Q () {s with heap:=h',drawn:=d}):↥A (Builtin.Frozenset.differenceUpdate nm r (.ref b)) Q E s:=by
 unfold Builtin.Frozenset.differenceUpdate;rw[if_neg (by simpa using ne.symm)];refine Z2 (qN O ?_);rw[if_pos rfl];refine Z2 (Z3 (Z2 (jY O (Z2 (jY N ?_)))));rw[if_neg ⋯];obtain⟨o,es,ep,t,ss,ho,an,hd,as,hp,a0,a1,hb,hf,a2,aj⟩:=id O;have B:∀(s':Shared) (Q':Nat->Shared->Prop),s'.heap.get? b=some o->Q' ep s'->↥A (setEpoch b) Q' E s':=λs' Q' e q=>by
  unfold setEpoch;exact Z2 (wpAny_setState_of e hd hf (Z3 q))
 refine Z2 (B s _ ho (Z2 (wpAny_holding (Z2 (pK O (λc j=>%[ks|(X9 j)▸N]) (λ_ e=>(nomatch e)) λzs d h1 pz k1 _=>Z2 ?_)))));rw[<-forIn_toList];refine eZ (λxs _ s'=>∃g rest h',zs=g++rest/\xs=rest.map (hsE w)/\s'={s with heap:=h',drawn:=d}/\(∀c o,c≠r->s.heap.get? c=some o->h'.get? c=some o)/\∃f,bj w r f h'/\∀x,x∈f↔x∈ks/\x∉g.map (·.1)) _ _ _
  %[[],zs,h1,rfl,rfl,rfl,λc o _ e=>k1 c o ∅ e,ks,N.keep λo e=>k1 r o ∅ e|by simp] ?_ ?_
 .rintro x xs _ s' ⟨g,rest,h',U,ex,rfl,Y,f,S,h⟩;cases rest with
  | nil=>cases ex
  | cons p rest=>
  rw[Yj]at ex;injection ex with ab ae
  subst ab;refine Z2 (wpAny_holding (sL (z:=p.1) (tk:=p.2) (s:={s with heap:=h',drawn:=d}) S λh2 bb sb S2=>Z2 ?_));unfold Builtin.Frozenset.unchanged;have C:∀c o,c≠r->s.heap.get? c=some o->h2.get? c=some o:=λc o j e=>(sb.2 c j).trans (Y c o j e)
  refine Z2 (B {s with heap:=h2,drawn:=d} _ (C b o ne.symm ho) ?_);rw[if_neg ∅];refine Z3 (Z3 %[g++[p],rest,h2,by rw[U,Zd];rfl,ae,rfl,C,_,S2|λx=>?_]);rw[S.nd.mem_erase_iff,h,Zc,Yl,Yj,map_nil,Yq,not_or]
  constructor
  .exact λ⟨a,b,c⟩=>%[b,c|a]
  .exact λ⟨b,c,a⟩=>%[a,b|c]
 .rintro _ s' ⟨g,rest,h',U,ex,rfl,Y,f,S,h⟩;obtain rfl:rest=[]:=by
   cases rest with
   | nil=>rfl
   | cons p rest=>cases ex
  rw[Zw]at U;have h:∀x,x∈f↔x∈ks/\x∉T:=λx=>by rw[h,<-U,pz.mem_iff]
  have ag:f.length≠0:=λe=>by
   have:=STab.nodup_sub N.nd (m:=T) λx hx=>Decidable.byContradiction λq=>by
    have:=(h x).mpr %[hx|q];rw[length_eq_zero_iff.mp e]at this;cases this
   lia
  have sub:=STab.nodup_sub S.nd λx hx=>((h x).mp hx).1
  refine Z3 ?_;obtain⟨o2,n,a3,t2,a4,u,G,v,i,H,I,J,a5,L,M,y⟩:=id S;have hn:=by
   have q:=bx i;rw[Z5,Za,H.length_eq]at q;exact q
  refine Z2 (wpAny_setState_of u v L ?_);dsimp only
  split
  .rw[show SetTable.grown n.size=n.size*4 by unfold SetTable.grown;rw[if_neg ⋯]];refine STab.relay_w u v L ⋯ ⋯ λai t' P W l p m1 m2=>?_
   have sz:ai.size=n.size:=by rw[<-Za,P.length_eq,Za]
   obtain⟨ts,r1,r2⟩:=ce i (P.map (·.2));exact hQ _ d f (λc o j e=>((SameBut.update h' r _).2 c j).trans (Y c o j e)) h (bj.stored u G v r1 (r2.trans H) I (λe he=>J e (P.mem_iff.mp he)) ⋯ (vO W ⋯) (p▸M ⋯) (l▸y)).2
  .exact Z3 (hQ h' d f Y h S)
end
section
#where
theorem sM(a:Q (.ref ⇑s) (s>>>s.heap.push (aS w))):↥A (newSet (.type "set")) Q E s:=by
 exact Z2 (Z2 (wpAny_askSetting (Z3 (wpAny_newObj_type a))))
theorem sN(d:bj w a ks s.heap)(e:Q (.type "set") s):↥A (Builtin.Frozenset.baseOf a) Q E s:=by
 obtain⟨o,es,g,t,ss,f,c,_⟩:=d;exact Z2 (wpAny_isInstance (b:=true) %[o,f|c.1] (by kernel_rfl) (Z3 e))
theorem BZ(v:bj w a ks s.heap)(C:bj w b J s.heap)(ab:ks.length<=900)
 (hQ:∀h' d i,(∀c o,s.heap.get? c=some o->h'.get? c=some o)->(∀x,x∈i↔x∈ks/\x∉J)->bj w ⇑s i h'->Q (.ref ⇑s) {s with heap:=h',drawn:=d}):↥A (Builtin.Frozenset.difference nm a (.ref b)) Q E s:=by
 have lt:∀{c:Addr} {ls:ZB},bj w c ls s.heap->c≠⇑s:=λ{c ls} h=>by
  obtain⟨o,_,_,_,_,Y,_⟩:=h;exact Zr (Zt Y)
 have L:∀c o,s.heap.get? c=some o->(s.heap.push (aS w)).get? c=some o:=λc o e=>Z6 _ e
 have hr:(s.heap.push (aS w)).get? ⇑s=some (aS w):=Zi _ rfl;have S1:=v.keep λo e=>L a o e
 have O1:=C.keep λo e=>L b o e
 unfold Builtin.Frozenset.difference;dsimp only;refine Z2 (qN C ?_);rw[if_neg (by decide)];refine Z2 (Z3 ?_);rw[if_neg ∅,if_pos rfl];refine Z2 (jY C (Z2 (jY v ?_)))
 generalize hG:s.heap.push (aS w)=G at L hr S1 O1
 split
 .refine Z2 (wpAny_rule (Z2 ?_));unfold Builtin.Frozenset.copyOf;refine Z2 (sN v (Z2 (sM ?_)));rw[hG];refine Z2 (Z3 (Z2 (zY (s:=(s>>>G)) S1 hr (Ne.symm (lt v)) ⋯ ⋯ λh1 sb R1=>Z3 ?_)));have k1:∀c o,s.heap.get? c=some o->h1.get? c=some o:=λc o e=>(sb.2 c (Zr (Zt e))).trans (L c o e)
  exact Z2 (Z3 (Z2 (wpAny_holding (zZ (s:=(s>>>h1)) R1 (C.keep λo e=>k1 b o e) (Ne.symm (lt C)) ⋯ ab λl d i H y M=>Z3 (hQ l d i (λc o e=>H c o (Zr (Zt e)) (k1 c o e)) y M)))))
 .refine Z2 (sN v (Z2 (sM ?_)));rw[hG];refine Z2 (Z3 ?_);obtain⟨o,es,ep,t,ss,Y,a3,hd,a4,hp,a5,a6,hb,hf,a7,as⟩:=id S1;have N:∀(s':Shared) (Q':Nat->Shared->Prop),s'.heap.get? a=some o->Q' ep s'->↥A (setEpoch a) Q' E s':=λs' Q' e q=>by
   unfold setEpoch;exact Z2 (wpAny_setState_of e hd hf (Z3 q))
  refine Z2 (N (s>>>G) _ Y ?_);rw[if_pos rfl];refine Z2 (wpAny_holding (Z2 (pK (s:=(s>>>G)) S1 (λc B=>?_) (λr e=>⟨by cases e;exact Ne.symm (lt v),by cases e;exact bj.empty hr⟩) λzs d h1 pz k1 r1=>Z2 ?_)))
  .simp only[Yo,Yw,or_false]at B;rcases B with rfl|rfl
   .exact%[_|O1]
   .exact%[_|bj.empty hr]
  rw[<-forIn_toList];refine eZ (λxs _ s'=>∃f rest h',zs=f++rest/\xs=rest.map (hsE w)/\s'={s with heap:=h',drawn:=d}/\(∀c o,c≠⇑s->G.get? c=some o->h'.get? c=some o)/\∃i,bj w ⇑s i h'/\i.length<=f.length/\∀x,x∈i↔x∈f.map (·.1)/\x∉J) _ _ _
   %[[],zs,h1,rfl,rfl,rfl,(λc o B e=>k1 c o (λq=>B (Z9 q).symm) e),[],r1 _ rfl,Zh _|by simp] ?_ ?_
  .rintro x xs _ s' ⟨f,rest,h',I,ex,rfl,g,i,M,ml,y⟩;cases rest with
   | nil=>cases ex
   | cons p rest=>
   rw[Yj]at ex;injection ex with ae O
   subst ae;have zl:zs.length=ks.length:=by rw[<-pz.length_eq,Z5]
   have pl:f.length<ks.length:=by rw[<-zl,I,Z8,Zq];lia
   rw[if_pos rfl];have m:∀(l:Heap) Qx,(∀c o,c≠⇑s->G.get? c=some o->l.get? c=some o)->Qx (.yield ⟨⟩) {s with heap:=l,drawn:=d}->↥A (Builtin.Frozenset.unchanged nm a ep>>= λ_=>pure (ForInStep.yield PUnit.unit)) Qx E {s with heap:=l,drawn:=d}:=λl Qx H q=>by
    refine Z2 ?_;unfold Builtin.Frozenset.unchanged;refine Z2 (N {s with heap:=l,drawn:=d} _ (H a o (lt v) Y) ?_);rw[if_neg ∅];exact Z3 (Z3 q)
   have mem:∀x,x∈(f++[p]).map (·.1)↔x∈f.map (·.1)\/x=p.1:=λx=>by rw[Zc,Yl,Yj,map_nil,Yq]
   obtain⟨o2,a8,a9,t2,bf,ag,a0,ai,n,T,a1,U,aj,al,a2,an⟩:=id O1;refine Z2 (wpAny_holding (Z2 (sK (ks:=J) (z:=p.1) (tk:=p.2) (g b o2 (lt C) ag) ai U aj al λq q1 q2=>Z2 (Z3 ?_))));cases q with
   | none=>
     have hz:p.1∉J:=λz=>by
      obtain⟨u,hu⟩:=(dR n).mpr (T.mem_iff.mpr z);obtain⟨e,he,q3⟩:=Xa hu;exact q1 rfl e he u q3
     rw[if_pos (by rfl)];refine Z2 (jQ (z:=p.1) (tk:=p.2) M (by rw[show scanBound=4096 from rfl];lia) λl bb sb M2=>Z3 ?_);have H:=λc o B e=>(sb.2 c B).trans (g c o B e)
     refine m l _ H %[f++[p],rest,l,by rw[I,Zd];rfl,O,rfl,H,_,M2,?_|λx=>?_]
     .rw[Z8,Yd]
      split
      .lia
      .rw[Z8,Yd];lia
     .rw[mem];by_cases hx:x=p.1
      .subst hx;refine%[λ_=>%[.inr rfl|hz]|λ_=>?_]
       split
       .rename_i h;exact h
       .exact Yn _ Zl
      .split
       .rw[y];exact%[λh=>%[.inl h.1|h.2]|λh=>%[h.1.resolve_right hx|h.2]]
       .rw[Yl,Yq,y];exact%[λh=>let h:=h.resolve_right hx;%[.inl h.1|h.2]|λh=> .inl %[h.1.resolve_right hx|h.2]]
   | some j=>
     have hz:p.1∈J:=by
      obtain⟨u,hu⟩:=q2 j rfl;exact T.mem_iff.mp ((dR n).mp %[u|Xb %[_,Z7 hu|rfl]])
     rw[if_neg ∅];refine Z3 (m h' _ g %[f++[p],rest,h',by rw[I,Zd];rfl,O,rfl,g,i,M,by rw[Z8];lia|λx=>?_]);rw[y,mem];refine%[λh=>%[.inl h.1|h.2]|λh=>%[h.1.resolve_right λe=>h.2 (e▸hz)|h.2]]
  .rintro _ s' ⟨f,rest,h',I,ex,rfl,g,i,M,ml,y⟩;obtain rfl:rest=[]:=by
    cases rest with
    | nil=>rfl
    | cons p rest=>cases ex
   rw[Zw]at I;exact Z3 (Z3 (hQ h' d i (λc o e=>g c o (Zr (Zt e)) (L c o e)) (λx=>by rw[y,<-I,pz.mem_iff]) M))
end
theorem qO:entryFor table "set.__sub__"=some Builtin.«frozenset.__sub__»:=entryFor_alias (id':="frozenset.__sub__") (by kernel_rfl) rfl (by decide +kernel) (by kernel_rfl)
section
variable{X:Cx}
def z0(w:World):R2:=λx y H Q=>asR x λa=>asR y λb=>∃ks d,H a=some (jR w a ks)/\H b=some (jR w b d)/\ks.length<=900/\∀l c,H l=none->(∀x,x∈c↔x∈ks/\x∉d)->c.Nodup->Q (.ref l) (upd H l (jR w l c))
theorem B0:OpR X (binaryOp .Sub) (z0 X.w):=by
 intro pins s C H x y v u Q I m n h;obtain⟨a,rfl,p⟩:=eP h;obtain⟨b,rfl,ks,E,r,w,e,q⟩:=eP p;cases m;cases n;obtain⟨S,_,_⟩:=(I.hok a _ r)
 obtain⟨O,_,_⟩:=(I.hok b _ w)
 have f:∀{c:Addr} {j:ZB},bj X.w c j s.heap->s.TypeIs (.ref c) _:=λ{c j} h=>by
  obtain⟨o,es,G,t,ss,g,i,_⟩:=h;exact%[o,g|i.1]
 refine wpAny_binaryOp_same (f S) (f O) F.fills_set_sub F.slot_set_sub (wpAny_call_entry F.slot_set_sub (f S) qO (Z2 (Z2 (Z3 (Z3 (Z2 (Z2 (qN S (qN O (Z2 (Z3 (Z2 (BZ S O e λh' d l k z M=>Z3 %[_,rfl,by simp,.ref ⇑s,_,I.stoodS (o:=jR X.w ⇑s l) (I.keptS k rfl rfl) (Zh _) %[M,?_|λ_ _ A B=>bj.keep A B],rfl|q _ l (I.hok.fresh (Zh _)) z M.nd])))))))))))) (F.args_set_sub_2 _ _));obtain⟨o,_,_,_,_,g,_⟩:=M;exact%[o|g]
theorem EF(h:X.w=w):OpQ X (binaryOp .Sub) (z0 w):=by subst h;exact⟨B0⟩
end
theorem eD{X:Cx}(a:bV k X.A)(b:behindInMarks .NotIn o=false)(hi:QE X i ty)(c:QE X o d):QT X (.Compare i [.NotIn] [o] pos) (tB (qk ty d)):=
 ⟨yd (wv (by have:=a.units;lia) hi.h c.h) b⟩
open PySem PySem.Spec PyProof.Rows PySem.SeqAt
section
variable{X:Cx}
end
section
variable{X:Cx}{K:ZA}{pos:Pos}
theorem ac(i:Nat){x:Str}(h:(X.N[i]?,X.env.scope.names.lookup x,x==("__debug__":Str),x==("__classdict__":Str))=(some x,some .local,false,false)):QE X (.Name x pos) (nV i):=by
 simp only[Prod.mk.injEq]at h;exact vn i h.1 (.inl h.2.1) h.2.2.1 h.2.2.2
theorem bP(i:Nat){x:Str}(h:(X.N[i]?,X.env.scope.names.lookup x,x==("__debug__":Str),x==("__classdict__":Str))=(some x,some .cell,false,false)):QE X (.Name x pos) (nV i):=by
 simp only[Prod.mk.injEq]at h;exact vn i h.1 (.inr (.inl h.2.1)) h.2.2.1 h.2.2.2
theorem aG{mg:ZC}{j k:Nat}{x:Str}{ps:ZB}{sp:Sp}{p:Pos}{e:Expr}{es:List Expr}{t:TA}(C:Cal X.prog X.w K mg X.base j x ps sp)(a:bV k X.A)(h:(X.K,X.mg,X.env.kindOf x,Nat.ble j k,x==("__debug__":Str),(e::es).any ba)=(K,mg,some .globalImplicit,true,false,false))(b:QA X (e::es) t):QE X (.Call (.Name x p) (e::es) [] pos) (rE sp [] E0 t):=by
 simp only[Prod.mk.injEq]at h;obtain⟨rfl,rfl,h⟩:=h;exact calE C a h.1 h.2.1 h.2.2.1 h.2.2.2 b
theorem FQ{mg:ZC}{j k:Nat}{x:Str}{ps:ZB}{sp:Sp}{p:Pos}{e:Expr}{es:List Expr}{t:TA}(C:BQ X.prog X.w K mg X.base j x ps sp)(c:sC K mg x)(a:bV k X.A)(h:(X.K,X.mg,X.env.kindOf x,Nat.ble (j+1) k,x==("__debug__":Str),(e::es).any ba)=(K,mg,some .globalImplicit,true,false,false))(b:QA X (e::es) t):QE X (.Call (.Name x p) (e::es) [] pos) (vy (cr mg x) sp [] E0 t):=by
 simp only[Prod.mk.injEq]at h;obtain⟨rfl,rfl,h⟩:=h;exact FO C c a h.1 h.2.1 h.2.2.1 h.2.2.2 b
theorem sO{mg:ZC}{j k:Nat}{x m:Str}{ps:ZB}{sp:Sp}{a:Pos}{o:Expr}{b:TE}{pl:Sem Bool}(C:wY X.prog X.w K mg X.base j x m ps sp)(c:sC K mg x)(e:bV k X.A)(h:(X.K,X.mg,Nat.ble j k)=(K,mg,true))
 (g:eval (.Call (.Attribute o m a) [] [] pos) X.env=(do
  let d<-eval o X.env
  standAt a.atName
  let(f,first)<-holding [d] (getMethod d m pl)
  callWith pos f first (backTo pos (starEach [] X.env)) (backToKw pos (keywordEach [] X.env)))) (i:QE X o b):QE X (.Call (.Attribute o m a) [] [] pos) (vw (cr mg x) m sp [] E0 b tW):=by
 simp only[Prod.mk.injEq]at h;obtain⟨rfl,rfl,h⟩:=h;exact Ev C c e h g i
theorem cbO{x:Str}{id:String}{r:List V->Hp->VK->Prop}{p:Pos}{e:Expr}{es:List Expr}{t:TA}(a:cw X (.builtin id) r)(b:X.mg x=none)(c:bootBuiltins x=some (.builtin id))(h:(X.env.kindOf x,x==("__name__":Str),x==("__debug__":Str),(e::es).any ba)=(some .globalImplicit,false,false,false))(d:QA X (e::es) t):QE X (.Call (.Name x p) (e::es) [] pos) (tCB r t):=by
 simp only[Prod.mk.injEq]at h;exact cbE a h.1 b c h.2.1 h.2.2.1 h.2.2.2 d
theorem ctO{x:Str}{T:String}{r:List V->Hp->VK->Prop}{p:Pos}{e:Expr}{es:List Expr}{t:TA}(a:cw X (.type T) r)(b:X.mg x=none)(c:bootBuiltins x=some (.type T))(h:(X.env.kindOf x,x==("__name__":Str),x==("__debug__":Str),(e::es).any ba)=(some .globalImplicit,false,false,false))(d:QA X (e::es) t):QE X (.Call (.Name x p) (e::es) [] pos) (tCB r t):=by
 simp only[Prod.mk.injEq]at h;exact ctE a h.1 b c h.2.1 h.2.2.1 h.2.2.2 d
theorem bmO{o e:Expr}{es:List Expr}{d:TE}{t:TA}{name:Str}{a b:Pos}{T id:String}{r:V->List V->Hp->VK->Prop}(f:PlainAttrs T)(slot:Slot T name id)(c:typeOf (.builtin id)=pure (.type "method_descriptor"))(g:MtQ X id r)
 (h:(X.K,gJ o,(e::es).any ba,Nat.blt (e::es).length 30,a.endLine==b.line)=(K,false,false,true,true)) (i:QE X o d) (j:QA X (e::es) t):QE X (.Call (.Attribute o name a) (e::es) [] b) (tBM K T r d t):=by
 simp only[Prod.mk.injEq]at h;obtain⟨rfl,h⟩:=h;exact bmE rfl f slot c g h.1 h.2.1 h.2.2.1 h.2.2.2 i j
theorem aI(i:Nat){x:Str}{e:Expr}{b:TE}{a:Pos}(c:X.N.Nodup)(h:(X.N[i]?,X.env.scope.names.lookup x,gH e)=(some x,some .local,false))(d:QE X e b):QS X (.Assign [.Name x a] e pos) (pY b (jh i)):=by
 simp only[Prod.mk.injEq]at h;exact kC i c h.1 (.inl h.2.1) (.inr h.2.1) h.2.2 d
theorem aJ(i:Nat){x:Str}(a:X.N.Nodup)(h:(X.N[i]?,X.env.scope.names.lookup x)=(some x,some .local)):QG X (.Name x pos) (jh i):=by
 simp only[Prod.mk.injEq]at h;exact mL i a h.1 (.inl h.2) (.inr h.2)
end
section
#where
variable{K:ZA}{x C:Addr}{name:Str}{v:Value}{ox:Obj}
end
section
variable{X:Cx}{o value:Expr}{nm:Str}{ta tv:TE}{C:Addr}{pos pos':Pos}
end
section
variable{P:Program}{w:World}{K:ZA}{mg:ZC}{base:Heap}{x qual:Str}{st:Stmt}{N ps:ZB}{k:Nat}{sp:Sp}
end
section
#version
end
section
variable{X:Cx}
abbrev FR:R2:=λx y H Q=>∃a b xs,x= .ref a/\y= .ref b/\H a=some (.lst xs)/\H b=some (.lst [])/\Q (.bl (decide (xs=[]))) H
theorem EG(p:X.A.units+64<cLine):OpR X (compareOp .Eq) FR:=by
 intro pins s r H x y v u Q I d f h;obtain⟨a,b,xs,rfl,rfl,m,n,q⟩:=h;cases d;cases f;obtain⟨us,d,i,_⟩:=I.list (SqL.of m);obtain⟨vs,f,l,_⟩:=I.list (SqL.of n);obtain rfl:vs=[]:=length_eq_zero_iff.mp f.length.symm;by_cases g:xs=[]
 .subst g;obtain rfl:us=[]:=length_eq_zero_iff.mp d.length.symm;have c:=RcAt.lists (A:=X.A) (e:=λ_=>true) i.isList l.isList rfl ⋯ λj o t=>absurd o (Yv _)
  exact c _ _ _ _ %[.bl _,H,I,rfl|q]
 .rw[Zg g]at q;have c:=RcAt.lists_lengths (A:=X.A) i.isList l.isList (by
   have:us.length≠0:=d.length▸λq=>g (length_eq_zero_iff.mp q)
   simpa using this) ⋯
  exact c _ _ _ _ %[.bl _,H,I,rfl|q]
theorem C0(a:bV k X.A):OpQ X (compareOp .Eq) FR:=⟨EG a.units⟩
end
section
#version
end
section
variable{X:Cx}
theorem pL:∀{a:ZK} {us:ZF},aH (a.map V.int) us->∃ps:List (Int×Tok),ps.map (·.1)=a/\us=ps.map λp=>Value.int p.1 p.2
 |[],_,.nil=>%[[],rfl|rfl]
 | n::a,_,.cons r v=>by
   obtain⟨t,rfl⟩:=r;obtain⟨ps,rfl,rfl⟩:=pL v;exact%[(n,t)::ps,rfl|rfl]
end
noncomputable def oj(L:List Addr)(c:Addr->Obj)(H:Hp):Hp:=λb=>if b∈L then(match H b with|some (.dK a)=>some (.frz (c b) (.dK a))|x=>x)else H b
theorem jZ(h:b∈L)(e:H b=some (.dK a)):oj L c H b=some (.frz (c b) (.dK a)):=by
 unfold oj;rw[if_pos h,e]
theorem iI(h:b∉L):oj L a H b=H b:=if_neg h
theorem gU(h:∀a,H b≠some (.dK a)):oj L d H b=H b:=by
 unfold oj;by_cases c:b∈L
 .rw[if_pos c];cases e:H b with
  | none=>rfl
  | some o=>cases o<;> first|rfl|exact(h _ e).elim
 .rw[if_neg c]
section
variable{P:Program}{w:World}{K:ZA}{mg:ZC}{base:Heap}{k:Nat}{f:Addr}{fd:FuncData}{ps:ZB}{sp:Sp}
theorem B1(x:HOk P w H h):HOk P w (oj L (λb=>(h.get? b).getD default) H) h:=by
 intro b o e;have st:∀{b:Addr} {o:HO},bQ P w H h b o->bQ P w (oj L (λb=>(h.get? b).getD default) H) h b o:=λq=>q.stay (λ_ _ _ q=>q) (λc q=>by rw[gU (λa z=>by lia)];exact q) λc xs q=>by rw[gU (λa z=>by rw[q]at z;cases z)];exact q
 by_cases c:b∈L
 .by_cases d:∃a,H b=some (.dK a)
  .obtain⟨a,d⟩:=d;rw[jZ c d]at e;cases e;obtain⟨i,g⟩:=(x b _ d).there;exact%[by rw[g];rfl|st (x b _ d)]
  .rw[gU (λa z=>d %[a|z])]at e;exact st (x b o e)
 .rw[iI c]at e;exact st (x b o e)
theorem EH(u:Un fs [] H c h h'):Un fs [] H (oj L g c) h h':=by
 refine%[u.keep,u.slot,λb o e n d=>?_,u.there,λb xs e=>?_,λb o v e=>?_|λb q e=>?_]
 .have:=u.free b o e n d;rw[gU (λa z=>by lia)];exact this
 .have:=u.tups b xs e;rw[gU (λa z=>by rw[this]at z;cases z)];exact this
 .have:=u.frzs b o v e;rw[gU (λa z=>by rw[this]at z;cases z)];exact this
 .obtain⟨m,this⟩:=u.tbls b q e;exact%[m|by rw[gU (λa z=>by rw[this]at z;cases z)];exact this]
theorem eC.freeze(F:eC P w K mg base CX0 k f fd ps sp):eC P w K mg base CX0 k f fd ps (λvs H Q E=>sp vs H (λv b=>∃L,∀c,Q v (oj L c b)) E):=by
 refine%[λvs H Q E=>F.len vs H _ E|λA outer s H args us vs Q E d g h i j=>codeAny_mono (F.run A outer s H args us vs _ E d g h i j) λr s' a=>?_];cases r with
 | error e=>exact a
 | ok l=>
   cases l with
   | ret u=>
     obtain⟨v,y,m,n,o,p,q,L,t⟩:=a;exact%[v,_,m,n,EH o,B1 p,q|t _]
   | next=>exact a
   | brk=>exact a
   | cont=>exact a
theorem eC.frozen(F:eC P w K mg base CX0 k f fd ps sp):eC P w K mg base CX0 k f fd ps (λvs H Q E=>∃d a,vs.length=ps.length/\H d=some (.dK a)/\∀o,sp vs (upd H d (.frz o (.dK a))) (λv L=>Q v (upd L d (.dK a))) E):=by
 refine%[λvs H Q E ⟨d,a,l,_⟩=>l|λA outer s H args us vs Q E M g B N ⟨d,a,_,C,O⟩=>?_];obtain⟨o,T⟩:=(g.hok d _ C).there;have h:∀{b:Addr},H b=none->b≠d:=λe z=>by rw[z,C]at e;cases e
 have m:∀{b:Addr} {u:HO},H b=some u->(∀q,u≠ .dK q)->b≠d:=λe n z=>by rw[z,C]at e;cases e;exact n _ rfl
 have st:∀{b:Addr} {u:HO},bQ P w H s.heap b u->bQ P w (upd H d (.frz o (.dK a))) s.heap b u:=λq=>q.stay (λ_ _ _ q=>q) (λc q=>(am (m q λ_ z=>nomatch z))▸q) λc xs q=>(am (m q λ_ z=>nomatch z))▸q
 have G:tX P w K mg base A outer s (upd H d (.frz o _)):=⟨g.frames,g.mod,λb i e=>%[(g.bs b i e).1|by rw[am (h (g.bs b i e).2)];exact(g.bs b i e).2],g.bsz,g.funs,λb B=>by rw[am (h (g.frf b B))];exact g.frf b B,λb u e=>by
  by_cases c:b=d
  .subst c;rw[aa]at e;cases e;exact%[T|st (g.hok b _ C)]
  .rw[am c]at e;exact st (g.hok b u e),g.bare⟩
 refine codeAny_mono (F.run A outer s _ args us vs _ E M G B N (O o)) λr s' p=>?_
 cases r with
 | error e=>exact p
 | ok U=>
   cases U with
   | next=>exact p
   | brk=>exact p
   | cont=>exact p
   | ret u=>
     obtain⟨v,I,Y,h2,j,J,h5,h6⟩:=p;have hf:=j.frzs d o _ aa;have t:∀{b:Addr} {u:HO},I b=some u->(∀o q,u≠ .frz o q)->b≠d:=λe n z=>by grind
     have y:∀{b:Addr} {u:HO},bQ P w I s'.heap b u->bQ P w (upd I d (.dK a)) s'.heap b u:=λq=>q.stay (λ_ _ _ q=>q) (λc q=>(am (t q λ_ _ z=>nomatch z))▸q) λc xs q=>(am (t q λ_ _ z=>nomatch z))▸q
     refine%[v,_,Y,h2,%[λb i e n=>j.keep b i e ((am (h n))▸n),λb i e n=>j.slot b i e ((am (h n))▸n),λb i e n hx=>?_,j.there,λb xs e=>?_,λb i u e=>?_|λb q e=>?_],λb u e=>?_,h5|h6]
     .rw[am (h n)];exact j.free b i e ((am (h n))▸n) hx
     .have n:=m e λ_ z=>nomatch z
      rw[am n];exact j.tups b xs ((am n)▸e)
     .have n:=m e λ_ z=>nomatch z
      rw[am n];exact j.frzs b i u ((am n)▸e)
     .have n:=m e λ_ z=>nomatch z
      rw[am n];exact j.tbls b q ((am n)▸e)
     .by_cases c:b=d
      .subst c;rw[aa]at e;cases e;exact y (J b _ hf).2
      .rw[am c]at e;exact y (J b u e)
end
noncomputable def Itk(d:Addr)(o:Obj)(a:List (Key×V)):It:=⟨λi H=>H d=some (.frz o (.dK a))/\i<a.length,λi H x b=>b=H/\∃k v,a[i]? =some (k,v)/\x=kV k,λi H=>H d=some (.frz o (.dK a))/\a.length<=i⟩
def lJ(c:TE):TI:=λe H R=>c e H λv b=>∃d o a,v= .ref d/\b d=some (.frz o (.dK a))/\R (Itk d o a) b
theorem vP(h:jf k v=true):aN (kV k) v:=by
 rcases aU h with⟨i,t,rfl,rfl⟩|⟨x,t,rfl,rfl⟩
 .exact%[t|rfl]
 .exact%[t|rfl]
theorem z1{a:List _}{vs:List _}(r:KV a vs){i:Nat}{k:Key}{v:V}(e:a[i]? =some (k,v)):∃u,vs[i]? =some (k,u)/\aN v u:=by
 induction r generalizing i with
 | nil=>cases e
 | @cons p q ps qs b t c=>
   cases i with
   | zero=>
     obtain rfl:p=(k,v):=Z9 e;exact%[q.2,by rw[show k=q.1 from b.1];rfl|b.2]
   | succ i=>exact c e
theorem iJ(r:KV a vs):a.length=vs.length:=by
 induction r with
 | nil=>rfl
 | cons _ _ b=>simp_all
section
variable{P:Program}{w:World}{K:ZA}{tg:Expr}
theorem qP{X:Cx}(I:Inv X pins m H s)(e:H d=some (.frz o (.dK a)))(b:o.data= .dict es f):∃vs,KV a vs/\s.heap.DictAt (aM X.prog X.w) d vs f:=by
 obtain⟨g,n,p,vs,r,q,h,i,g',j,c,l⟩:=I.hok d _ e;rw[g]at g';cases g';rw[b]at c;cases c;exact%[vs,r,_,es,g,j,b|l]
theorem z3(d it:Addr)(o:Obj)(kvs:List _):mw P w K tg (Itk d o kvs) [it] it (λi h=>∃es ep,o.data= .dict es ep/\h.IsKeyIter it d i kvs.length ep) where
 mem:=by simp
 obj:=λi h st b hb=>by
  have e:=by simpa using hb
  subst e;obtain⟨_,_,_,o,e,c,d⟩:=st;exact%[o,e|λv z=>by rw[d]at z;cases z]
 keep:=λi h h' ⟨es,ep,ho,st⟩ k=>%[es,ep,ho|st.at λo e=>k it ∅ o e]
 item:=by
  intro X hP hw hK hc i pins s σ H E I hf st hg;subst hP hw hK;obtain⟨es,ep,ho,st⟩:=st;obtain⟨hd,hi⟩:=hg;obtain⟨vs,r,da⟩:=qP I hd ho;have ln:=iJ r;obtain⟨u,hu,ru⟩:=z1 r (Z4 hi);obtain⟨f0,f1,f2,f3,f4,f5⟩:=hf it ∅;rw[ln]at st;refine wpAny_pyNext_dict_item st da hu λkey h' hk st' sb=>?_
  rw[<-ln]at st';obtain⟨o',e,c,dd⟩:=id st';exact%[key,rfl|oN e c dd (by decide) %[_,H,(I.turned (λb o hb e=>(sb.2 b hb).trans e) f0 f1 f3 f4 f5),vP hk,%[rfl,_,_,Z4 hi|rfl],%[es,ep,ho|st']|λb hb=>(hf b hb).1]]
 done:=by
  intro X hP hw hK hc i pins s σ H E I hf st hg;subst hP hw hK;obtain⟨es,ep,ho,st⟩:=st;obtain⟨hd,hi⟩:=hg;obtain⟨vs,r,da⟩:=qP I hd ho;have ln:=iJ r;obtain⟨f0,f1,f2,f3,f4,f5⟩:=hf it ∅;rw[ln]at st;exact wpAny_pyNext_dict_end (I.ok.hd hc) st da (X6 ⋯) λh' eb=>%[rfl|I.turned (λb o hb e=>eb b o hb e) f0 f1 f3 f4 f5]
 self:=λ_ _ _ _ _ ⟨_,_,_,st⟩ h=>wpAny_pyIter_keyiter st h
theorem B2{X:Cx}(m:PE X l n):PI X tg l (lJ n):=by
 intro pins s p H R I h;refine thP (m pins s p H _ I h) λv c x t a u y=>?_
 obtain⟨d,o,f,e,z,q⟩:=y;subst e;cases u;obtain⟨g,L,A,vs,r,B,es,i,g',C,j,E⟩:=a.hok d _ z;have G:c.heap.DictAt _ d vs i:=%[B,es,g',C,j|E]
 rw[g]at g';cases g';refine wpAny_pyIter_dict A G %[⇑c,[⇑c],_,_,t,rfl,a.kept λb o e=>Z6 _ e,z3 d _ o f,%[es,i,j,_,Zi _ rfl,rfl|by rw[iJ r];rfl],λb J=>?_|q];have e:=by simpa using J
 subst e;exact a.fpOk (Zh _) (a.hok.fresh (Zh _))
theorem pM{X:Cx}(a:QE X l b):QI X tg l (lJ b):=⟨B2 a.h⟩
end
noncomputable def Iti(d:Addr)(o:Obj)(a:List (Key×V)):It:=⟨λi H=>H d=some (.frz o (.dK a))/\i<a.length,λi H v b=>∃k x T,a[i]? =some (k,x)/\H T=none/\v= .ref T/\b=upd H T (.tup [kV k,x]),λi H=>H d=some (.frz o (.dK a))/\a.length<=i⟩
def uO(c:TE):TI:=λe H R=>c e H λv b=>∃d o a,v= .ref d/\b d=some (.frz o (.dK a))/\R (Iti d o a) b
theorem qQ:entryFor table "dict_itemiterator.__iter__"=some Builtin.«dict_keyiterator.__iter__»:=
 entryFor_alias (id (Eq.refl (fastTable "dict_itemiterator.__iter__"))) (Eq.refl ("dict_itemiterator.__iter__".cutAt '#')) (by decide +kernel) (id (Eq.refl (fastTable "dict_keyiterator.__iter__")))
section
variable{P:Program}{w:World}{K:ZA}{elts:List Expr}{kt:Nat}{tp:Pos}
theorem uP(d it:Addr)(o:Obj)(kvs:List (Key×V)):mw P w K (.Tuple elts kt tp) (Iti d o kvs) [it] it (λi h=>∃es ep ok ov,o.data= .dict es ep/\IsItemIter h it d i kvs.length ep ok ov) where
 mem:=by simp
 obj:=λi h st b hb=>by
  have e:b=it:=by simpa using hb
  subst e;obtain⟨_,_,_,_,_,e⟩:=st;exact%[_,e|λv z=>nomatch z]
 keep:=λi h h' ⟨es,ep,ok,ov,ho,st⟩ k=>%[es,ep,ok,ov,ho|k it ∅ _ st]
 item:=by
  intro X hP hw hK hc i pins s σ H E I hf st hg;subst hP hw hK;obtain⟨es,ep,ok,ov,ho,st⟩:=st;obtain⟨hd,hi⟩:=hg;obtain⟨vs,r,da⟩:=qP I hd ho;have ln:=iJ r;obtain⟨u,hu,ru⟩:=z1 r (Z4 hi);have ilt:it<⇑s:=Zt st;rw[ln]at st;refine wpAny_pyNext_items_item st da hu λkey h1 hk st1 ht1 hz1 hk1=>%[_,rfl|wpAny_letOwnedTupleGo_items (s:=(s>>>h1)) st1 λh2 st2 sb2=>?_]
  replace sb2:SameBut it h1 h2:=sb2;have kk:∀b o,b∉[it]->s.heap.get? b=some o->h2.get? b=some o:=λb o hb q=>by
   have hb:b≠it:=by simpa using hb
   exact(sb2.2 b hb).trans (hk1 b o hb q)
  have J:Inv X pins σ H (s>>>h2):=I.moved hf kk;have hT:=(sb2.2 _ (Yr ilt)).trans ht1;have I2:Inv X pins σ (upd H ⇑s (.tup _)) _:=
   I.stood J (Zh _) %[by show 2<=sizeLine;decide,[key,u],.cons (vP hk) (.cons ru .nil),_,hT,rfl,_|rfl]
  rw[<-ln]at st2;refine%[.ref ⇑s,_,I2,rfl,%[_,_,_,Z4 hi,I.fresh,rfl|rfl],%[es,ep,_,_,ho|st2]|λb hb=>?_];rw[am ((by simpa using hb)▸Zr ilt)];exact(hf b hb).1
 done:=by
  intro X hP hw hK hc i pins s σ H E I hf st hg;subst hP hw hK;obtain⟨es,ep,ok,ov,ho,st⟩:=st;obtain⟨hd,hi⟩:=hg;obtain⟨vs,r,da⟩:=qP I hd ho;have ln:=iJ r;rw[ln]at st;refine wpAny_pyNext_items_end (I.ok.hd hc) st da (X6 ⋯) λh1 xb=>%[rfl|I.moved hf λb o hb q=>?_]
  exact xb b o (by simpa using hb) q
 self:=λA i s Q E ⟨_,_,_,_,_,st⟩ h=>by
  have hT:s.TypeIs (.ref it) _:=%[_,st|rfl]
  exact wpAny_pyIter_slot hT PySem.F.slot_dict_itemiterator_iter (wpAny_call_entry PySem.F.slot_dict_itemiterator_iter hT qQ (Z3 %[.ref it,rfl,"dict_itemiterator",_,hT,PySem.F.slot_dict_itemiterator_next.lookup|h]) (PySem.F.args_dict_itemiterator_iter_1 _))
theorem z4{X:Cx}(n:gJ o=false)(c:(i.endLine==j.line)=true)(E:QE X o G):QI X (.Tuple elts kt tp) (.Call (.Attribute o "items" i) [] [] j) (uO G):=by
 refine⟨λpins s z H R I h=>?_⟩;refine wpAny_Call_method0_late (fF n) c (thP (E.h pins s z H _ I h) λv a x p l J L=>?_);obtain⟨d,t,f,e,u,q⟩:=L;subst e;cases J;have g:bJ p d (kV (.inr Str.empty)) (bz f (.inr Str.empty)):= .inl %[f,_,.inr %[t|u],rfl|rfl];refine%["dict",_,plainAttrs_dict,PySem.F.slot_dict_items,PySem.F.type_dict_items,lC l g,rJ l g|Calls.callWith_builtin rfl (PySem.evalArgs_none ?_)];obtain⟨hz,M,vs,r,A⟩:=lB l.hok (.inr %[t|u]);refine call_meetsIn PySem.F.slot_dict_items A.typeIs PySem.F.entry_dict_items (PySem.F.args_dict_items_1 _) (meets_dict_items (aM X.prog X.w) d M) %[%[vs|A]|?_];have m:Inv X pins z p {a with heap:=a.heap.push {cls:= .type "dict_items",data:= .fields #[.ref d]}}:=l.kept (t':=a.toks) λb o e=>Z6 _ e
 obtain⟨N,_,_,y,O,Q,es,B,g',T,C,U⟩:=m.hok d _ u;have Y:Heap.DictAt (aM X.prog X.w) (a.heap.push {cls:= .type "dict_items",data:= .fields #[.ref d]}) d y B:=%[Q,es,g',T,C|U]
 rw[N]at g';cases g';refine wpAny_pyIter_items (s:={a with heap:=a.heap.push {cls:= .type "dict_items",data:= .fields #[.ref d]}}) %[_,Zi _ rfl,rfl|rfl] Y ?_;refine%[_,[_],_,_,p,rfl,(m.kept (t':=a.toks) λb o e=>Z6 _ e),uP d _ t f,%[es,B,_,_,C|by rw[iJ O];exact Zi _ rfl],λb n=>?_|q];have e:b=(a.heap.push {cls:= .type "dict_items",data:= .fields #[.ref d]}).objs.size:=by simpa using n
 subst e;exact m.fpOk (Zh _) (m.hok.fresh (Zh _))
end
section
variable{X:Cx}
theorem FS:MtQ X "list.pop" FE:=⟨DS⟩
def FT:V->List V->Hp->VK->Prop:=λx vs H Q=>asR x λa=>∃b,vs=[.ref b]/\∃c more,a≠b/\H a=some (.dK c)/\H b=some (.dK more)/\c.length+more.length<=sizeLine/\Q .non (upd H a (.dK (kr c more)))
theorem EI:MtM X "dict.update" FT:=by
 intro pins s C H x vs v us Q I m n h;obtain⟨a,rfl,b,rfl,o,more,p,g,r,i,q⟩:=eP h;cases m;obtain⟨u,rfl,t⟩:=n.one;cases t;obtain⟨z,w,vs,d,j⟩:=jI I.hok g;obtain⟨E,e,y,c,f⟩:=jI I.hok r;exact call_meetsIn PySem.F.slot_dict_update j.typeIs PySem.F.entry_dict_update (PySem.F.args_dict_update_2 _ _) (meets_dict_update _ a b p e) %[vs,y,j,f,by rw[<-iJ d,<-iJ c];exact i|λh' l G A=>%[.non,_,l7 I (g▸True.intro) A (let⟨q,_,_,B,_⟩:=l;%[q|B]) (t9 (Y9 (jk _ _) i) w (KV.merge c d) l),rfl|q]]
theorem z5:MtQ X "dict.update" FT:=⟨EI⟩
def C1:V->List V->Hp->VK->Prop:=λx vs H Q=>asR x λa=>∃k,vs=[kV k]/\∃b,H a=some (.dK b)/\Q ((bz b k).getD .non) H
theorem B3:MtM X "dict.get" C1:=by
 intro pins s l H x vs v us Q I f g h;obtain⟨a,rfl,k,rfl,b,e,q⟩:=eP h;cases f;obtain⟨m,rfl,i⟩:=g.one;obtain⟨z,j,vs,c,d⟩:=jI I.hok e;exact call_meetsIn slot_dict_get d.typeIs PySem.F.entry_dict_get (PySem.F.args_dict_get_2 _ _) (meets_dict_get _ a (lA i) j) %[_,d.mapOf,(bz b k).getD .non,H,I.tok _,(c.val k).getD rfl|q]
theorem EJ:MtQ X "dict.get" C1:=⟨B3⟩
end
theorem Cal.freeze{P:Program}{K:ZA}(C:Cal P w K mg base k x ps sp):Cal P w K mg base k x ps (λvs H Q E=>sp vs H (λv a=>∃L,∀b,Q v (oj L b a)) E):=by
 obtain⟨f,c,F,r⟩:=C.ex;exact%[f,c,F.freeze|r]
theorem Cal.imp{P:Program}{K:ZA}(C:Cal P w K mg base k x ps sp)(h:∀vs H Q E,a vs H Q E->sp vs H Q E):Cal P w K mg base k x ps a:=by
 obtain⟨f,b,F,r⟩:=C.ex;exact%[f,b,F.imp h|r]
theorem Cal.frozen{P:Program}{K:ZA}(C:Cal P w K mg base k x ps sp):Cal P w K mg base k x ps (λvs H Q E=>sp vs H Q E\/∃d a,vs.length=ps.length/\H d=some (.dK a)/\∀o,sp vs (upd H d (.frz o (.dK a))) (λv i=>Q v (upd i d (.dK a))) E):=by
 obtain⟨f,j,F,r⟩:=C.ex;refine%[f,j,%[λvs H Q E h=>h.elim (F.len vs H Q E) (F.frozen.len vs H Q E)|λA outer s H args us vs Q E b c e g h=>h.elim (F.run A outer s H args us vs Q E b c e g) (F.frozen.run A outer s H args us vs Q E b c e g)]|r]
theorem ng{a:List (Key×V)}{g:TG}{n:TS}{D:kj}(Pv:Nat->St->Hp->Prop)(s:Pv 0 b H)(t:∀i b H,i<=a.length->Pv i b H->H d=some (.frz o (.dK a)))
 (u:∀i k v b H,a[i]? =some (k,v)->Pv i b H->g (kV k) b H λc l=>n {D with nx:=Pv (i+1),ct:=Pv (i+1),bk:=D.nx} c l) (w:∀b H,Pv a.length b H->D.nx b H):
 ∃W:Nat->Nat->St->Hp->Prop,(∃m,W 0 m b H)/\∀i m b H,W i m b H->
  ((Itk d o a).stop i H/\D.nx b H)\/((Itk d o a).go i H/\∃N:St->Hp->Prop,(∀f h,N f h->∃r,r<m/\W (i+1) r f h)/\∀x h,(Itk d o a).yld i H x h->g x b h λc l=>n {D with nx:=N,ct:=N,bk:=D.nx} c l):=by
 refine%[λi m b H=>m=a.length-i/\i<=a.length/\Pv i b H,%[a.length,by simp,X1 _|s]|?_];rintro i m b H ⟨rfl,hi,p⟩;have q:=t i b H hi p;by_cases j:i<a.length
 .refine .inr %[%[q|j],Pv _,λf h z=>%[a.length-(i+1),⋯,rfl,j|z]|λx h y=>?_];obtain⟨e,k,v,y,rfl⟩:=y;subst e;exact u i k v b _ y p
 .have e:i=a.length:=by lia
  subst e;exact .inl %[%[q|Zh _]|w b H p]
theorem xk{a:List (Key×V)}{g:TG}{r:TS}{D:kj}(Pv:Nat->St->Hp->Prop)(t:Pv 0 b H)(u:∀i b H,i<=a.length->Pv i b H->H d=some (.frz o (.dK a)))
 (w:∀i k v T b H,a[i]? =some (k,v)->Pv i b H->H T=none->g (.ref T) b (upd H T (.tup [kV k,v])) λc n=>r {D with nx:=Pv (i+1),ct:=Pv (i+1),bk:=D.nx} c n) (z:∀b H,Pv a.length b H->D.nx b H):
 ∃W:Nat->Nat->St->Hp->Prop,(∃m,W 0 m b H)/\∀i m b H,W i m b H->
  ((Iti d o a).stop i H/\D.nx b H)\/((Iti d o a).go i H/\∃N:St->Hp->Prop,(∀h j,N h j->∃s,s<m/\W (i+1) s h j)/\∀x j,(Iti d o a).yld i H x j->g x b j λc n=>r {D with nx:=N,ct:=N,bk:=D.nx} c n):=by
 refine%[λi m b H=>m=a.length-i/\i<=a.length/\Pv i b H,%[a.length,by simp,X1 _|t]|?_];rintro i m b H ⟨rfl,hi,p⟩;have q:=u i b H hi p;by_cases l:i<a.length
 .refine .inr %[%[q|l],Pv _,λh j A=>%[a.length-(i+1),⋯,rfl,l|A]|λx j y=>?_];obtain⟨k,v,T,y,f,rfl,rfl⟩:=y;exact w i k v T b H y p f
 .have e:i=a.length:=by lia
  subst e;exact .inl %[%[q|Zh _]|z b H p]
section
variable{X:Cx}
end
section
variable{prog:Program}{w:World}{A:Around}{R:Result->Shared->Prop}{I S:Addr}{fp wr:List Addr}{n:Nat}{P:Nat->Value->Prop}{St:Nat->Heap->Prop}{val:Nat->Int}{kn:Str}{d:Value}
def Top(val:Nat->Int)(n:Nat)(v:Value):Prop:=∃m t,v= .int m t/\(∃j,j<n/\val j=m)/\∀j,j<n->val j<=m
theorem Top.step(h:Top val i v)(x:Int)(t:Tok)(e:val i=x):if x>(match v with| .int m _=>m|_=>0)then Top val (i+1) (.int x t)else Top val (i+1) v:=by
 obtain⟨m,t',rfl,⟨j,a,c⟩,b⟩:=h;show if x>m then _ else _
 split
 .refine%[x,t,rfl,%[i,⋯|e]|λj a=>?_];rcases Nat.lt_succ_iff_lt_or_eq.mp a with h|h
  .have:=b j h
   lia
  .rw[h,e];exact Int.le_refl _
 .refine%[m,t',rfl,%[j,⋯|c]|λj a=>?_];rcases Nat.lt_succ_iff_lt_or_eq.mp a with h|h
  .exact b j h
  .rw[h,e]
   lia
theorem xo(W:Walks prog w A.in1 I fp wr n P St)(T:∀i v,P i v->∃t,v= .int (val i) t)(G:S∉fp):∀(k i:Nat) (s:Shared) (l:ZI) (c:Nat),n-i=k->i<=n->St i s.heap->
 s.heap.get? S=some {cls:= .type "list",dict:=none,data:= .seq l c,slots:= #[]}->(i=0/\l= #[]\/∃v,l= #[v,v]/\Top val i v)->
 (∀v h' tk,(n=0/\v=d\/Top val n v)->(∀b o,b∉wr->b≠S->s.heap.get? b=some o->h'.get? b=some o)->R (.ok (.ret v)) {s with heap:=h',toks:=tk})->
 codeAny (model prog w) A (.builtin "max.loop" %[[.ref I,.none,.ref S]|[(kn,d)]]) R s:=by
 have H:S∉wr:=λh=>G (W.sub _ h)
 have a:(toString "max"++toString ".loop":String)="max.loop":=by decide
 intro k
 induction k with
 | zero=>
   intro i s l c U hi y J N L;obtain rfl:i=n:=by lia
   refine codeAny_builtin F.entry_max_loop ?_;rw[Around.under_plainId F.plain_max_loop _];refine Z2 (wpAny_seqItems J rfl ?_);refine Z2 (wpAny_tryCatch (W.done s _ _ y λh' tk z=>?_));have f:=z S _ H J;rcases N with⟨rfl,rfl⟩|⟨v,rfl,M⟩
   .exact Z2 (wpAny_rule (Z3 (L d _ tk (.inl %[rfl|rfl]) λb o p _ e=>z b o p e)))
   .refine Z2 (wpAny_updateSeq f rfl (Z2 (wpAny_letGo (Z3 ?_))));exact L v _ tk (.inr M) λb o p g e=>(get?_update_other _ _ (Ne.symm g)).trans (z b o p e)
 | succ k Q=>
   intro i s l c U hi y J N L;have B:i<n:=by lia
   refine codeAny_builtin F.entry_max_loop ?_;rw[Around.under_plainId F.plain_max_loop _];refine Z2 (wpAny_seqItems J rfl ?_);refine Z2 (wpAny_tryCatch (W.item i s _ _ B y λu h' tk Y r z=>?_));have f:=z S _ H J;obtain⟨t,rfl⟩:=T i u Y;have up:∀(x:ZI),(∃v,x= #[v,v]/\Top val (i+1) v)->codeAny (model prog w) A (.builtin "max.loop" %[[.ref I,.none,.ref S]|[(kn,d)]]) R {s with heap:=h'.update S (Obj.mapSeq λ_=>x),toks:=tk}:=λx hx=>
    Q (i+1) _ x _ ⋯ B (W.frame _ _ _ r λb p o e=>(get?_update_other _ _ (λh:S=b=>G (by rw[h];exact p))).trans e) (get?_update_self _ f rfl) (.inr hx)
     λv O C q E=>L v O C q λb o p g e=>E b o p g ((get?_update_other _ _ (Ne.symm g)).trans (z b o p e))
   rcases N with⟨rfl,rfl⟩|⟨v,rfl,M⟩
   .refine Z2 (Z3 (Z2 (wpAny_updateSeq f rfl ?_)));rw[a];exact Z3 %[plainId_quiet F.plain_max_loop _|up _ %[_,rfl,_,_,rfl,%[0,⋯|rfl]|λj hj=>by rw[show j=0 by lia];exact Int.le_refl _]]
   .have st:=M.step _ t rfl;obtain⟨m,t',rfl,_,_⟩:=M;refine Z2 (Z3 ?_);refine Z2 (wpAny_tryCatch (wpAny_holding (Z2 (CmpOf.ints_gt (P:=λj v=>∃t,v= .int (if j=0 then val i else m) t) (λj=>if j=0 then val i else m) (λ_ _ h=>h) 0 1 _ _ _ _ _ %[t|rfl] %[t'|rfl] ?_))));refine Z2 (wpAny_holding (wpAny_truthy_bool ?_));refine Z2 (wpAny_letGo (Z3 ?_))
    split
    .rename_i h
     have c:val i>m:=Zn h;refine Z2 (wpAny_updateSeq f rfl (Z2 (wpAny_letGo ?_)));rw[a];exact Z3 %[plainId_quiet F.plain_max_loop _|up _ %[_,rfl|by rwa[if_pos c]at st]]
    .rename_i h
     have c: ¬ val i>m:=λc=>h (Ze c)
     refine Z2 (wpAny_letGo ?_);rw[a];exact Z3 %[plainId_quiet F.plain_max_loop _|Q (i+1) _ _ _ ⋯ B r f (.inr %[_,rfl|by rwa[if_neg c]at st]) λv O C q E=>L v O C q λb o p g e=>E b o p g (z b o p e)]
end
theorem xp(a d:Value):argsOk "max" %[[a]|[("default",d)]]:=by kernel_rfl
theorem B4{id:String}(c:argsOk id a)(h:Q () s):↥A (match Manifest.signature? id with|some b=>Bind.checkArgs id b a|none=>pure ()) Q E s:=by
 cases e:Manifest.signature? id with
 | none=>exact Z3 h
 | some b=>
   simp only[argsOk,e]at c;show wpAny _ _ (Bind.checkArgs id b a) _ _ s;rw[c];exact Z3 h
theorem xq{prog:Program}{w:World}{A:Around}{E:ZD}{s:Shared}{l:Addr}{ps:List (Int×Tok)}{d:Value}{Q:ZD}(g:A.handled=none)(i:s.heap.IsList l (intItems ps.toArray))
 (h:∀v h' tk,(ps.toArray.size=0/\v=d\/Top (numAt ps.toArray) ps.toArray.size v)->(∀b o,s.heap.get? b=some o->h'.get? b=some o)->Q v {s with heap:=h',toks:=tk}):
 ↥A (call (.builtin "max") [.ref l] [("default",d)]) Q E s:=by
 have a:(toString "max"++toString ".loop":String)="max.loop":=by decide
 refine wpAny_call (codeAny_call_builtin F.plain_max F.entry_max ?_);simp only[checkBuiltinCall,F.kind_max];refine B4 (xp _ _) ?_;refine Z2 (wpAny_of_eq (show Builtin.Builtins.bindParams "max" ["key","default"] 0 %[[]|[("default",d)]]=pure [none,some d]from rfl) ?_);refine Z2 (Z3 ?_);refine Z2 (iter_intList i λp e st c f=>?_);subst e;refine Z2 (wpAny_newObj_type ?_);rw[a];refine Z3 %[plainId_quiet F.plain_max_loop _|xo (Walks.list (A:=A.in1) g _ l f (intItems ps.toArray)) (val:=numAt ps.toArray) (λ_ _=>intItems_at) (λj=>X5 _ (c _ j)) _ 0 _ #[] 0 rfl (X1 _) %[st.1.at λo e=>Z6 _ e|st.2.at λo e=>Z6 _ e] (Zi _ rfl) (.inl %[rfl|rfl]) λv h' tk q m=>?_];refine h v h' tk (by simpa [intItems]using q) (old_kept λb o n e=>m b o n (Zr (Zt e)) (Z6 _ e))
section
variable{X:Cx}{e v:Expr}{te tv:TE}{p pos kpos:Pos}
def z6(K:ZA)(te tv:TE):TE:=λc H Q=>te c H λx f=>tv c f λy d=>∃(a:Addr) (b:ZK) (z:Int),x= .ref a/\y= .int z/\SqL K d a (b.map V.int)/\∀m,(b=[]/\m=z\/m∈b/\∀y∈b,y<=m)->Q (.int m) d
theorem B5(C:X.calm=true)(E:Gl X "max")(g:X.mg "max"=none)(G:ba e=false)(J:PE X e te)(L:PE X v tv):PE X (.Call (.Name "max" p) [e] [%[some "default",v|kpos]] pos) (z6 X.K te tv):=by
 intro pins s l H Q I h;have d:=aD (es:=[]) (env:=X.env) G;refine wpAny_Call_Name_kw (iz I E g boot_max ?_);refine callWith_kw (thP (vv J yN d pos pins s l H (λvs n=>match vs with|[x]=>tv l n λy c=>∃(a:Addr) (b:ZK) (z:Int),x= .ref a/\y= .int z/\SqL X.K c a (b.map V.int)/\∀m,(b=[]/\m=z\/m∈b/\∀y∈b,y<=m)->Q (.int m) c|_=>False) I h) λus M vs n N O r=>?_) (by rw[d];rfl) (by rw[d];rfl) rfl rfl
 match vs,r with
 |[x],r=>
  obtain⟨u,rfl,T⟩:=cI O;refine thP (Bc L DG pos pins M l n (λzs c=>match zs with|[y]=>∃a b z,x= .ref a/\y= .int z/\SqL X.K c a (b.map V.int)/\∀m,(b=[]/\m=z\/m∈b/\∀y∈b,y<=m)->Q (.int m) c|_=>False) N r) λws s2 zs c w U Y=>?_
  match zs,Y with
  |[y],⟨a,b,z,e1,e2,ha,q⟩=>
   subst e1 e2;obtain⟨u2,rfl,t,rfl⟩:=cI U;cases T;obtain⟨its,rv,hl,hz⟩:=w.list ha;obtain⟨ps,rfl,rfl⟩:=pL rv;refine xq (I.ok.hd C) (by rw[show intItems ps.toArray=(ps.map λp=>Value.int p.1 p.2).toArray by simp[intItems]];exact hl.isList) λv h' tk o A=>?_
   have f:∀i h,numAt ps.toArray i=ps[i].1:=λi h=>by simp[numAt,h]
   have sz:ps.toArray.size=ps.length:=rfl;rw[sz]at o;rcases o with⟨o,rfl⟩|⟨m,t',rfl,⟨j,B,ej⟩,g⟩
   .exact%[.int z,c,w.kept A,%[t|rfl]|q z (.inl %[by rw[length_eq_zero_iff.mp o];rfl|rfl])]
   .refine%[.int m,c,w.kept A,%[t'|rfl]|q m (.inr %[Xb %[_,Y7 B|by rw[<-f j B,ej]]|λy hy=>?_])];obtain⟨p,hp,rfl⟩:=Xa hy;obtain⟨i,hi,rfl⟩:=getElem_of_mem hp;rw[<-f i hi];exact g i hi
end
section
variable{X:Cx}{K:ZA}{e v:Expr}{te tv:TE}{p pos kpos:Pos}
theorem FU(h:X.K=K)(a:X.calm=true)(b:X.mg "max"=none)(c:Gl X "max")(d:ba e=false)(f:QE X e te)(g:QE X v tv):QE X (.Call (.Name "max" p) [e] [%[some "default",v|kpos]] pos) (z6 K te tv):=by
 subst h;exact⟨B5 a c b d f.h g.h⟩
theorem B6:MtQ X "list.pop" t8:=⟨yZ⟩
end
theorem z7{j m:Type}{f:j->m}{x y:List m}(h:x.Perm y):∀ps,y=ps.map f->∃ss:List j,ss.Perm ps/\x=ss.map f:=by
 induction h with
 | nil=>exact λps e=>%[[],by simp_all|rfl]
 | cons a _ n=>
   intro ps e;cases ps with
   | nil=>cases e
   | cons p ps=>
     rw[Yj,List.cons.injEq]at e;obtain⟨ss,c,d⟩:=n ps e.2;exact%[p::ss,c.cons p|by rw[e.1,d];rfl]
 | swap a b l=>
   intro ps e
   match ps,e with
   | p::q::ps,e=>
     rw[Yj,Yj,List.cons.injEq,List.cons.injEq]at e;exact%[q::p::ps,.swap p q ps|by simp_all]
 | trans _ _ g i=>
   intro ps e;obtain⟨ss,c,d⟩:=i ps e;obtain⟨ts,o,r⟩:=g ss d;exact%[ts,o.trans c|r]
noncomputable def xt(i:Int):Str:=⟨#[(i+1000).toNat]⟩
noncomputable def kK(p:Int×Str):ZB:=[xt p.1,p.2]
theorem EK(hi: -1000<=i)(a: -1000<=j):bc (xt i) (xt j)=decide (i<j):=by
 have:([(i+1000).toNat])<[(j+1000).toNat]↔i<j:=by
  rw[List.cons_lt_cons_iff]
  constructor
  .rintro(h|⟨_,h⟩)
   .lia
   simp_all
  .exact λh=> .inl ⋯
 unfold bc xt
 simp_all
theorem z8(hi: -1000<=i)(a: -1000<=j):xt i=xt j↔i=j:=by
 constructor
 .intro h;have: #[(i+1000).toNat]= #[(j+1000).toNat]:=congrArg Str.cps h;simp at this
  lia
 .rintro rfl;rfl
section
variable{prog:Program}{w:World}{A:Around}{s:Shared}{E:ZD}
def vQ(h:Heap)(k:Int×Str)(a:Addr):Prop:=∃(o:Obj) (n:Nat) (t t':Tok),h.get? a=some o/\o.cls= .type "tuple"/\o.data= .seq #[.int k.1 t,.str k.2 t'] n
theorem z9(d:vQ s.heap k r)(f:vQ s.heap l q)(a: -1000<=k.1)(b: -1000<=l.1)(h:Q (c8 (kK k) (kK l)) s):↥A (keyLt' (tuples' true) (.ref r) (.ref q)) Q E s:=by
 obtain⟨n,nx,o,p,g,_,i⟩:=d;obtain⟨t,u,v,y,j,_,m⟩:=f;refine kat_lt g i j m ?_;refine kat_cons (wpAny_eqBool_int ?_);unfold kK at h;rw[c8]at h;by_cases e:k.1=l.1
 .rw[if_pos ((z8 a b).mpr e)]at h;rw[e,beq_self_eq_true];exact kat_yes (zJ [k.2] [l.2] [_] [_] 1 (.cons _ _ .nil) (.cons _ _ .nil) rfl rfl h)
 .rw[if_neg λc=>e ((z8 a b).mp c),EK a b]at h;rw[beq_eq_false_iff_ne.mpr e];exact kat_no (oneLt_int h)
noncomputable def B7(ps:List (Addr×Int×Str)):Value->ZB
 | .ref r=>((ps.find? λp=>p.1==r).map λp=>kK p.2).getD []
 | _=>[]
theorem sP{S:Addr}{ps:List (Addr×Int×Str)}{Q:ZD}(B:∀(E1:ZD) (R:ZF->Shared->Prop),(∀a vs,vs.Perm (ps.map λp=>Value.ref p.1)->(∀b o,s.heap.get? b=some o->a.heap.get? b=some o)->a.gens=s.gens->a.os=s.os->R vs a)->↥A.in1 (collect (.ref S)) R E1 s)(tk:∀p∈ps,vQ s.heap p.2 p.1)(hm:∀p∈ps,-1000<=p.2.1)(ag:ps.length<64)
 (hQ:∀(a s':Shared) (l:Addr) (ss:List (Addr×Int×Str)) (n:Nat),ss.Perm ps->(∀b o,s.heap.get? b=some o->a.heap.get? b=some o)->a.gens=s.gens->a.os=s.os->(∀b o,a.heap.get? b=some o->s'.heap.get? b=some o)->s'.gens=a.gens->s'.os=a.os->⇑a<=l->s'.heap.get? l=some {cls:= .type "list",data:= .seq (ss.map λp=>Value.ref p.1).toArray n}->Q (.ref l) s'):
 ↥A (call (.builtin "sorted") [.ref S]) Q E s:=by
 have C:∀p∈ps,B7 ps (.ref p.1)=kK p.2:=λp c=>by
  show((ps.find? λq=>q.1==p.1).map λp=>kK p.2).getD []=kK p.2;cases i:ps.find? λq=>q.1==p.1 with
  | none=>
    have:=List.find?_eq_none.mp i p c;simp at this
  | some q=>
    have G:=List.mem_of_find?_eq_some i;have e:q.1=p.1:=by have:=List.find?_some i;simpa using this
    show kK q.2=kK p.2;obtain⟨o,n,t,t',g,_,d⟩:=tk q G;obtain⟨o',n',u,u',g',_,d'⟩:=tk p c;rw[e,g',Option.some.injEq]at g;rw[<-g,d']at d;simp at d;unfold kK;rw[d.1.1.1,d.1.2.1]
 refine Calls.call_function_entry kind_sorted plain_sorted entry_sorted (args_sorted1 _) ?_;unfold Builtin.«sorted»;refine Z2 (m:=checkCount "sorted" 1 1 _) (Z3 ?_);refine Z2 (B _ _ λa vs L k1 g1 o1=>?_);have hl:vs.length=ps.length:=by rw[L.length_eq,Z5]
 have mem:∀v∈vs,∃p∈ps,v=Value.ref p.1:=λv J=>by
  obtain⟨p,c,rfl⟩:=Xa (L.mem_iff.mp J);exact%[p,c|rfl]
 refine Z2 (wpAny_newList ?_ (by rw[sizeLine_eq];lia));have M:(a.heap.push (seqObj "list" vs.toArray 0)).get? ⇑a=some (seqObj "list" vs.toArray 0):=Zi _ rfl;have j:∀p∈ps,∀h:Heap,(∀b o,b≠⇑a->(a.heap.push (seqObj "list" vs.toArray 0)).get? b=some o->h.get? b=some o)->vQ h p.2 p.1:=λp c h r=>by
  obtain⟨o,n,t,t',g,z⟩:=tk p c;have H:=k1 _ _ g;exact%[o,n,t,t',r _ _ (Zr (Zt H)) (Z6 _ H)|z]
 refine Z2 (wpAny_holding (wpAny_call_entry slot_list_sort %[_,M|rfl] entry_list_sort (fR (s:=(a>>>a.heap.push (seqObj "list" vs.toArray 0))) (kd:=tuples' true) (Nv:=λv=>eA (ps.map λp=>kK p.2) (B7 ps v)) M ⋯ (λh r ai Q6 N=>?_) (λh r=>?_) λaj p1 p2=>%[_,rfl|?_]) (args_list_sort _)))
 .have tups:∀l:ZF,(∀v∈l,∃p∈ps,v=Value.ref p.1)->∃fs:ZF,KatTups h l fs/\fs.length=l.length/\∀f∈fs,∃z t,f=Value.int z t:=by
   intro l
   induction l with
   | nil=>intro _;exact%[[],KatTups.nil,rfl|λf i=>by cases i]
   | cons v l ih=>
     intro J;obtain⟨fs,O,f2,U⟩:=ih λu hu=>J u (Zj _ hu)
     obtain⟨p,c,rfl⟩:=J v Zl;obtain⟨o',n',t,t',g',c',d'⟩:=j p c h r;exact⟨Value.int p.2.1 t::fs,KatTups.cons g' c' d' rfl O,by simp[f2],λf i=>by
      rcases mem_cons.mp i with e|e
      .exact%[_,_|e]
      .exact U f e⟩
  obtain⟨fs,O,f2,U⟩:=tups vs mem;refine kat_kind (T:= .type "int") O ⋯ (λf i=>?_) (by decide) N;obtain⟨z,t',rfl⟩:=U f i;exact Looks.of_pure rfl
 .intro x y s' hx hy Y;subst Y;obtain⟨p,c,ab⟩:=mem _ hx;obtain⟨q,G,ae⟩:=mem _ hy;obtain⟨x1,x2⟩:=x;obtain⟨y1,y2⟩:=y;obtain rfl:x1=Value.ref p.1:=ab;obtain rfl:y1=Value.ref q.1:=ae;show ↥A.in1.in1 (keyLt' (tuples' true) (Value.ref p.1) (Value.ref q.1)) (λb s'=>b=decide (eA (ps.map λp=>kK p.2) (B7 ps (Value.ref p.1))<eA (ps.map λp=>kK p.2) (B7 ps (Value.ref q.1)))/\s'=(a>>>h)) (λ_ _=>False) (a>>>h);rw[C p c,C q G];exact z9 (s:=(a>>>h)) (j p c h r) (j q G h r) (hm p c) (hm q G) %[iY (Xb %[p,c|rfl])|rfl]
 .obtain⟨ss,h1,rfl⟩:=z7 (p1.trans L) ps rfl;obtain⟨n,gl⟩:∃n,(sortedHeap (a.heap.push (seqObj "list" vs.toArray 0)) ⇑a vs (ss.map λp=>Value.ref p.1).toArray).get? ⇑a=some (seqObj "list" (ss.map λp=>Value.ref p.1).toArray n):=sortedHeap_at M;refine Z3 %[_,rfl|hQ a _ ⇑a ss n h1 k1 g1 o1 (λb o' H=>?_) rfl rfl (Zh _) gl];have I:=Zt H;show(sortedHeap _ _ _ _).get? b=_;rw[sortedHeap_old (Zr I) (by rw[Zp];exact Yg I)];exact Z6 _ H
end
section
variable{X:Cx}{K:ZA}
def qR(H:Hp)(ps:List (Addr×Int×Str)):Prop:=∀p∈ps,-1000<=p.2.1/\H p.1=some (.tup [.int p.2.1,.str p.2.2])
theorem sQ:∀{ps:List (Addr×Int×Str)} {us:ZF},aH (ps.map λp=>V.ref p.1) us->us=ps.map λp=>Value.ref p.1
 |[],_,.nil=>rfl
 | _::_,_,.cons r t=>by
   cases r;rw[sQ t];rfl
theorem sR:∀(ps:List (Addr×Int×Str)),aH (ps.map λp=>V.ref p.1) (ps.map λp=>Value.ref p.1)
 |[]=> .nil
 | _::ps=> .cons rfl (sR ps)
theorem xu(h:X.K=K):cw X (.builtin "sorted") (λxs H Q=>∃a ps,xs=[.ref a]/\SqL K H a (ps.map λp=>V.ref p.1)/\qR H ps/\ps.length<64/\
 ∀l (ss:List _),H l=none->ss.Perm ps->Q (.ref l) (upd H l (.lst (ss.map λp=>V.ref p.1)))):=by
 subst h;refine⟨λpins s N H xs us Q I r h=>?_⟩;obtain⟨a,ps,rfl,z,v,d,q⟩:=h;obtain⟨u,rfl,A⟩:=cI r;cases A;obtain⟨its,e,⟨o,n,B,f,w,i⟩,O⟩:=I.list z;have:=sQ e;subst this;refine sP (λT R C=>wpAny_collect_seq a (.inl rfl) B f i (λh' k=>?_) (by simp_all)) (λp j=>?_) (λp j=>(v p j).1) d λU s' l ss n y E g1 G k g o c L=>?_
 .exact C _ _ (List.Perm.refl _) k rfl rfl
 .obtain⟨_,its,e,o,M,f,n,w⟩:=I.hok p.1 _ (v p j).2;obtain⟨_,_,rfl,⟨t,rfl⟩,t',rfl⟩:=jj e;exact%[o,n,t,t',M,f|w]
 .have m:=I.keptS E g1 G;have b:=m.hok.fresh c;have J:=m.keptS k g o;refine%[.ref l,_,m.stoodS (o:= .lst _) J c %[?_,ss.map _,n,sR ss|L],rfl|q l ss b y];rw[Z5,y.length_eq,sizeLine_eq]
  lia
end
end L2
namespace Cut
open PySem L2
inductive dS (S:Str->Str->Prop):Str->Str->Prop
 | refl (x:Str):dS S x x
 | step {x y z:Str}:dS S x y->(S y z\/S z y)->dS S x z
theorem dS.trans{S:Str->Str->Prop}(h:dS S x y)(g:dS S y z):dS S x z:=by
 induction g with
 | refl=>exact h
 | step _ s a=>exact .step a s
theorem dS.one{S:Str->Str->Prop}(h:S x y\/S y x):dS S x y:= .step (.refl x) h
theorem dS.symm{S:Str->Str->Prop}(h:dS S x y):dS S y x:=by
 induction h with
 | refl=>exact .refl _
 | step _ s a=>exact(dS.one s.symm).trans a
theorem dS.mono{S R:Str->Str->Prop}(m:∀a b,S a b->R a b)(h:dS S x y):dS R x y:=by
 induction h with
 | refl=>exact .refl _
 | step _ s c=>exact .step c (s.imp (m _ _) (m _ _))
theorem dS.within{S:Str->Str->Prop}{p:Str->Prop}(w:∀a b,S a b->p a/\p b)(h:dS S x y)(c:p x):p y:=by
 induction h with
 | refl=>exact c
 | step _ s _=>
   rcases s with s|s
   .exact(w _ _ s).2
   .exact(w _ _ s).1
def dm(S:Str->Str->Prop)(z r:Str):Prop:=dS S z r/\∀y,dS S z y->bc y r=false
theorem dm.one{S:Str->Str->Prop}(h:dm S z r)(g:dm S z a):r=a:=by
 by_cases e:r=a
 .exact e
 .have:=gc (g.2 _ h.1) e;rw[h.2 _ g.1]at this;cases this
structure bC (ls:ZB) (f r:Str->Str) (S:Str->Str->Prop):Prop where
 ws:∀a b,S a b->a∈ls/\b∈ls
 fin:∀z∈ls,f z∈ls
 rin:∀z∈ls,r z∈ls
 rf:∀z∈ls,r (f z)=r z
 fr:∀z∈ls,f (r z)=r z
 fix:∀z∈ls,f z=z->r z=z
 dec:∀z∈ls,f z≠z->bc (f z) z=true
 le:∀z∈ls,bc z (r z)=false
 cl:∀x∈ls,∀y∈ls,r x=r y↔dS S x y
theorem bC.rr{S:Str->Str->Prop}(F:bC a f r S)(h:z∈a):r (r z)=r z:=F.fix _ (F.rin z h) (F.fr z h)
theorem bC.conn{S:Str->Str->Prop}(F:bC a f r S)(h:z∈a):dS S z (r z):=(F.cl z h _ (F.rin z h)).mp (F.rr h).symm
theorem bC.least{S:Str->Str->Prop}(F:bC b f r S){z:Str}(h:z∈b):dm S z (r z):=by
 refine%[F.conn h|λy c=>?_];have a:=c.within F.ws h;rw[(F.cl z h y a).mpr c];exact F.le y a
theorem bC.start(a:ZB):bC a id id (λ_ _=>False):=by
 refine%[λ_ _ h=>h.elim,λz h=>h,λz h=>h,λ_ _=>rfl,λ_ _=>rfl,λ_ _ _=>rfl,λz _ h=>(h rfl).elim,λz _=>fH z|λx b y d=>%[λe=>?_|λc=>?_]]
 .rw[show x=y from e];exact .refl _
 .induction c with
  | refl=>rfl
  | step _ s _=>simp_all
theorem bC.join{S:Str->Str->Prop}(F:bC j f r S){a b M m:Str}(q:a∈j)(t:b∈j)(A:M=if bc (r a) (r b)=true then r b else r a)(B:m=if bc (r b) (r a)=true then r b else r a):
 bC j (λx=>if x=M then m else f x) (λx=>if r x=M then m else r x) (λx y=>S x y\/(x=a/\y=b)):=by
 have g:(M=r a/\m=r b)\/(M=r b/\m=r a):=by
  rw[A,B];cases e:bc _ _ with
  | true=>
    have:bc (r b) (r a)=false:=by
     cases i:bc _ _ with
     | false=>rfl
     | true=>have:=f9 e i;rw[fH]at this;cases this
    exact this▸ .inr %[rfl|rfl]
  | false=>
    cases i:bc _ _ with
    | true=>exact .inl %[rfl|rfl]
    | false=>
      have:r a=r b:=by
       by_cases h:r a=r b
       .exact h
       .have:=gc e h;rw[i]at this;cases this
      exact this▸ .inl %[rfl|rfl]
 have lt:m≠M->bc m M=true:=by
  rw[A,B];cases e:bc _ _ with
  | true=>
    cases i:bc _ _ with
    | true=>intro h;exact(h rfl).elim
    | false=>intro _;exact e
  | false=>
    cases i:bc _ _ with
    | true=>intro _;exact i
    | false=>intro h;exact(h rfl).elim
 have Q:=F.rin a q;have T:=F.rin b t;have C:m∈j:=by rcases g with⟨_,h⟩|⟨_,h⟩<;> rw[h]<;> assumption
 have E:r M=M:=by rcases g with⟨h,_⟩|⟨h,_⟩<;> rw[h]<;> apply F.rr<;> assumption
 have L:r m=m:=by rcases g with⟨_,h⟩|⟨_,h⟩<;> rw[h]<;> apply F.rr<;> assumption
 have N:dS (λx y=>S x y\/(x=a/\y=b)) M m:=by
  have G:dS (λx y=>S x y\/(x=a/\y=b)) _ _:=(((F.conn q).mono λ_ _=> .inl).symm.trans (.one (.inl (.inr %[rfl|rfl])))).trans ((F.conn t).mono λ_ _=> .inl);rcases g with⟨l,n⟩|⟨l,n⟩
  .rw[l,n];exact G
  .rw[l,n];exact G.symm
 have p:∀x∈j,dS _ x (if r x=M then m else r x):=λx w=>by
  have c:=(F.conn w).mono (R:=λx y=>S x y\/(x=a/\y=b)) λ_ _=> .inl
  by_cases e:r x=M
  .rw[if_pos e];rw[e]at c;exact c.trans N
  .rw[if_neg e];exact c
 have H:(if r a=M then m else r a)=(if r b=M then m else r b):=by
  rcases g with⟨l,n⟩|⟨l,n⟩
  .rw[if_pos l.symm];by_cases e:r b=M
   .rw[if_pos e]
   .rw[if_neg e];exact n
  .rw[if_pos l.symm];by_cases e:r a=M
   .rw[if_pos e]
   .rw[if_neg e];exact n.symm
 refine%[λx y h=>?_,λz d=>?_,λz d=>?_,λz d=>?_,λz d=>?_,λz d h=>?_,λz d h=>?_,λz d=>?_|λx w y I=>%[λe=>?_|λc=>?_]]
 .rcases h with h|⟨rfl,rfl⟩
  .exact F.ws x y h
  .exact%[q|t]
 .split
  .exact C
  .exact F.fin z d
 .split
  .exact C
  .exact F.rin z d
 .by_cases e:z=M
  .rw[if_pos e,e,E,if_pos rfl,L]
   split<;> rfl
  .rw[if_neg e,F.rf z d]
 .by_cases e:r z=M
  .rw[if_pos e]
   split
   .rfl
   .exact(by rcases g with⟨_,h⟩|⟨_,h⟩<;> rw[h]<;> apply F.fr<;> assumption)
  .rw[if_neg e,if_neg e];exact F.fr z d
 .by_cases e:z=M
  .rw[if_pos e]at h;rw[e,E,if_pos rfl,<-e];exact h
  .rw[if_neg e]at h;rw[F.fix z d h,if_neg e]
 .by_cases e:z=M
  .rw[if_pos e]at h ⊢;rw[e]at h ⊢;exact lt h
  .rw[if_neg e]at h ⊢;exact F.dec z d h
 .by_cases e:r z=M
  .rw[if_pos e];cases i:bc z m with
   | false=>rfl
   | true=>
     have o:=F.le z d;rw[e]at o;by_cases em:m=M
     .rw[em]at i;rw[o]at i;cases i
     .have:=f9 i (lt em);rw[o]at this;cases this
  .rw[if_neg e];exact F.le z d
 .have c:=(p x w)
  rw[e]at c;exact c.trans (p y I).symm
 .have ws:∀x y,(S x y\/(x=a/\y=b))->x∈j/\y∈j:=λx y h=>by
   rcases h with h|⟨rfl,rfl⟩
   .exact F.ws x y h
   .exact%[q|t]
  clear I
  induction c with
  | refl=>rfl
  | step c s O=>
    rename_i u v
    have J:=c.within ws w;rw[O];rcases s with(s|⟨rfl,rfl⟩)|(s|⟨rfl,rfl⟩)
    .rw[(F.cl u J v (F.ws u v s).2).mpr (.one (.inl s))]
    .exact H
    .rw[(F.cl u J v (F.ws v u s).1).mpr (.one (.inr s))]
    .exact H.symm
theorem bC.short{S:Str->Str->Prop}(F:bC d f r S)(b:z∈d):bC d (λx=>if x=z then f (f z)else f x) r S:=by
 have g:f z≠z->bc (f _) z=true:=λh=>by
  have i:=F.dec z b h;by_cases e:f (f z)=f z
  .exact e▸i
  .exact f9 (F.dec _ (F.fin z b) e) i
 refine%[F.ws,λx a=>?_,F.rin,λx a=>?_,λx a=>?_,λx a h=>?_,λx a h=>?_,F.le|F.cl]
 .split
  .exact F.fin _ (F.fin z b)
  .exact F.fin x a
 .by_cases e:x=z
  .rw[if_pos e,F.rf _ (F.fin z b),F.rf z b,e]
  .rw[if_neg e];exact F.rf x a
 .by_cases e:r x=z
  .rw[if_pos e];have:=F.fr x a
   simp_all
  .rw[if_neg e];exact F.fr x a
 .by_cases e:x=z
  .rw[if_pos e]at h;rw[e]at h ⊢;by_cases c:f z=z
   .exact F.fix z b c
   .have:=g c;rw[h,fH]at this;cases this
  .rw[if_neg e]at h;exact F.fix x a h
 .by_cases e:x=z
  .rw[if_pos e]at h ⊢;rw[e]at h ⊢;refine g λc=>h ?_
   rw[c,c]
  .rw[if_neg e]at h ⊢;exact F.dec x a h
theorem bC.done{S:Str->Str->Prop}(F:bC b f r S)(a:z∈b)(h:∀w∈b,bc w z=true->f w=r w):f (f z)=r z:=by
 by_cases e:f z=z
 .rw[e,e];exact(F.fix z a e).symm
 .rw[h _ (F.fin z a) (F.dec z a e),F.rf z a]
end Cut
namespace Cut
open PySem L2
def Ed(ks:List ZB)(a b:Str):Prop:=∃z,[a,b,z]∈ks
inductive Rch (ks:List ZB):Str->Str->Prop
 | one {a b:Str}:Ed ks a b->Rch ks a b
 | more {a b c:Str}:Rch ks a b->Ed ks b c->Rch ks a c
theorem Rch.trans(h:Rch ks a b)(g:Rch ks b c):Rch ks a c:=by
 induction g with
 | one e=>exact .more h e
 | more _ e d=>exact .more d e
theorem Rch.closed{R:Str->Prop}(a:∀y,Ed ks s y->R y)(h:∀x y,R x->Ed ks x y->R y)(r:Rch ks s y):R y:=by
 induction r with
 | one e=>exact a _ e
 | more _ e b=>exact h _ _ b e
theorem pN{ks:List _}{laid:ZB}(h:∀i x,laid[i]? =some x->∀y,Ed ks x y->y∈laid.take i){i:Nat}{x y:Str}(hi:laid[i]? =some x)(r:Rch ks x y):∃j,j<i/\laid[j]? =some y:=by
 have b:∀i y,y∈laid.take i->∃j,j<i/\laid[j]? =some y:=λi y d=>by
  obtain⟨j,c⟩:=X2 d;have f:=(X7 c).1;rw[Ye]at f;exact%[j,⋯|by rwa[Y5 ⋯]at c]
 refine r.closed (λy e=>b i y (h i x hi y e)) λa y ⟨j,m,c⟩ e=>?_
 obtain⟨g,n,l⟩:=b j y (h j a c y e);exact%[g,⋯|l]
theorem B8{laid:ZB}(h:∀(i:Nat) x,laid[i]? =some x->∀y,Ed ks x y->y∈laid.take i){x:Str}(a:x∈laid): ¬ Rch ks x x:=by
 intro r;obtain⟨i,hi⟩:=X2 a;have:∀n i:Nat,i<=n->laid[i]? ≠some x:=λn=>by
  induction n with
  | zero=>
    intro i hi e;obtain⟨j,b,_⟩:=pN h e r
    lia
  | succ n c=>
    intro i hi e;obtain⟨j,b,d⟩:=pN h e r;exact c j ⋯ d
 exact this i i (Zh _) hi
noncomputable def Wal:List ZB->Str->Str->Prop
 |[],a,b=>a=b
 | k::r,a,b=>∃c z,k=[a,c,z]/\Wal r c b
theorem Wal.app:∀{us vs:List ZB} {a:Str},Wal us a b->Wal vs b c->Wal (us++vs) a c
 |[],_,_,h,g=>h▸g
 | _::_,_,_,⟨d,z,e,h⟩,g=>%[d,z,e|h.app g]
def Dst(ks:List ZB)(s:Str)(n:Nat)(x:Str):Prop:=∃us:List _,us.length=n/\(∀k∈us,k∈ks)/\Wal us s x
theorem Dst.nil:Dst ks s 0 s:=%[[],rfl,λ_ h=>(nomatch h)|rfl]
theorem Dst.app(h:Dst ks s n x)(g:Dst ks x m y):Dst ks s (n+m) y:=by
 obtain⟨us,d,a,b⟩:=h;obtain⟨vs,g1,g2,g3⟩:=g;exact%[us++vs,by simp_all,λk c=>(X8 c).elim (a k) (g2 k)|b.app g3]
theorem Ed.dst(e:Ed ks s x):Dst ks s 1 x:=by
 obtain⟨z,e⟩:=e;exact%[[[s,x,z]],rfl,λk a=>(X9 a)▸e,x,z,rfl|rfl]
theorem Dst.last:∀{n:Nat} {s:Str},Dst ks s (n+1) x->∃y,Dst ks s n y/\Ed ks y x
 | n,s,⟨[],a,_,_⟩=>(nomatch a)
 | 0,s,⟨[k],_,b,c,z,e,h⟩=>%[s,.nil,z|by rw[<-h,<-e];exact b k Zl]
 | 0,s,⟨_::_::_,a,_,_⟩=>absurd a ∅
 | n+1,s,⟨k::r,a,b,c,z,e,h⟩=>by
   obtain⟨y,d,f⟩:=Dst.last %[r,by simpa using a,λk g=>b k (Zj _ g)|h];have:Ed ks s c:=%[z|e▸b k Zl]
   exact%[y,Nat.add_comm 1 n▸this.dst.app d|f]
theorem Rch.dst(h:Rch ks a b):∃n,Dst ks a (n+1) b:=by
 induction h with
 | one e=>exact%[0|e.dst]
 | more _ e c=>
   obtain⟨n,h⟩:=c;exact%[n+1|h.app e.dst]
theorem Dst.rch:∀{n:Nat} {b:Str},Dst ks a (n+1) b->Rch ks a b
 | 0,b,h=>by
   obtain⟨y,⟨us,d,_,c⟩,e⟩:=h.last;rw[length_eq_zero_iff.mp d]at c;rw[c];exact .one e
 | n+1,b,h=>by
   obtain⟨y,h,e⟩:=h.last;exact .more h.rch e
structure Lev (ks:List ZB) (st:Str) (rs:List (Str×Addr×ZB)) (d:Str->Nat) (k:Nat) (F:ZB):Prop where
 nd:(rs.map (·.1)).Nodup
 by_:∀r∈rs,r.2.2∈ks/\∃p z,r.2.2=[p,r.1,z]/\((p=st/\d r.1=1)\/(p≠st/\p∈rs.map (·.1)/\d r.1=d p+1))
 le:∀x∈rs.map (·.1),d x<=k
 edge:∀x,x∈F↔(k=0/\x=st)\/(1<=k/\x∈rs.map (·.1)/\d x=k)
 all:∀n x,1<=n->n<=k->Dst ks st n x->x∈rs.map (·.1)/\d x<=n
section
variable{ks:List ZB}{st:Str}{rs:List (Str×Addr×ZB)}{d:Str->Nat}{k:Nat}{F:ZB}
theorem Lev.nil:Lev ks st [] (λ_=>0) 0 [st]:=
 %[Yu,λ_ h=>(nomatch h),λ_ h=>(nomatch h),λx=>by simp|λn x a b=>by lia]
theorem Lev.dst(h:Lev ks st rs d k F)(a:x∈rs.map (·.1)):1<=d x/\Dst ks st (d x) x:=by
 have:∀m x,x∈rs.map (·.1)->d x<=m->1<=d x/\Dst ks st (d x) x:=λm=>by
  induction m with
  | zero=>
    intro x a l;obtain⟨r,b,rfl⟩:=Xa a;obtain⟨_,p,z,_,⟨_,e⟩|⟨_,_,e⟩⟩:=h.by_ r b<;> lia
  | succ m g=>
    intro x a l;obtain⟨r,b,rfl⟩:=Xa a;obtain⟨c,p,z,i,q⟩:=h.by_ r b;rw[i]at c;have f:Ed ks p r.1:=%[z|c]
    rcases q with⟨rfl,e⟩|⟨_,j,e⟩
    .rw[e];exact%[Zh _|f.dst]
    .exact e▸%[⋯|(g p j ⋯).2.app f.dst]
 exact this _ x a (Zh _)
theorem Lev.min(h:Lev ks st rs d k F)(a:x∈rs.map (·.1))(g:Dst ks st (n+1) x):d x<=n+1:=by
 by_cases c:n+1<=k
 .exact(h.all _ x ⋯ c g).2
 .have:=h.le x a
  lia
theorem Lev.stop(h:Lev ks st rs d k []):∀{n:Nat},Dst ks st (n+1) x->x∈rs.map (·.1):=by
 have a:=Nat.pos_of_ne_zero λc=>(nomatch (h.edge st).mpr (.inl %[c|rfl]))
 have:∀n x,Dst ks st (n+1) x->x∈rs.map _:=λn=>by
  induction n with
  | zero=>exact λx g=>(h.all 1 x (Zh _) a g).1
  | succ n b=>
    intro x g;obtain⟨y,f,e⟩:=g.last;have q:=b y f;have l:=h.le y q;have i:d y≠k:=λc=>(nomatch (h.edge y).mpr (.inr %[a,q|c]))
    exact(h.all _ x ⋯ ⋯ ((h.dst q).2.app e.dst)).1
 exact λ{n}=>this n x
theorem Lev.step(h:Lev ks st rs d k F)(nd:((rs++new).map (·.1)).Nodup)(C:∀r∈new,r.2.2∈ks/\∃p z,p∈F/\r.2.2=[p,r.1,z])
 (t:∀x∈F,∀y,Ed ks x y->y∈(rs++new).map (·.1)):Lev ks st (rs++new) (λx=>if x∈new.map (·.1)then k+1 else d x) (k+1) (new.map (·.1)):=by
 have l:=nd;rw[Zc,Ys]at l;have f:∀{x},x∈rs.map (·.1)->x∉new.map (·.1):=λ{x} a b=>l.2.2 x a x b rfl
 have mem:∀{x},x∈(rs++new).map (·.1)↔x∈rs.map (·.1)\/x∈new.map (·.1):=λ{x}=>by rw[Zc,Yl]
 have u:∀x∈(rs++new).map (·.1),(if x∈new.map (·.1)then k+1 else d x)<=k+1:=λx j=>by
  by_cases c:x∈new.map (·.1)
  .rw[if_pos c];exact Zh _
  .rw[if_neg c];have:=h.le x ((mem.mp j).resolve_right c);lia
 refine%[nd,λr E=>?_,u,λx=>?_|λn x G N g=>?_]
 .rcases X8 E with q|q
  .obtain⟨s,p,z,e,g⟩:=h.by_ r q;refine%[s,p,z,e|?_];rw[if_neg (f (Xb %[r,q|rfl]))];refine g.imp_right λ⟨a,b,c⟩=>%[a,mem.mpr (.inl b)|?_]
   rw[if_neg (f b)];exact c
  .obtain⟨s,p,z,H,e⟩:=C r q;have v:r.1∈new.map (·.1):=Xb %[r,q|rfl];refine%[s,p,z,e|?_];rw[if_pos v];rcases(h.edge p).mp H with⟨rfl,rfl⟩|⟨I,b,c⟩
   .exact .inl %[rfl|rfl]
   .refine .inr %[λps=>?_,mem.mpr (.inl b)|by rw[if_neg (f b),c]];have:Ed ks st r.1:=%[z|by rw[<-ps,<-e];exact s]
    exact f (h.all 1 _ (Zh _) I this.dst).1 v
 .refine%[λj=> .inr %[⋯,mem.mpr (.inr j)|if_pos j]|λj=>?_];rcases j with⟨a,_⟩|⟨_,a,b⟩
  .lia
  .refine(mem.mp a).resolve_left λc=>?_
   rw[if_neg (f c)]at b;have:=h.le x c
   lia
 .have i:∀{m},1<=m->m<=k->Dst ks st m x->x∈(rs++new).map _/\(if x∈new.map _ then k+1 else d x)<=m:=λa b g=>by
   obtain⟨o,w⟩:=h.all _ x a b g;exact%[mem.mpr (.inl o)|by rw[if_neg (f o)];exact w]
  by_cases c:n<=k
  .exact i G c g
  .obtain rfl:n=k+1:=by lia
   have fin:x∈(rs++new).map _->x∈(rs++new).map _/\(if x∈new.map _ then k+1 else d x)<=k+1:=λa=>%[a|u x a]
   obtain⟨y,A,e⟩:=g.last;by_cases J:k=0
   .subst J;obtain⟨us,L,_,B⟩:=A;rw[length_eq_zero_iff.mp L]at B;exact fin (t y ((h.edge y).mpr (.inl %[rfl|(B).symm])) x e)
   .obtain⟨o,w⟩:=h.all k y ⋯ (Zh _) A;by_cases M:d y=k
    .exact fin (t y ((h.edge y).mpr (.inr %[⋯,o|M])) x e)
    .exact fin (i ⋯ ⋯ ((h.dst o).2.app e.dst)).1
end
structure Sho (ks:List _) (a b:Str) (us:List _):Prop where
 sub:∀k∈us,k∈ks
 wal:Wal us a b
 pos:0<us.length
 min:∀n,Dst ks a (n+1) b->us.length<=n+1
theorem Sho.dst(h:Sho ks a b us):∃n,us.length=n+1/\Dst ks a (n+1) b:=
 %[us.length-1,by have:=h.pos;lia,us,by have:=h.pos;lia,h.sub|h.wal]
theorem Sho.rch(h:Sho ks a b us):Rch ks a b:=by
 obtain⟨n,_,d⟩:=h.dst;exact d.rch
theorem Aa{U:ZB}(h:∀x∈U,∃y∈U,Ed ks x y)(i:∀x,¬ Rch ks x x){x:Str}(j:x∈U):False:=by
 have:∀n,∃a p,p.length=n/\(a::p).Nodup/\(∀y∈a::p,y∈U)/\∀y∈p,Rch ks y a:=λn=>by
  induction n with
  | zero=>exact%[x,[],rfl,by simp,by simpa using j|λ_ h=>(nomatch h)]
  | succ n m=>
    obtain⟨a,p,l,nd,d,r⟩:=m;obtain⟨b,o,e⟩:=h a (d a Zl);have g:∀y∈a::p,Rch ks y b:=λy f=>by
     rcases mem_cons.mp f with rfl|q
     .exact .one e
     .exact .more (r y q) e
    refine%[b,a::p,by simp_all,nodup_cons.mpr %[λc=>i b (g b c)|nd],λy f=>?_|g];rcases mem_cons.mp f with rfl|q
    .exact o
    .exact d y q
 obtain⟨a,p,l,nd,d,_⟩:=this U.length;have:=STab.nodup_sub nd d;rw[Zq]at this
 lia
end Cut
namespace Cut
open PySem L2
structure Mat (E:Str->Str->Prop) (L:ZB) (m:Str->Str):Prop where
 nd:L.Nodup
 inj:∀x∈L,∀y∈L,m x=m y->x=y
 ed:∀x∈L,E (m x) x
structure j2 (E:Str->Str->Prop) (L:ZB) (m:Str->Str) (S T:Str->Prop):Prop where
 nb:∀a,S a->∀p,E a p->T p
 mt:∀p,T p->p∈L/\S (m p)
structure Ask (E:Str->Str->Prop) (L:ZB) (m:Str->Str) (A0 Q:ZB) (g:Str->Str):Prop where
 nd:Q.Nodup
 by_:∀i x,Q[i]? =some x->E (g x) x/\(g x∈A0\/∃y∈Q.take i,y∈L/\m y=g x)
section
variable{E:Str->Str->Prop}{L A0 Q:ZB}{m g:Str->Str}{S T S' T':Str->Prop}
theorem j2.or(h:j2 E L m S T)(k:j2 E L m S' T'):j2 E L m (λa=>S a\/S' a) (λp=>T p\/T' p):=
 %[λa s p e=>s.imp (λs=>h.nb a s p e) λs=>k.nb a s p e|λp t=>t.elim (λt=>%[(h.mt p t).1|.inl (h.mt p t).2]) λt=>%[(k.mt p t).1|.inr (k.mt p t).2]]
theorem Ask.shut(a:Ask E L m A0 Q g)(h:j2 E L m S T)(d:∀x∈A0,S x):∀x∈Q,T x:=by
 have:∀(n i:Nat) x,i<n->Q[i]? =some x->T x:=λn=>by
  induction n with
  | zero=>exact λi x l=>absurd l (Yv _)
  | succ n f=>
    intro i x l e;obtain⟨o,b⟩:=a.by_ i x e;refine h.nb _ ?_ x o;rcases b with b|⟨y,p,s,b⟩
    .exact d _ b
    .obtain⟨j,c⟩:=X2 p;have q:=(X7 c).1;rw[Ye]at q;rw[Y5 ⋯]at c;exact b▸(h.mt y (f j y ⋯ c)).2
 intro x r;obtain⟨i,hi⟩:=X2 r;exact this _ i x (Yh _) hi
theorem Ask.closed(c:∀x∈Q,x∈L)(d:∀b,(b∈A0\/∃y∈Q,y∈L/\m y=b)->∀p,E b p->p∈Q):j2 E L m (λb=>b∈A0\/∃y∈Q,y∈L/\m y=b) (λp=>p∈Q):=
 %[d|λp a=>%[c p a|.inr %[p,a,c p a|rfl]]]
structure nh (E:Str->Str->Prop) (L Q:ZB) (m g:Str->Str) (T:Str->Prop) (f:Str) (C:ZB) (i:Nat) (p:Str):Prop where
 at_:Q[i]? =some p
 own:p=f\/p∈L
 far:∀x∈C,∃j,i<j/\Q[j]? =some x
 nx:∀x∈C,∃y,y∈L/\m y=g x/\(y∈C\/y=p)
 inj:∀x∈C,∀y∈C,g x=g y->x=y
 pv:∀y,y∈C\/y=p->y=f\/(y∈L/\∃x∈C,g x=m y)
 nt:∀y,y∈C\/y=p-> ¬ T y
 hf:f∈C\/p=f
theorem Ab{Q:ZB}(nd:Q.Nodup){i j:Nat}{x:Str}(h:Q[i]? =some x)(k:Q[j]? =some x):i=j:=cv nd h k
theorem nh.start(h:j2 E L m S T)(b:f∉L)(e:Q[i]? =some f):nh E L Q m g T f [] i f:=
 %[e,.inl rfl,λ_ h=>(nomatch h),λ_ h=>(nomatch h),λ_ h=>(nomatch h),λy a=>a.elim (λh=>(nomatch h)) .inl,λy a t=>a.elim (λh=>(nomatch h)) λe=>b (e▸(h.mt y t).1)|.inr rfl]
theorem nh.inj'(M:Mat E L m)(a:Ask E L m A0 Q g){f:Str}{C:ZB}{i:Nat}{p:Str}(b:nh E L Q m g T f C i p):∀x∈C++[p],∀y∈C++[p],(∀z∈L,m z=g p->z∈Q.take i)->g x=g y->x=y:=by
 have o:∀x∈C,(∀z∈L,m z=g p->z∈Q.take i)->g x≠g p:=λx c h e=>by
  obtain⟨y,q,r,n⟩:=b.nx x c;obtain⟨j,l⟩:=X2 (h y q (r.trans e));have s:=(X7 l).1;rw[Ye]at s;rw[Y5 ⋯]at l;rcases n with n|rfl
  .obtain⟨k,u,t⟩:=b.far y n;have:=Ab a.nd l t
   lia
  .have:=Ab a.nd l b.at_
   lia
 intro x c y d h e;rcases X8 c with c|c<;> rcases X8 d with d|d
 .exact b.inj x c y d e
 .rw[X9 d]at e;exact(o x c h e).elim
 .rw[X9 c]at e;exact(o y d h e.symm).elim
 .rw[X9 c,X9 d]
theorem nh.step(M:Mat E L m)(a:Ask E L m [w] Q g)(A:∀x∈L,m x≠w)(h:j2 E L m S T)(b:nh E L Q m g T f C i p)(n:y∈L)(o:m y=g p):∃j,j<i/\nh E L Q m g T f (C++[p]) j y:=by
 obtain⟨B,s⟩:=a.by_ i p b.at_;have v:y∈Q.take i:=by
  rcases s with s|⟨z,c,q,r⟩
  .exact(A y n (o.trans (X9 s))).elim
  .rw[M.inj y n z q (o.trans r.symm)];exact c
 obtain⟨j,u⟩:=X2 v;have G:=(X7 u).1;rw[Ye]at G;rw[Y5 ⋯]at u;have l:∀{x},x∈C++[p]↔x∈C\/x=p:=λ{x}=>by rw[Yl,Yq]
 refine%[j,⋯,u,.inr n,λx d=>?_,λx d=>?_,λx d z c=>b.inj' M a x d z c λz q r=>(M.inj z q y n (r.trans o.symm))▸v,λz c=>?_,λz c t=>?_|.inl (l.mpr (b.hf.imp_right Eq.symm))]
 .rcases l.mp d with d|rfl
  .obtain⟨k,J,H⟩:=b.far x d;exact%[k,⋯|H]
  .exact%[i,⋯|b.at_]
 .rcases l.mp d with d|rfl
  .obtain⟨z,q,r,I⟩:=b.nx x d;exact%[z,q,r|.inl (l.mpr I)]
  .exact%[y,n,o|.inr rfl]
 .rcases c with c|rfl
  .exact(b.pv z (l.mp c)).imp_right λ⟨a,x,d,e⟩=>%[a,x,l.mpr (.inl d)|e]
  .exact(.inr %[n,p,l.mpr (.inr rfl)|o.symm])
 .rcases c with c|rfl
  .exact b.nt z (l.mp c) t
  .exact b.nt p (.inr rfl) (h.nb _ (o▸(h.mt z t).2) p B)
theorem nh.fin(M:Mat E L m)(a:Ask E L m [B] Q g)(h:j2 E L m S T)(b:nh E L Q m g T f C i p)(J:f∉L)(N:∀y∈L,m y≠g p)(nd:v.Nodup)(G:∀x,x∈v↔x∈L\/x=f):
 Mat E v (λx=>if x∈C++[p]then g x else m x)/\j2 E v (λx=>if x∈C++[p]then g x else m x) S T/\g p=B/\(∀x∈v,(if x∈C++[p]then g x else m x)=B\/∃y∈L,m y=if x∈C++[p]then g x else m x)/\∀y,y=B\/(∃x∈L,m x=y)->∃x∈v,(if x∈C++[p]then g x else m x)=y:=by
 have r:∀{x},x∈C++[p]↔x∈C\/x=p:=λ{x}=>by rw[Yl,Yq]
 have O:g p=B:=by
  obtain⟨_,e|⟨y,_,H,ym⟩⟩:=a.by_ i p b.at_
  .exact X9 e
  .exact(N y H ym).elim
 have U:∀x∈C++[p],∃j,Q[j]? =some x:=λx l=>by
  rcases r.mp l with l|rfl
  .obtain⟨j,_,e⟩:=b.far x l;exact%[j|e]
  .exact%[i|b.at_]
 have o:∀x∈v,x∉C++[p]->x∈L:=λx l n=>((G x).mp l).resolve_right λe=>n (e▸r.mpr (b.hf.imp_right Eq.symm))
 have s:∀x∈C++[p],∀y∈L,y∉C++[p]->g x≠m y:=λx l y H n e=>by
  rcases r.mp l with l|rfl
  .obtain⟨z,w,A,zc⟩:=b.nx x l;exact n ((M.inj y H z w (e.symm.trans A.symm))▸r.mpr zc)
  .exact N y H e.symm
 refine%[%[nd,λx l y I e=>?_|λx l=>?_],%[h.nb|λq t=>%[(G q).mpr (.inl (h.mt q t).1)|?_]],O,λx l=>?_|λy I=>?_]
 .by_cases d:x∈C++[p]<;> by_cases u:y∈C++[p]
  .rw[if_pos d,if_pos u]at e;exact b.inj' M a x d y u (λz w A=>(N z w A).elim) e
  .rw[if_pos d,if_neg u]at e;exact(s x d y (o y I u) u e).elim
  .rw[if_neg d,if_pos u]at e;exact(s y u x (o x l d) d e.symm).elim
  .rw[if_neg d,if_neg u]at e;exact M.inj x (o x l d) y (o y I u) e
 .by_cases d:x∈C++[p]
  .rw[if_pos d];obtain⟨j,e⟩:=U x d;exact(a.by_ j x e).1
  .rw[if_neg d];exact M.ed x (o x l d)
 .rw[if_neg (λc=>b.nt q (r.mp c) t)];exact(h.mt q t).2
 .by_cases d:x∈C++[p]
  .rw[if_pos d];rcases r.mp d with d|rfl
   .obtain⟨z,w,A,_⟩:=b.nx x d;exact .inr %[z,w|A]
   .exact .inl O
  .rw[if_neg d];exact .inr %[x,o x l d|rfl]
 .have mem:=λx l=>(G x).mpr ((b.pv x (r.mp l)).elim .inr λh=> .inl h.1)
  rcases I with rfl|⟨x,Y,rfl⟩
  .exact%[p,mem p (r.mpr (.inr rfl))|(if_pos (r.mpr (.inr rfl)))▸O]
  .by_cases d:x∈C++[p]
   .rcases b.pv x (r.mp d)with e|⟨_,z,hz,e⟩
    .exact(J (e▸Y)).elim
    .exact%[z,mem z (r.mpr (.inl hz))|(if_pos (r.mpr (.inl hz)))▸e]
   .exact%[x,(G x).mpr (.inl Y)|by rw[if_neg d]]
end
theorem iZ(p:Str->Prop)[DecidablePred p]:∀xs:ZB,xs.length=(xs.filter λx=>decide (p x)).length+(xs.filter λx=>decide (¬ p x)).length
 |[]=>rfl
 | x::xs=>by
   have a:=iZ p xs;by_cases c:p x
   .rw[Y1 (by simpa using c),Y0 (by simpa using c),Zq,Zq];lia
   .rw[Y0 (by simpa using c),Y1 (by simpa using c),Zq,Zq];lia
open Classical in
theorem md(p:∀a b c,E a b->E b c->E a c){names L A:ZB}(o:names.Nodup)(M:Mat E L m)(q:∀x∈L,m x∈names)(r:A.Nodup)(s:∀x∈A,x∈names)(anti:∀x∈A,∀y∈A,¬ E x y):A.length<=(names.filter λx=>decide (x∉L)).length:=by
 have up:∀{x y a:Str},E y x->(x=a\/E x a)->E y a:=λe h=>h.elim (λh=>h▸e) λh=>p _ _ _ e h
 have t:=STab.nodup_sub (l:=((L.filter λx=>decide (∃a∈A,x=a\/E x a)).map m) ++A) (m:=names.filter λx=>decide (∃a∈A,x=a\/E x a)) (nodup_append.mpr %[?_,r|λy d z u e=>?_]) λy d=>?_
 .rw[Z8,Z5]at t;have v:=iZ (λx=>x∈L) (names.filter λx=>decide (∃a∈A,x=a\/E x a));have w:=STab.nodup_sub (l:=(names.filter λx=>decide (∃a∈A,x=a\/E x a)).filter λx=>decide (x∈L)) (m:=L.filter λx=>decide (∃a∈A,x=a\/E x a)) ((o.filter _).filter _) λx f=>by
   obtain⟨h,i⟩:=List.mem_filter.mp f;exact List.mem_filter.mpr %[Zn i|(List.mem_filter.mp h).2]
  have B:=STab.nodup_sub (l:=(names.filter λx=>decide (∃a∈A,x=a\/E x a)).filter λx=>decide (¬ x∈L)) (m:=names.filter λx=>decide (x∉L)) ((o.filter _).filter _) λx f=>by
   obtain⟨h,i⟩:=List.mem_filter.mp f;exact List.mem_filter.mpr %[(List.mem_filter.mp h).1|i]
  lia
 .rw[Yt,Yy];exact X3 (λ{x y} f d n e=>n (M.inj x (List.mem_filter.mp f).1 y (List.mem_filter.mp d).1 e)) (nodup_iff_pairwise_ne.mp (M.nd.filter _))
 .obtain⟨x,f,rfl⟩:=Xa d;obtain⟨g,h⟩:=List.mem_filter.mp f;obtain⟨a,j,h⟩:=Zn h;exact anti _ (e▸u) a j (up (M.ed x g) h)
 .rcases X8 d with d|d
  .obtain⟨x,f,rfl⟩:=Xa d;obtain⟨g,h⟩:=List.mem_filter.mp f;obtain⟨a,j,h⟩:=Zn h;exact List.mem_filter.mpr %[q x g|Ze %[a,j|.inr (up (M.ed x g) h)]]
  .exact List.mem_filter.mpr %[s y d|Ze %[y,d|.inl rfl]]
theorem ni{names L lf:ZB}(b:names.Nodup)(c:L.Nodup)(sub:∀x∈L,x∈names)(d:lf.length=L.length):(names.filter λx=>decide (x∉L)).length<=(names.filter λx=>decide (x∉lf)).length:=by
 have e:=iZ (λx=>x∈L) names;have f:=iZ (λx=>x∈lf) names;have g:=STab.nodup_sub c λx a=>List.mem_filter.mpr %[sub x a|Ze a]
 have h:=STab.nodup_sub (b.filter λx=>decide (x∈lf)) λx a=>Zn (List.mem_filter.mp a).2
 lia
end Cut
namespace Cut
open PySem L2
theorem np(lt:q->q->Bool)(c:∀x y,lt x y=false->x≠y->lt y x=true):∀{l m:List q},l.Pairwise (λa b=>lt b a=false)->m.Pairwise (λa b=>lt b a=false)->l.Nodup->m.Nodup->(∀x,x∈l↔x∈m)->l=m
 |[],[],_,_,_,_,_=>rfl
 |[],y::m,_,_,_,_,h=>absurd ((h y).mpr Zl) ∅
 | x::l,[],_,_,_,_,h=>absurd ((h x).mp Zl) ∅
 | x::l,y::m,s,t,nl,u,h=>by
   obtain⟨f,g⟩:=List.pairwise_cons.mp s;obtain⟨i,j⟩:=List.pairwise_cons.mp t;obtain⟨v,n⟩:=nodup_cons.mp nl;obtain⟨w,o⟩:=nodup_cons.mp u;have e:=Classical.byContradiction λd=>by
    have A:=(mem_cons.mp ((h x).mp Zl)).resolve_left d;have r:=f y ((mem_cons.mp ((h y).mpr Zl)).resolve_left (Ne.symm d));rw[c x y (i x A) d]at r;cases r
   subst e;rw[np lt c g j n o λz=>?_]
   constructor
   .intro p;rcases mem_cons.mp ((h z).mp (Zj _ p))with e|e
    .simp_all
    .exact e
   .intro p;rcases mem_cons.mp ((h z).mpr (Zj _ p))with e|e
    .simp_all
    .exact e
def Let(rows:ZB)(c:Nat):Prop:=c≠46/\∃r∈rows,c∈r.cps.toList
def B9(rows:ZB)(a b:Nat):Prop:=a≠46/\a≠b/\∃(i j:Nat) (r c:Str),rows[i]? =some r/\rows[i+1]? =some c/\r.cps[j]? =some a/\c.cps[j]? =some b
theorem gj:c∈cR rows↔Let rows c:=by
 unfold cR Let;rw[List.mem_filter,r9,List.mem_flatten,decide_eq_true_eq]
 constructor
 .rintro⟨⟨l,e,b⟩,a⟩;obtain⟨r,d,rfl⟩:=Xa e;exact%[a,r,d|b]
 .rintro⟨a,r,d,b⟩;exact%[%[_,Xb %[r,d|rfl]|b]|a]
end Cut
namespace Cut
open PySem L2
def St(wd:Bool)(c d:Int):Prop:=c<=d+(if wd=true then 1 else 0)/\d<=c+(if wd=true then 1 else 2)
def j3(wd:Bool)(b:ZK):Prop:=∃a:Nat,a<b.length/\(∀k c,b[k]? =some c->(k<a->c= -1)/\(a<=k->0<=c/\c<=7))/\∀k c d,b[k]? =some c->b[k+1]? =some d->a<=k->St wd c d
noncomputable def sg(a s:Int):Nat:=if a<0 then 46 else 97+((a*5+s)%26).toNat
theorem EM(h:0<=a):iG (sg a s)=true:=by
 unfold sg;rw[if_neg ⋯,kE]
 lia
theorem EN(h:a<0):sg a s=46:=if_pos h
theorem Ac(h:0<=a):sg a s≠46:=by
 unfold sg;rw[if_neg ⋯]
 lia
theorem EO(e:0<=a)(c:a<=7)(f:0<=b)(d:b<=7)(h:sg a s=sg b s):a=b:=by
 unfold sg at h;rw[if_neg ⋯,if_neg ⋯]at h;omega
noncomputable def iK(a:List ZK)(b:Int)(k:Nat):Str:=⟨(a.map λc=>sg (c.getD k 0) b).toArray⟩
noncomputable def drawn(a:List ZK)(hi:Nat)(b:Int):ZB:=(List.range hi).map (iK a b)
theorem gu(h:(drawn a hi c)[k]? =some z):k<hi/\z=iK a c k:=by
 unfold drawn at h;rw[Zk]at h;by_cases b:k<hi
 .rw[List.getElem?_range b]at h;exact%[b|(Z9 h).symm]
 simp_all
theorem kL{a:List ZK}{k j c:Nat}(h:(iK a d k).cps[j]? =some c):∃b,a[j]? =some b/\c=sg (b.getD k 0) d:=by
 have h:(a.map λc=>sg (c.getD k 0) d)[j]? =some c:=by simpa [iK]using h
 rw[Zk]at h;cases e:a[j]? with
 | none=>simp_all
 | some b=>rw[e]at h;exact%[b,rfl|(Z9 h).symm]
theorem db{a:ZK}(b:a.length=hi)(c:k<hi):a[k]? =some (a.getD k 0):=by
 simp_all
theorem sS{a:List ZK}{d:Int}{wd:Bool}(J:1<=hi)(L:hi<=40)(y:1<=a.length)(A:a.length<=40)(v:∀c∈a,c.length=hi/\j3 wd c):b8 (drawn a hi d):=by
 have len:(drawn a hi d).length=hi:=by unfold drawn;rw[Z5,Yc]
 have f:∀z∈drawn a hi d,∃k,k<hi/\z=iK a d k:=λz g=>by
  obtain⟨k,e⟩:=X2 g;exact%[k|gu e]
 refine%[⋯,⋯,%[a.length,y,A|λz g=>?_],λz g=>?_,λi r M B C j c N g1 g2 p=>?_|?_]
 .obtain⟨k,_,rfl⟩:=f z g;simp[iK]
 .obtain⟨k,h,rfl⟩:=f z g;rw[all_eq_true];intro c q;obtain⟨j,E⟩:=X2 q;obtain⟨b,s,rfl⟩:=kL (j:=j) (by simpa using E);by_cases G:b.getD k 0<0
  .rw[EN G];decide +kernel
  .unfold okc;rw[EM ⋯,Bool.or_true]
 .obtain⟨t,rfl⟩:=gu B;obtain⟨u,rfl⟩:=gu C;obtain⟨b,s,rfl⟩:=kL g1;obtain⟨w,l,rfl⟩:=kL g2;rw[s]at l;cases l;obtain⟨o,m,H,h,_⟩:=v b (Z7 s);by_cases I:i+1<m
  .rw[(h i _ (db o t)).1 ⋯];rfl
  .exact absurd p (Ac ((h _ _ (db o u)).2 ⋯).1)
 .have n:0<a.length:=by lia
  obtain⟨o,m,H,h,_⟩:=(v _ (Y7 n))
  exact%[iK a d _,Xb %[hi-1,by rw[mem_range];lia|rfl],sg (a[0].getD (hi-1) 0) d,Xb %[a[0],Y7 n|rfl]|Ac ((h _ _ (db o ⋯)).2 ⋯).1]
theorem sT{i:Int}{wd:Bool}(s:∀c∈d,c.length=hi/\j3 wd c){c:Nat}:Let (drawn d hi i) c↔∃a:Int,0<=a/\a<=7/\(∃b∈d,a∈b)/\c=sg a i:=by
 constructor
 .rintro⟨l,r,t,m⟩;obtain⟨k,e⟩:=X2 t;obtain⟨h,rfl⟩:=gu e;obtain⟨j,u⟩:=X2 m;obtain⟨b,v,rfl⟩:=kL (by simpa using u);have f:=Z7 v;obtain⟨n,o,A,w,_⟩:=s b f;have g:=db n h;have q:=w k _ g;have:o<=k:=by
   refine Nat.le_of_not_lt λz=>l ?_
   rw[q.1 z];rfl
  exact%[_,(q.2 this).1,(q.2 this).2,%[b,f|Z7 g]|rfl]
 .rintro⟨a,y,B,⟨b,f,p⟩,rfl⟩;obtain⟨n,_⟩:=s b f;obtain⟨k,h⟩:=X2 p;refine%[Ac y,iK d i k,Xb %[k,by rw[mem_range];exact(n▸(X7 h).1)|rfl]|Xb %[b,f|?_]];rw[Zb,h];rfl
noncomputable def there(b:List ZK):ZK:=((List.range 8).filter λa:Nat=>b.any λc=>decide ((a:Int)∈c)).map λa:Nat=>a
theorem eO:a∈there c↔0<=a/\a<=7/\∃b∈c,a∈b:=by
 unfold there;rw[mem_map]
 constructor
 .rintro⟨n,f,rfl⟩;rw[List.mem_filter,mem_range,List.any_eq_true]at f;obtain⟨g,b,d,e⟩:=f;exact%[⋯,⋯,b,d|Zn e]
 .rintro⟨h,i,b,d,e⟩;refine%[a.toNat,?_|⋯];rw[List.mem_filter,mem_range,List.any_eq_true];refine%[⋯,b,d|Ze ?_];rw[show a.toNat=a by lia];exact e
theorem sU(a:List _):(there a).Nodup:=by
 unfold there;rw[Yt,Yy];refine(List.Pairwise.filter _ (nodup_iff_pairwise_ne.mp nodup_range)).imp λh e=>h ⋯
theorem Ad{a:List ZK}{hi:Nat}(i:1<=hi)(j:1<=a.length)(d:∀c∈a,c.length=hi/\j3 wd c):there a≠[]:=by
 have b:0<a.length:=by lia
 obtain⟨e,f,l,h,_⟩:=d _ (Y7 b);have g:=db e (show hi-1<hi by lia);have q:=(h _ _ g).2 ⋯;exact List.ne_nil_of_mem (eO.mpr %[q.1,q.2,_,Y7 b|Z7 g])
theorem kM(a:List _):(there a).length<=8:=by
 unfold there;rw[Z5];exact Y9 (Yb _ _) (Zh _)
noncomputable def dq(n:Str)(c:Nat):Str:=⟨(n.cps.toList++[46,c]).toArray⟩
theorem kO(h:dq n c=dq m d):n=m/\c=d:=by
 have e:=by
  have:=congrArg (λz=>z.cps.toList) h;simpa [dq]using this
 have q:=List.append_inj' e rfl;refine%[iU q.1|?_];have:=q.2;simpa using this
def xv(rows:ZB):Prop:=∃m:List _,m.length<=14/\∀a b,B9 rows a b->[sgn a,sgn b]∈m
noncomputable def uQ(wd:Bool):List (Int×Int):=((List.range 7).map λi:Nat=>((i:Int),(i:Int) +1)) ++if wd=true then(List.range 7).map λi:Nat=>((i:Int) +1,(i:Int))else(List.range 6).map λi:Nat=>(i,i+2)
theorem xw(h:St wd c d)(c0:0<=c)(a:c<=7)(b:0<=d)(f:d<=7)(g:c≠d):(c,d)∈uQ wd:=by
 unfold St at h;unfold uQ;rw[Yl];by_cases e:d=c+1
 .exact .inl (Xb %[c.toNat,mem_range.mpr ⋯|by rw[show c.toNat=c by lia,e]])
 .refine .inr ?_;cases wd
  .exact Xb %[c.toNat,mem_range.mpr ⋯|by rw[show c.toNat=c by lia,show d=c+2 by lia]]
  .exact Xb %[d.toNat,mem_range.mpr ⋯|by grind]
theorem Ae{hi:Nat}{m:Int}{wd:Bool}(w:∀c∈f,c.length=hi/\j3 wd c):xv (drawn f hi m):=by
 refine%[(uQ wd).map λp=>[sgn (sg p.1 m),sgn (sg p.2 m)],?_|?_]
 .rw[Z5];cases wd<;> decide
 .rintro a b ⟨y,A,i,j,r,H,B,C,g1,g2⟩;obtain⟨d,rfl⟩:=gu B;obtain⟨g,rfl⟩:=gu C;obtain⟨n,q,rfl⟩:=kL g1;obtain⟨s,h,rfl⟩:=kL g2;rw[q]at h;cases h;obtain⟨l,E,I,o,G⟩:=w n (Z7 q);have t:=Nat.le_of_not_lt λz=>y (by rw[(o i _ (db l d)).1 z];rfl)
  have u:=(o i _ (db l d)).2 t;have v:=(o _ _ (db l g)).2 ⋯;exact Xb %[(_,_),xw (G i _ _ (db l d) (db l g) t) u.1 u.2 v.1 v.2 (λe=>A (by rw[e]))|rfl]
end Cut
namespace K63
open PySem L2 Cut
set_option hygiene false in
abbrev ZL:=List V
abbrev ZM:=List (Addr×List V)
local macro_rules|`(tactic|lk)=>do
 let x<-("aY yh jG jF jE pY jh yF tB AT tOr Dd yf Dh tIf tOp tUn tC C8 C9 tCB rE tW vt DC DD tM tBM Bi tSl yT p9 wA rI rI0 rU Ec Ef rEq rNe zd CL ze DT DV DK DL DM By FH vD vC ut qj yr yp Dl CS CT CY vw vy Dy Dz Eo jJ DY qk ua y3 zR zS EA qL ED z0 sJ rIn Bz DP DH Ea qh vB yz BA Fg Fh Fi".splitOn " ").toArray.mapM λs=>`(Lean.Parser.Tactic.simpLemma|↓$(Lean.mkIdent s.toName):ident)
 let y<-("mR A5 yH zqD tyV Fj Fk Fl List.getElem?_cons_zero List.getElem?_cons_succ List.set_cons_zero List.set_cons_succ Option.some.injEq V.int.injEq V.str.injEq V.bl.injEq V.ref.injEq V.ty.injEq List.cons.injEq reduceCtorEq and_true true_and and_false false_and or_false false_or or_true true_or exists_false exists_eq_left' exists_eq_left exists_eq_right exists_eq_right' exists_and_left exists_and_right exists_eq List.cons_append List.nil_append Zw exists_const and_assoc Int.zero_add Bool.not_true Bool.not_false Zx if_true if_false eq_self".splitOn " ").toArray.mapM λs=>`(Lean.Parser.Tactic.simpLemma|$(Lean.mkIdent s.toName):ident)
 `(tactic|simp only[$(x++y),*])
local macro_rules|`(!$n:ident)=>`(some (V.ref $n))
local macro_rules|`(-$n:ident)=>`(some (V.str $n))
local macro_rules|`(#[$n:num])=>`((show $n≤sizeLine by decide))|`(#[$x])=>`(paE rfl $x ap)|`(#[$x,$y,*])=>`(paE rfl $x #[$y,*])
local macro_rules|`(tactic|walk)=>`(tactic|refine⟨rfl,rfl,rfl,?_,rfl,?_,?_⟩<;>decide +kernel)
theorem zq0{P:List Value->Prop}(h:P []):∀u,u.length=0->P u:=λu e=>by rw[List.length_eq_zero_iff.mp e];exact h
theorem zq1{n:Nat}{P:List Value->Prop}(h:∀a,∀u,u.length=n->P (a::u)):∀u,u.length=n+1->P u:=λu e=>by
 cases u with
 |nil=>cases e
 |cons a u=>exact h a u (Nat.succ.inj e)
local macro_rules|`(tactic|room)=>`(tactic|(intro _ _ _ _ _ _;(repeat(refine zq1 λ_=>?_));exact zq0 rfl))
set_option hygiene false in
local macro_rules|`(tactic|fin2)=>`(tactic|(intro a b c d h;repeat(first|(obtain⟨rfl,_⟩:=h;rfl)|obtain⟨_,h⟩:=h)))
set_option hygiene false in
local macro_rules|`(~~~$a)=>`(jb (K:=K) rfl (λ_=>rfl) $a)
set_option hygiene false in
local macro_rules|`(↥$a)=>`(ctO (gM (K:=K) rfl) T.a5 boot_list rfl (paE rfl $a ap))
set_option hygiene false in
local macro_rules|`(↑$a)=>`(cbO (bZ (K:=K) rfl) T.a8 PySem.boot_len rfl (paE rfl $a ap))
set_option hygiene false in
local macro_rules|`(↑$n:num)=>`(ac $n rfl)
set_option hygiene false in
local macro_rules|`($a*>$b)=>`(di (K:=K) rfl (λ_ _=>rfl) $a $b)
set_option hygiene false in
local macro_rules|`($a>>$b)=>`(dj (K:=K) rfl (λ_ _=>rfl) $a $b)
set_option hygiene false in
local macro_rules|`(↥$n:num)=>`(Cal P w K mg base $n)
noncomputable def top(i:Nat):Stmt:=PySem.Challenge.pw_digbook_k63_whole_none_wider_none_fewer.main.body.getD i (.Pass %[0,0,0|0])
noncomputable section
abbrev dB:Stmt:=top 1
theorem bg:au ["ground","names","layer","word","one","other"] ["ground"] (ak dB):=by walk
abbrev dW:Stmt:=top 2
theorem dC:au ["names","one","other","first","second"] ["names","one","other"] (ak dW):=by walk
abbrev cV:Stmt:=top 3
theorem eB:au ["names","layer"] ["names","layer"] (ak cV):=by walk
abbrev jw:Stmt:=top 4
theorem fI:au ["ground","names","groups","layer"] ["ground"] (ak jw):=by walk
abbrev cT:Stmt:=top 5
theorem kP:au ["ground"] ["ground"] (ak cT):=by walk
abbrev mf:Stmt:=top 6
theorem sV:au ["ground","names"] ["ground"] (ak mf):=by walk
abbrev dD:Stmt:=top 15
theorem j5:au ["found"] ["found"] (ak dD):=by walk
abbrev cW:Stmt:=top 16
theorem jc:au ["found"] ["found"] (ak cW):=by walk
abbrev kQ:Stmt:=top 17
theorem jx:au ["found","side","groups","link"] ["found","side"] (ak kQ):=by walk
abbrev df:Stmt:=top 18
theorem aZ:au ["names","found","beneath","above","waits","name","ready","laid","least","link"] ["names","found"] (ak df):=by walk
abbrev e7:Stmt:=top 19
theorem cU:au ["beneath","start","goal","reached","edge"] ["beneath","start","goal"] (ak e7):=by walk
abbrev iL:Stmt:=top 20
theorem eE:au ["beneath","edge","reached","further","name","link"] ["beneath","edge","reached"] (ak iL):=by walk
abbrev nq:Stmt:=top 21
theorem pO:au ["reached","start","goal","way"] ["reached","start","goal"] (ak nq):=by walk
abbrev fS:Stmt:=top 22
theorem cA:au ["names","found","beneath","reach","name","link"] ["names","found"] (ak fS):=by walk
abbrev eF:Stmt:=top 23
theorem cN:au ["partners","held_by","asker","asked_by","free"] ["partners"] (ak eF):=by walk
abbrev gW:Stmt:=top 24
theorem cO:au ["partners","held_by","askers","asked_by","waiting","asker","partner"] ["partners","held_by","askers"] (ak gW):=by walk
abbrev kR:Stmt:=top 25
theorem e8:au ["held_by","asked_by","free","holds","partner","asker"] ["held_by","asked_by","free"] (ak kR):=by walk
abbrev dX:Stmt:=top 26
theorem cG:au ["some","turned_about","key","value"] ["some"] (ak dX):=by walk
abbrev bH:Stmt:=top 27
theorem cK:au ["partners","held_by","holds","asked_by"] ["partners","held_by"] (ak bH):=by walk
abbrev uR:Stmt:=top 29
theorem Ca:au ["ground"] ["ground"] (ak uR):=by walk
abbrev dY:Stmt:=top 30
theorem bG:au ["names","found","beneath","shortest","name","way"] ["names","found"] (ak dY):=by walk
abbrev gX:Stmt:=top 31
theorem om:au ["names","found"] ["names","found"] (ak gX):=by walk
abbrev e9:Stmt:=top 32
theorem dZ:au ["ground","found","torn_by"] ["ground"] (ak e9):=by walk
abbrev fh:Stmt:=top 34
theorem iq:au ["ground","found"] ["ground"] (ak fh):=by walk
abbrev dJ:Stmt:=top 36
theorem fi:au ["ground","later_ahead","earlier_behind"] ["ground"] (ak dJ):=by walk
abbrev jy:Stmt:=top 37
theorem lK:au ["first","earlier_behind","row"] ["first","earlier_behind"] (ak jy):=by walk
abbrev j6:Stmt:=top 38
theorem kS:au ["ground","reach","left_out"] ["ground"] (ak j6):=by walk
abbrev j7:Stmt:=top 40
theorem gA:au ["ground","found","beneath","told","name"] ["ground"] (ak j7):=by walk
abbrev i4:Stmt:=top 47
theorem uS:au ["thing"] ["thing"] (ak i4):=by walk
abbrev kT:Stmt:=top 48
theorem gY:au ["text","rows","number","row"] ["text"] (ak kT):=by walk
abbrev j8:Stmt:=top 49
theorem xx:au ["row"] ["row"] (ak j8):=by walk
abbrev dg:Stmt:=top 50
theorem lU:au ["row","above"] ["row","above"] (ak dg):=by walk
abbrev eG:Stmt:=top 51
theorem oo:au ["rows"] ["rows"] (ak eG):=by walk
abbrev kU:Stmt:=top 52
theorem uT:au ["text"] ["text"] (ak kU):=by walk
abbrev jz:Stmt:=top 53
theorem dU:au ["text","rows","pairs","above","row"] ["text"] (ak jz):=by walk
abbrev cf:Stmt:=top 54
theorem jd:au ["above","row"] ["above","row"] (ak cf):=by walk
abbrev gZ:Stmt:=top 63
theorem dL:au ["cuts","names","number","thing"] ["cuts"] (ak gZ):=by walk
abbrev fj:Stmt:=top 64
theorem lV:au ["thing"] ["thing"] (ak fj):=by walk
abbrev nu:Stmt:=top 65
theorem xy:au ["thing"] ["thing"] (ak nu):=by walk
abbrev d5:Stmt:=top 66
theorem dE:au ["sayings","layers","number","thing"] ["sayings","layers"] (ak d5):=by walk
abbrev iM:Stmt:=top 67
theorem qS:au ["thing","layers"] ["thing","layers"] (ak iM):=by walk
abbrev d6:Stmt:=top 68
theorem kW:au ["thing","texts"] ["thing","texts"] (ak d6):=by walk
abbrev kX:Stmt:=top 69
theorem uU:au ["thing"] ["thing"] (ak kX):=by walk
abbrev hC:Stmt:=top 70
theorem ot:au ["name","letter"] ["name","letter"] (ak hC):=by walk
abbrev fJ:Stmt:=top 71
theorem eI:au ["cuts","layers","name","text"] ["cuts"] (ak fJ):=by walk
abbrev fo:Stmt:=top 72
theorem bM:au ["cuts","ties","name","text","upper","lower"] ["cuts"] (ak fo):=by walk
abbrev dh:Stmt:=top 73
theorem cg:au ["sayings","ties","number","saying"] ["sayings"] (ak dh):=by walk
abbrev fT:Stmt:=top 75
theorem nv:au ["_law_script","_law_k"] ["_law_script","_law_k"] (ak fT):=by walk
abbrev kY:Stmt:=top 76
theorem cB:au ["_law_script","_law_many","_law_found","_law_number","_law_k","_law_cell","_law_one","_law_two"] ["_law_script","_law_many"] (ak kY):=by walk
abbrev hJ:Stmt:=top 77
theorem bE:au ["_law_number","_law_high","_law_wild","_law_air","_law_at","_law_signs","_law_k"] ["_law_number","_law_high","_law_wild"] (ak hJ):=by walk
abbrev jA:Stmt:=top 78
theorem sW:au ["_law_at","_law_shift"] ["_law_at","_law_shift"] (ak jA):=by walk
abbrev dG:Stmt:=top 79
theorem ci:au ["_law_row_here","_law_shift","_law_wide","_law_high","_law_wild","_law_columns","_law_rows","_law_k","_law_signs","_law_there"] ["_law_row_here","_law_shift"] (ak dG):=by walk
abbrev hV:Stmt:=top 80
theorem bF:au ["_law_one","_law_two","_law_layers","_law_layer","_law_at","_law_other","_law_there","_law_kind","_law_odd","_law_year"] ["_law_one","_law_two","_law_layers"] (ak hV):=by walk
abbrev eJ:Stmt:=top 81
theorem aQ:au ["_law_row_here","_law_cuts","_law_layers","_law_k","_law_name","_law_shift","_law_text","_law_there","_law_at","_law_many","_law_sayings"] ["_law_row_here"] (ak eJ):=by walk
abbrev iN:Stmt:=top 82
theorem bu:au ["_law_some","_law_begin","_law_steps_here","_law_edge","_law_far","_law_more","_law_later","_law_earlier_here","_law_source"] ["_law_some","_law_begin"] (ak iN):=by walk
abbrev dM:Stmt:=top 84
theorem cC:au ["_law_ground_here","_law_some","_law_names","_law_known","_law_name"] ["_law_ground_here"] (ak dM):=by walk
abbrev iO:Stmt:=top 85
theorem eK:au ["_law_names","_law_number","_law_left","_law_found"] ["_law_names","_law_number"] (ak iO):=by walk
abbrev fK:Stmt:=top 86
theorem hW:au ["_law_names","_law_known","_law_found","_law_name"] ["_law_names","_law_known"] (ak fK):=by walk
abbrev cP:Stmt:=top 87
theorem bI:au ["_law_names","_law_known","_law_number","_law_rest","_law_rows","_law_size","_law_name","_law_fit"] ["_law_names","_law_known","_law_number"] (ak cP):=by walk
abbrev jm:Stmt:=top 88
theorem d8:au ["_law_script","_law_cuts","_law_sayings","_law_layers","_law_ground_here","_law_known","_law_wide","_law_many","_law_k","_law_number","_law_at","_law_name"] ["_law_script"] (ak jm):=by walk
abbrev bO:Stmt:=jK (top 62) 0
theorem fz:au ["self","cuts","sayings","layers"] ["self","cuts","sayings"] (ak bO):=by walk
abbrev ou:Stmt:=jK (top 62) 1
theorem Af:au ["self"] ["self"] (ak ou):=by walk
abbrev bS:Stmt:=jK (top 62) 2
theorem j9:au ["self"] ["self"] (ak bS):=by walk
abbrev ck:Stmt:=jK (top 62) 3
theorem kZ:au ["self"] ["self"] (ak ck):=by walk
abbrev cQ:Stmt:=jK (top 62) 4
end
theorem nA:au ["self"] ["self"] (ak cQ):=by walk
def uV(K:ZA):Sp:=λvs H Q _=>∃(a:Addr) (b:ZK) (k:Int),vs=[.ref a,.int k]/\SqL K H a (b.map V.int)/\0<=k/\Q (.int (b.getD k.toNat 0)) H
def EQ(K:ZA):Sp:=λvs H Q _=>∃(a:Addr) (c:ZK) (m:Int),vs=[.ref a,.int m]/\SqL K H a (c.map V.int)/\c.length<=1000/\0<=m/\m<=100/\∀l b (xs:ZK),af H b->H l=none->b l=some (.lst (xs.map V.int))->xs.length=m.toNat->(∀x∈xs,0<=x/\x<9973)->Q (.ref l) b
def xz:Sp:=λvs H Q _=>∃n hi a,vs=[.int n,.int hi,.bl a]/\0<=n/\1<=hi/\hi<=6/\∀l b c,af H b->H l=none->b l=some (.lst (c.map V.int))->c.length=hi.toNat->j3 a c->Q (.ref l) b
def Cb:Sp:=λvs H Q _=>∃a s:Int,vs=[.int a,.int s]/\0<=s/\Q (.str (sgn (sg a s))) H
def qT(H:Hp)(a:List (Addr×ZK)):Prop:=∀p∈a,H p.1=some (.lst (p.2.map V.int))
theorem qT.up{H a:Hp}{b:List _}(h:qT H b)(s:af H a):qT a b:=λp c=>s _ _ (h p c)
def ER(K:ZA):Sp:=λvs H Q _=>∃(a:Addr) (xs:ZK) (f:Int),vs=[.ref a,.int f]/\SqL K H a (xs.map V.int)/\(∀d,af H d->SqL K d a (xs.map V.int))/\xs.length=6/\(∀x∈xs,0<=x/\x<9973)/\0<=f/\
 ∀T e d b hi wd,af H d->H T=none->H e=none->T≠e->d T=some (.tup [.str (Str.join nl (drawn b hi f)),.ref e])->d e=some (.lst ((there b).map V.int))->
  1<=hi->hi<=6->1<=b.length->b.length<=5->(∀c∈b,c.length=hi/\j3 wd c)->Q (.ref T) d
structure Txt (K:ZA) (mg:ZC):Prop where
 a0:mg "min"=none
 a1:mg "max"=none
 a5:mg "list"=none
 a6:mg "set"=none
 a7:mg "sorted"=none
 a8:mg "len"=none
 a9:mg "reversed"=none
 aa:mg "all"=none
 ab:mg "str"=none
 ac:mg "isinstance"=none
 ae:mg "enumerate"=none
 af:mg "zip"=none
 ag:mg "tuple"=none
 ah:mg "int"=none
 ai:mg "bool"=none
 aj:mg "range"=none
 ak:mg "abs"=none
 al:Gv mg "LATER" (.int 0)
 am:Gv mg "EARLIER" (.int 1)
 an:Gv mg "LONGEST_NAME" (.int 8)
 ao:Gv mg "LETTERS" (.str "abcdefghijklmnopqrstuvwxyz")
 ap:Gv mg "MOST_ROWS" (.int 40)
 aq:Gv mg "MOST_SIGNS" (.int 40)
 ar:Gv mg "AIR" (.str ".")
 au:Gv mg "MOST_CUTS" (.int 8)
 av:Gv mg "MOST_SAYINGS" (.int 60)
 aw:Gv mg "FIRST_YEAR" (.int (-9999))
 ax:Gv mg "LAST_YEAR" (.int 9999)
 ay:aF K mg "names_by_layer" dB ["ground"]
 az:aF K mg "join_deposits" dW ["names","one","other"]
 aA:aF K mg "least_pointed_to" cV ["names","layer"]
 aB:aF K mg "deposits" jw ["ground"]
 aC:aF K mg "deposit_names" cT ["ground"]
 aD:aF K mg "links" mf ["ground"]
 aE:aF K mg "links_by_later" dD ["found"]
 aG:aF K mg "links_by_earlier" cW ["found"]
 aH:aF K mg "grouped" kQ ["found","side"]
 aI:aF K mg "laid_in_turn" df ["names","found"]
 aJ:aF K mg "shortest_way" e7 ["beneath","start","goal"]
 aK:aF K mg "next_edge" iL ["beneath","edge","reached"]
 aL:aF K mg "way_to" nq ["reached","start","goal"]
 aM:aF K mg "all_beneath" fS ["names","found"]
 aN:aF K mg "most_pairs" eF ["partners"]
 aO:aF K mg "ask_around" gW ["partners","held_by","askers"]
 aP:aF K mg "pass_on" kR ["held_by","asked_by","free"]
 aQ:aF K mg "keys_by_value" dX ["some"]
 aR:aF K mg "one_of_each_pair" bH ["partners","held_by"]
 aS:aF K mg "ring" uR ["ground"]
 aT:aF K mg "shortest_ring" dY ["names","found"]
 aU:aF K mg "never_laid" gX ["names","found"]
 aV:aF K mg "untorn_links" e9 ["ground"]
 aW:aF K mg "earlier_ones" fh ["ground"]
 aX:aF K mg "fewest_rows" dJ ["ground"]
 aY:aF K mg "row_from" jy ["first","earlier_behind"]
 aZ:aF K mg "widest" j6 ["ground"]
 b0:aF K mg "levels" j7 ["ground"]
 b1:aF K mg "is_name" i4 ["thing"]
 b2:aF K mg "rows_of" kT ["text"]
 b3:aF K mg "is_row" j8 ["row"]
 b4:aF K mg "lies_beneath" dg ["row","above"]
 b5:aF K mg "letters_in" eG ["rows"]
 b6:aF K mg "letters" kU ["text"]
 b7:aF K mg "meetings" jz ["text"]
 b8:aF K mg "meetings_between" cf ["above","row"]
 b9:aF K mg "check_cuts" gZ ["cuts"]
 ba:aF K mg "is_named_cut" fj ["thing"]
 bb:aF K mg "is_cut" nu ["thing"]
 bc:aF K mg "check_sayings" d5 ["sayings","layers"]
 bd:aF K mg "is_saying" iM ["thing","layers"]
 be:aF K mg "is_text_among" d6 ["thing","texts"]
 bf:aF K mg "is_year" kX ["thing"]
 bg:aF K mg "layer_name" hC ["name","letter"]
 bh:aF K mg "layers_of" fJ ["cuts"]
 bi:aF K mg "ties_of_cuts" fo ["cuts"]
 bj:aF K mg "ties_of_sayings" dh ["sayings"]
 bm:aF K mg "_law_cell_at" fT ["_law_script","_law_k"]
 bn:aF K mg "_law_row" kY ["_law_script","_law_many"]
 bo:aF K mg "_law_column" hJ ["_law_number","_law_high","_law_wild"]
 bp:aF K mg "_law_sign" jA ["_law_at","_law_shift"]
 bq:aF K mg "_law_cut" dG ["_law_row_here","_law_shift"]
 br:aF K mg "_law_saying" hV ["_law_one","_law_two","_law_layers"]
 bt:aF K mg "_law_ground" eJ ["_law_row_here"]
 bu:aF K mg "_law_steps" iN ["_law_some","_law_begin"]
 bv:aF K mg "_law_earlier" dM ["_law_ground_here"]
 bw:aF K mg "_law_drawn" iO ["_law_names","_law_number"]
 bx:aF K mg "_law_apart" fK ["_law_names","_law_known"]
 bz:aF K mg "_law_rows_of" cP ["_law_names","_law_known","_law_number"]
 bA:sC K mg "Ground"
 bB:fO K (cr mg "Ground") "kept_cuts"
 bC:fO K (cr mg "Ground") "kept_sayings"
 bD:fO K (cr mg "Ground") "kept_layers"
 bE:fO K (cr mg "Ground") "kept_ties"
 bF:zN K mg "Ground" "Ground.__init__" bO ["self","cuts","sayings"]
 bG:sD K mg "Ground" "sayings" "Ground.sayings" bS ["self"]
 bI:sD K mg "Ground" "layers" "Ground.layers" ck ["self"]
 bJ:sD K mg "Ground" "ties" "Ground.ties" cQ ["self"]
 bK:GvT K mg "YEAR_WORDS" [.str "since",.str "by"]
 bL:GvT K mg "LAYER_WORDS" [.str "later",.str "same"]
section
variable{P:Program}{w:World}{K:ZA}{mg:ZC}{base:Heap}
theorem cm{n:Nat}(h:n<=5000):n<=sizeLine:=Y9 h (by decide)
theorem az{n:Nat}(h:n<=5000):n<sizeLine:=Nat.lt_of_le_of_lt h (by decide)
theorem af.upd{H:Hp}{p:Addr}{o:HO}(h:H p=none):af H (upd H p o):=λb u e=>(am (ar e h))▸e
theorem af.set{H a:Hp}{p:Addr}{o:HO}(c:af H a)(h:H p=none):af H (L2.upd a p o):=λb u e=>(am (ar e h))▸c b u e
theorem FV{a:Type}(xs:List a){i:Int}(b:0<=i)(e:i<xs.length):∃c,atI xs i=some c/\c∈xs:=by
 obtain⟨j,rfl⟩:=X4 b;have d:j<xs.length:=by lia
 exact%[xs[j],cF ∅|Y7 d]
theorem kb(xs:ZK){i:Int}(b:0<=i)(d:i<xs.length):∃c,atI (xs.map V.int) i=some (V.int c)/\c∈xs:=by
 obtain⟨j,rfl⟩:=X4 b;have a:j<xs.length:=by lia
 exact%[xs[j],cF (by simp[a])|Y7 a]
theorem C2:(gN.cps.toList.length:Int)=26:=by decide +kernel
theorem dN(T:Txt K mg):↥1 "_law_cell_at" ["_law_script","_law_k"] (uV K):=by
 refine T.bm.cal nv (λH vs Q E h=>?_)
 .obtain⟨a,b,k,rfl,c,g,q⟩:=h;refine%[rfl|λf e A outer s l=>?_];refine%[_,(QSs.h (ah (ifS (bA uo rfl ↑1 ↑↑0)
   (aq (aO (↑0*>↑1)))
   bw)
   (aq (aO av))))|?_]
  show aY _ _ _ [some _,some _] H;lk;refine%[_,.inl %[_,c|rfl]|bi (λd=>?_) λd=>?_]
  .rw[Z5]at d;refine%[_,c,.int _,?_|q];obtain⟨j,rfl⟩:=X4 g;have i:j<b.length:=by lia
   exact cF (by simp[i])
  simp_all
theorem xA(T:Txt K mg):↥2 "_law_row" ["_law_script","_law_many"] (EQ K):=by
 refine T.bn.cal cB (λH vs Q E h=>?_)
 .obtain⟨a,p,m,rfl,J,hn,h0,h1,q⟩:=h;refine%[rfl|λf ae A outer s I=>?_];refine%[_,(QSs.h (ah (aI 2 cB.nd rfl (cj ap))
   (ah (aI 3 cB.nd rfl (opE fQ (cbO ⟨yJ⟩ T.ak boot_abs rfl #[aG (dN T) I rfl #[↑0,av]]) (ctO CQ T.ah boot_int rfl #[lQ dQ rfl (opE bY (aG (dN T) I rfl #[↑0,av]) av) av])))
   (ah (cq PassesOwn.never rfl rfl (mI rfl T.aj rfl #[↑1]) (aJ 4 cB.nd rfl)
   (aq (ifS (bA qq rfl ↑3 av)
    (ah (bD rfl (bmO (K:=K) plainAttrs_list PySem.F.slot_list_append PySem.F.type_list_append aP rfl ↑2 #[opE bY ↑3 av]))
     (aq (aI 3 cB.nd rfl (opE dA ↑3 av))))
    (ah (aI 5 cB.nd rfl (aG (dN T) I rfl #[↑0,(opE bR av (opE bY ↑4 (cbO (CO rfl) T.a1 PyProof.Rows.boot_max rfl #[av,(opE ph ↑↑0 av)])))]))
     (ah (aI 6 cB.nd rfl (opE bY (opE fQ (opE bR (opE bR (opE bY ↑5 av) (opE fQ av ↑4)) av) av) av))
     (ah (aI 7 cB.nd rfl (opE bY (opE bR (opE um ↑6 ↑6) (opE fQ av ↑4)) av))
     (aq (bD rfl (bmO (K:=K) plainAttrs_list PySem.F.slot_list_append PySem.F.type_list_append aP rfl ↑2 #[opE bY (opE bY (opE um ↑7 ↑7) av) av])))))))))
   (aq (aO ↑2))))))|?_]
  show aY _ _ _ [!a,some (.int m),none,none,none,none,none,none] H;refine kA λn1 c1=>?_
  lk;refine%[X1 _|λl L=>c1 _ _ (kA λn2 c2=>?_)];have j:af H (upd H l (.lst [])):=af.upd L;lk;refine%[a,p,1,rfl,j.seq J,by decide,_,rfl,a,p,0,rfl,j.seq J,by decide,_,rfl,by decide|?_];refine%[.inr (by split<;> exact%[by decide|by decide])|c2 _ _ (kA λn3 c3=>aw λab hK=>?_)];lk;refine%[⋯,⋯|hK _ _ (eL (λi M g=>∃(n:Int) (o u z B:Option V) (xs:ZK),M=[!a,some (.int m),!l,some (.int n),o,u,z,B]/\af H g/\g l=some (.lst (xs.map V.int))/\xs.length=i/\∀x∈xs,0<=x/\x<9973)
   %[_,none,none,none,none,[],rfl,j,aa,rfl|λ_ h=>nomatch h] ?_ ?_)]
  .rintro i M g hi ⟨n,o,u,z,B,xs,rfl,C,d,G,e⟩;have ag:i<100:=by lia
   have r:=C.seq J;show jG _ _ _ _ [!a,some (.int m),!l,some (.int n),some (.int (0+i)),u,z,B] g;rw[Int.zero_add];have put:∀v:Int,0<=v->v<9973->af H (upd g l (.lst (xs.map V.int++[.int v])))/\∃b:ZK,upd g l (.lst (xs.map V.int++[.int v])) l=some (.lst (b.map V.int))/\b.length=i+1/\∀x∈b,0<=x/\x<9973:=λv v0 v1=>
    ⟨af.set C L,xs++[v],by rw[aa,Zc];rfl,by rw[Z8,G];rfl,λy hy=>by
     rcases X8 hy with q|q
     .exact e y q
     .rw[X9 q];exact%[v0|v1]⟩
   have len:(xs.map V.int).length<sizeLine:=by rw[Z5,G];exact az ⋯
   have mx:∀x:Nat,(0:Int)<(if(x:Int) -1>1 then(x:Int) -1 else 1):=λx=>by split<;> lia
   refine aB λD1 k1 _=>?_
   lk;refine bi (λ_=>?_) λ_=>?_
   .refine%[.inl %[_|SqL.of d],by decide,_,d,len,%[by decide|by decide]|k1 _ _ ?_];obtain⟨N,b,O,U,Y⟩:=put (n%9973) ⋯ ⋯;exact%[_,_,_,_,_,b,rfl,N,O,U|Y]
   .refine%[_,.inl %[_,r|rfl],mx _,a,p,_,rfl,r,?_|?_]
    .have:=Int.emod_nonneg (i:Int) (Int.ne_of_gt (mx (p.map V.int).length))
     lia
    generalize p.getD _ 0=c
    lk;refine%[by decide,.inl %[by decide|by decide],.inr %[by decide|by decide],by decide|?_];have b1:=Int.emod_nonneg ((c%1000003+7919*i+1)*48271) (by decide:(2147483629:Int)≠0);have b2:=Int.emod_lt_of_pos ((c%1000003+7919*i+1)*48271) (by decide:(0:Int)<2147483629)
    generalize (c%1000003+7919*i+1)*48271%2147483629=one at b1 b2
    refine%[.inl %[⋯|⋯],.inl %[by decide|by simp],by decide|?_];have b3:=Int.emod_nonneg (one*one+104729*i) (by decide:(2147483587:Int)≠0);have b4:=Int.emod_lt_of_pos (one*one+104729*i) (by decide:(0:Int)<2147483587)
    generalize (one*one+104729*i)%2147483587=t at b3 b4
    refine%[.inl %[_|SqL.of d],.inl %[⋯|⋯],by simp,by decide,_,d,len|k1 _ _ ?_];obtain⟨N,b,O,U,Y⟩:=put (t*t%2147483563%9973) ⋯ ⋯;exact%[_,_,_,_,_,b,rfl,N,O,U|Y]
  .rintro M g ⟨n,o,u,z,B,xs,rfl,C,d,G,e⟩;refine c3 _ _ ?_;lk;exact q l g xs C L d G e
theorem ES(a:0<=i)(c:i<26):atI gN.cps.toList i=some (97+i.toNat):=by
 obtain⟨j,rfl⟩:=X4 a;have b:j<26:=by omega
 have all:∀j:Fin 26,gN.cps.toList[j.1]? =some (97+j.1):=by decide +kernel
 exact cF (all %[j|b])
theorem nB(T:Txt K mg):↥1 "_law_sign" ["_law_at","_law_shift"] Cb:=by
 refine T.bp.cal sW (λH vs Q E h=>?_)
 .obtain⟨a,g,rfl,i,c⟩:=h;refine%[rfl|λf d A outer s e=>?_];refine%[_,(QSs.h (ah (ifS (bA uo rfl ↑0 av)
   (aq (aO fW))
   bw)
   (aq (aO (ixSE (λ_ _=>rfl) fW (opE bY (opE mM (opE um ↑0 av) ↑1) av))))))|?_]
  show aY _ _ _ [some (.int a),some _] H;lk;unfold sg at c;refine bi (λb=>?_) λb=>?_
  .have b:=Zn b;rw[if_pos b]at c;exact c
  .have b: ¬ a<0:=by simpa using b
   rw[if_neg b]at c;refine%[.inr %[by simp|by simp],by decide,(by decide),_,ES (by omega) (by omega)|c]
theorem qU(T:Txt K mg):↥1 "_law_column" ["_law_number","_law_high","_law_wild"] xz:=by
 refine T.bo.cal bE (λH vs Q E h=>?_)
 .obtain⟨n,hi,wd,rfl,n0,h1,h6,kk⟩:=h;refine%[rfl|λf ai A outer s hr=>?_];refine%[_,(QSs.h (ah (aI 3 bE.nd rfl (opE bY ↑0 av))
   (ah (aI 4 bE.nd rfl (opE bY (opE dA ↑0 av) av))
   (ah (aI 0 bE.nd rfl (opE dA ↑0 av))
   (ah (aI 5 bE.nd rfl (cj ap))
   (ah (cq PassesOwn.never rfl rfl (mI rfl T.aj rfl #[↑1]) (aJ 6 bE.nd rfl)
   (aq (ifS (wT (mK (bA uo rfl ↑6 ↑3) (jO (bA uo rfl ↑6 (opE ph ↑1 av)))))
    (aq (bD rfl (bmO (K:=K) plainAttrs_list PySem.F.slot_list_append PySem.F.type_list_append aP rfl ↑5 #[nX av])))
    (ah (bD rfl (bmO (K:=K) plainAttrs_list PySem.F.slot_list_append PySem.F.type_list_append aP rfl ↑5 #[↑4]))
     (ah (aI 4 bE.nd rfl (cbO (CO rfl) T.a1 PyProof.Rows.boot_max rfl #[av,(cbO (CP rfl) T.a0 boot_min rfl #[av,(opE mM ↑4 ((cj #[av,av,((cj #[av,nX av])*>(ctO CQ T.ah boot_int rfl #[↑2]))])*>(opE bY ↑0 av)))])]))
     (aq (aI 0 bE.nd rfl (opE dA ↑0 av))))))))
   (aq (aO ↑5))))))))|?_]
  show aY _ _ _ [some (.int n),some (.int hi),some (.bl wd),none,none,none,none] H;refine ao λD1 k1 _=>?_
  lk;refine%[by decide|k1 _ _ (ao λD2 k2 _=>?_)];lk;refine%[%[by decide|by decide],by decide|k2 _ _ (ao λD3 k3 _=>?_)];lk;refine%[%[by decide|by decide]|k3 _ _ (ao λD4 k4 _=>?_)];lk;refine%[X1 _|λL O=>k4 _ _ (ao λD5 k5 r5=>aw λag hK=>?_)];lk;have I:∃a:Nat,(a:Int)=(if n%3<hi-1 then n%3 else hi-1):=by
   split
   .exact%[(n%3).toNat|by omega]
   .exact%[(hi-1).toNat|by omega]
  obtain⟨a,ea⟩:=I;refine%[by omega,by omega|hK _ _ (eL (λi σ y=>∃(m b:Int) (o:Option V) (g:ZK),σ=[some (.int m),some (.int hi),some (.bl wd),some (.int (n%3)),some (.int b),!L,o]/\0<=b/\b<=7/\af H y/\y L=some (.lst (g.map V.int))/\g.length=i/\
   (∀(k:Nat) (c:Int),g[k]? =some c->(k<a->c= -1)/\(a<=k->0<=c/\c<=7))/\∀(k:Nat) (c d:Int),g[k]? =some c->(g++[b])[k+1]? =some d->a<=k->St wd c d)
   %[_,_,none,[],rfl,by omega,by omega,af.upd O,aa,rfl,(λk c e=>by simp at e)|λk c d e=>by simp at e] ?_ ?_)]
  .rintro i σ y aj ⟨m,b,o,g,rfl,a0,a7,U,l,B,r,C⟩;show jG _ _ _ _ [some (.int m),some (.int hi),some (.bl wd),some (.int (n%3)),some (.int b),!L,some (.int (0+i))] y;rw[Int.zero_add];have len:(g.map V.int).length<sizeLine:=by rw[Z5,B];exact az (by omega)
   have put:∀v:Int,(i<a->v= -1)->(a<=i->0<=v/\v<=7)->∀(k:Nat) (c:Int),(g++[v])[k]? =some c->(k<a->c= -1)/\(a<=k->0<=c/\c<=7):=λv v1 v2 k c e=>by
    by_cases Y:k<g.length
    .rw[Y3 Y]at e;exact r k c e
    .have ek:k=i:=by
      have:=(X7 e).1;rw[Z8]at this;simp only[Zq,length_nil]at this;omega
     subst ek;rw[Y4 (by omega),B,sub_self]at e;cases e;exact%[v1|v2]
   refine aB λD6 k6 _=>?_
   lk;have J:∀v u:Int,(a<=i->v=b/\St wd v u)->∀(k:Nat) (c d:Int),(g++[v])[k]? =some c->(g++[v] ++[u])[k+1]? =some d->a<=k->St wd c d:=λv u q k c d G t Y=>by
    have al:k+1<=g.length+1:=by
     have:=(X7 t).1;simp only[Z8,Zq,length_nil]at this;omega
    by_cases h:k+1<g.length+1
    .rw[Y3 (by omega)]at G;rw[Y3 (by simpa using h)]at t;by_cases h':a<=i
     .rw[(q h').1]at t;exact C k c d G t Y
     .omega
    .have ek:k=i:=by omega
     subst ek;rw[Y4 (by omega),B,sub_self]at G;rw[Y4 (by simp;omega)]at t;simp[B]at G t;rw[<-G,<-t];exact(q Y).2
   have fin:∀_v:Int,¬ i<a->∀(m2 j:Int) (HH:Hp),0<=j->j<=7->St wd b j->af (upd y L (.lst (g.map V.int++[.int b]))) HH->D6.nx [some (.int m2),some (.int hi),some (.bl wd),some (.int (n%3)),some (.int j),!L,some (.int i)] HH:=λv hv m2 j HH b0 b7 st sh=>
    k6 _ _ %[m2,j,_,g++[b],rfl,b0,b7,(af.set U O).trans sh,by rw[sh L _ aa,Zc];rfl,by rw[Z8,B];rfl,put b (λz=>absurd z hv) λ_=>%[a0|a7]|J b j λ_=>%[rfl|st]]
   refine bi (λhA=>bi (λhB=>?g1) λhB=>?g2) λhA=>?g3
   case g1=>
    simp only[decide_eq_true_eq]at hA hB;have M:i<a:=by split at ea<;> omega
    exact%[.inl %[_|SqL.of l],_,l,len|k6 _ _ %[m,b,_,g++[-1],rfl,a0,a7,af.set U O,by rw[aa,Zc];rfl,by rw[Z8,B];rfl,put (-1) (λ_=>rfl) λz=>absurd M (by omega)|J (-1) b λz=>absurd M (by omega)]]
   all_goals
    have ab: ¬ i<a:=by
     simp only[decide_eq_true_eq]at*
     split at ea<;> omega
    refine%[.inl %[_|SqL.of l],_,l,len,#[2]|λp hp=>%[_,SqL.of aa,.int (if wd=true then -1 else 2),by cases wd<;> rfl,#[3]|λp1 ae=>%[by decide,_,SqL.of aa|?_]]];obtain⟨c,hc,N⟩:=kb [0,1,if wd=true then -1 else 2] (i:=m%3) (by omega) (by show m%3<3;omega);refine%[_,hc,c,rfl,%[by decide|by decide]|fin 0 ab _ _ _ ?_ ?_ ?_ ((af.upd hp).trans (af.upd ae))]
    rotate_left 2
    .unfold Cut.St;simp only[Yo,Yw,or_false]at N;cases wd<;> rcases N with rfl|rfl|rfl<;> simp<;>(split<;>(try split)<;> omega)
    all_goals(split<;>(simp)<;> omega)
  .rintro σ y ⟨m,b,o,g,rfl,a0,a7,U,l,B,r,C⟩;refine k5 _ _ ?_;lk;exact kk L y g U O l (by omega) %[a,by omega,r|λk c d G t=>C k c d G ((Y3 (X7 t).1)▸t)]
theorem sX(xs:ZK){lo hi:Int}(a:0<=lo)(b:lo<=hi)(c:hi<=xs.length):rG (xs.map V.int) (some lo) (some hi)=((xs.drop lo.toNat).take (hi.toNat-lo.toNat)).map V.int:=by
 unfold rG;have d:HT.sIx xs.length 0 (some lo)=lo.toNat:=by
  show(if lo<0 then _ else min lo.toNat xs.length)=_
  grind
 have e:HT.sIx xs.length xs.length (some hi)=hi.toNat:=by
  show(if hi<0 then _ else min hi.toNat xs.length)=_;rw[if_neg ⋯]
  lia
 simp_all
theorem F8(p:Nat->Bool)(n:Nat):inV (V.bl true) ((List.range n).map λr=>V.bl (p r))=(List.range n).any p:=by
 unfold inV;rw[any_map]
 congr 1
 funext r;show eqV (V.bl _) (V.bl true)=p r;cases p r<;> rfl
theorem xB{a:Type}(p:a->Bool)(xs:List a):inV (V.bl true) (xs.map λr=>V.bl (p r))=xs.any p:=by
 unfold inV;rw[any_map]
 congr 1
 funext r;show eqV (V.bl _) (V.bl true)=p r;cases p r<;> rfl
theorem Cc(a:Int)(b:ZK):inV (V.int a) (b.map V.int)=decide (a∈b):=by
 unfold inV
 induction b with
 | nil=>rfl
 | cons c r d=>
   show((c==a)||_)=_
   grind
theorem xC(a:ZK):(a.map V.int).all fD=true:=by simp[fD]
theorem xD(T:Txt K mg):↥2 "_law_cut" ["_law_row_here","_law_shift"] (ER K):=by
 refine T.bq.cal ci (λH vs Q E h=>?_)
 .obtain⟨a,xs,B,rfl,hs,keep,b1,hb,s0,kk⟩:=h;refine%[rfl|λf ch A outer s hr=>?_];have get:∀i:Int,0<=i->i<6->∃c,atI (xs.map V.int) i=some (V.int c)/\0<=c/\c<9973:=λi h0 h1=>by
   obtain⟨c,e,hm⟩:=kb xs h0 ⋯;exact%[c,e|hb c hm]
  obtain⟨c0,g0,l0,u0⟩:=get 0 (by decide) (by decide);refine%[_,(QSs.h (ah (aI 2 ci.nd rfl (opE bR av (opE bY (↑0*>av) av)))
   (ah (kC 3 ci.nd rfl Z1 Z0 rfl (opE bR av (opE bY (opE dA (↑0*>av) av) av)))
   (ah (kC 4 ci.nd rfl Z1 Z0 rfl (lQ dQ rfl (opE bY (opE dA (↑0*>av) av) av) av))
   (ah (zP 5 ci.nd rfl Z1 Z0 rfl (cZ (ay.of (show bq (ak dG) ["_law_row_here","_law_shift","_law_wide","_law_high","_law_wild","_law_columns","_law_rows","_law_k","_law_signs","_law_there"] _ ["_law_number","_law_high","_law_wild"] [(1,3),(2,4)]=true from by decide +kernel)) rfl rfl (bW (K:=K) rfl (slE (K:=K) rfl ↑0 (rL av) (rL (opE bR av ↑2)))) (λ_ _ _=>(aJ 0 (show(["_law_number","_law_high","_law_wild"]:ZB).Nodup from by decide +kernel) rfl)) (λ_ _ _=>jr) (λ_ _ _=>(aG (qU T) hr rfl #[↑0,bP 1 rfl,bP 2 rfl]))))
   (ah (aI 6 ci.nd rfl (cj ap))
   (ah (cq PassesOwn.never rfl rfl (mI rfl T.aj rfl #[bP 3 rfl]) (mL 7 ci.nd rfl Z1 Z0)
   (ah (fX 8 ci.nd rfl Z0 Z1 rfl (ay.of (show bq (ak dG) ["_law_row_here","_law_shift","_law_wide","_law_high","_law_wild","_law_columns","_law_rows","_law_k","_law_signs","_law_there"] _ ["_law_column_here","_law_k"] [(1,7)]=true from by decide +kernel)) rfl rfl (bW (K:=K) rfl (bP 5 rfl)) (λ_ _ _=>(aJ 0 (show(["_law_column_here","_law_k"]:ZB).Nodup from by decide +kernel) rfl)) (λ_ _ _=>jr) (λ_ _ _=>(↑0*>(bP 1 rfl))))
    (aq (bD rfl (bmO (K:=K) plainAttrs_list PySem.F.slot_list_append PySem.F.type_list_append aP rfl ↑6 #[(bmO (K:=K) plainAttrs_str slot_str_join type_str_join (ur (K:=K) rfl) rfl fW #[(cZ (ay.of (show bq (ak dG) ["_law_row_here","_law_shift","_law_wide","_law_high","_law_wild","_law_columns","_law_rows","_law_k","_law_signs","_law_there"] _ ["_law_at","_law_shift"] [(1,1)]=true from by decide +kernel)) rfl rfl (bW (K:=K) rfl ↑8) (λ_ _ _=>(aJ 0 (show(["_law_at","_law_shift"]:ZB).Nodup from by decide +kernel) rfl)) (λ_ _ _=>jr) (λ_ _ _=>(aG (nB T) hr rfl #[↑0,bP 1 rfl])))])])))))
   (ah (fX 9 ci.nd rfl Z0 Z1 rfl (ay.of (show bq (ak dG) ["_law_row_here","_law_shift","_law_wide","_law_high","_law_wild","_law_columns","_law_rows","_law_k","_law_signs","_law_there"] _ ["_law_at","_law_columns"] [(1,5)]=true from by decide +kernel)) rfl rfl (mI rfl T.aj rfl #[av]) (λ_ _ _=>(mL 0 (show(["_law_at","_law_columns"]:ZB).Nodup from by decide +kernel) rfl Z1 Z0)) (λ_ _ _=>(iE (bA (uq (K:=K) rfl) rfl eBl (cZ (ay.of (show bq _ ["_law_at","_law_columns"] _ ["_law_column_here","_law_at"] [(1,0)]=true from rfl)) rfl rfl (bW (K:=K) rfl (bP 1 rfl)) (λ_ _ _=>(aJ 0 (show(["_law_column_here","_law_at"]:ZB).Nodup from by decide +kernel) rfl)) (λ_ _ _=>jr) (λ_ _ _=>(lQ (uq (K:=K) rfl) rfl (bP 1 rfl) ↑0)))))) (λ_ _ _=>(bP 0 rfl)))
   (aq (aO (jN #[(bmO (K:=K) plainAttrs_str slot_str_join type_str_join (ur (K:=K) rfl) rfl fW #[↑6]),↑9])))))))))))|?_]
  show aY _ _ _ [!a,some (.int B),none,none,none,none,none,none,none,none] H;refine ao λD1 k1 _=>?_
  lk;refine%[_,hs,_,g0,c0,rfl,by decide|k1 _ _ (ao λD2 k2 _=>?_)];lk;refine%[_,hs,_,g0,c0,rfl,%[by decide|by decide],by decide|k2 _ _ (ao λD3 k3 _=>?_)];lk;refine%[_,hs,_,g0,c0,rfl,%[by decide|by decide],by decide|k3 _ _ (ao λD4 k4 _=>?_)];have w1:1<=1+c0%5:=by lia
  have w5:1+c0%5<=5:=by lia
  have i1:1<=1+c0/5%6:=by lia
  have i6:1+c0/5%6<=6:=by lia
  generalize cl:1+c0%5=wd at w1 w5
  generalize 1+c0/5%6=hi at i1 i6
  generalize decide (c0/30%8=0)=v
  refine aC λC O=>?_
  lk;refine .inl %[_,hs|λp hp=> .inl %[%[_|SqL.of aa]|O _ _ λD hD=>?_]];rw[sX xs (by decide) ⋯ ⋯]at hD ⊢;have a2:((xs.drop (Int.toNat 1)).take ((1+wd).toNat-Int.toNat 1)).length=wd.toNat:=by
   rw[Ye,Ya,b1];rw[show(1+wd).toNat=wd.toNat+1 by lia];exact Nat.min_eq_left ⋯
  have a3:∀x∈(xs.drop (Int.toNat 1)).take ((1+wd).toNat-Int.toNat 1),0<=x/\x<9973:=λx hx=>hb x (List.mem_of_mem_drop (Yp hx))
  generalize (xs.drop (Int.toNat 1)).take ((1+wd).toNat-Int.toNat 1)=ys at a2 a3 hD ⊢
  have a4:af H (upd H p (.lst (ys.map V.int))):=af.upd hp;have ae:upd H p (.lst (ys.map V.int)) p=some (.lst (ys.map V.int)):=aa
  generalize upd H p (.lst (ys.map V.int))=b2 at a4 ae hD ⊢
  refine aV (J:=Itl K p) (n:=wd.toNat) (D:=D) (λi zs m g=>(∃o,m=[o,some (.int hi),some (.bl v)])/\af b2 g/\g D=some (.lst zs)/\∃b:List (Addr×ZK),zs=b.map (λq=>V.ref q.1)/\b.length=i/\qT g b/\∀q∈b,q.1≠D/\q.2.length=hi.toNat/\j3 v q.2)
   %[%[none|rfl],af.upd hD,aa,[],rfl,rfl,λq y=>(nomatch y)|λq y=>(nomatch y)]
   (λi _ _ g a5 d=>%[_,V.int (ys[i]'⋯),SqL.of (d.2.1 _ _ ae)|by simp[show i<ys.length by lia]]) (λ_ _ g d=>%[_,SqL.of (d.2.1 _ _ ae)|by simp[a2]]) ?_ ?_
  .rintro i zs m g a5 ⟨⟨o,rfl⟩,M,a6,b,rfl,I,ag,U⟩ x H2 ⟨e2,hx⟩;subst e2;have a7:i<ys.length:=by lia
   have t:=hx _ (SqL.of (M _ _ ae));rw[Zk,Z4 a7]at t;obtain rfl:x=V.int ys[i]:=(Z9 t).symm;lk;refine%[_,_,_,rfl,(a3 _ (Y7 a7)).1,i1,i6|λl H3 b3 as a8 a9 bb b4=>?_];have bf:l≠D:=λe=>by rw[e,a6]at a8;cases a8
   refine CK.mk a5 (as _ _ a6) (by rw[Z5,I];exact az ⋯) %[%[_|rfl],af.set (M.trans as) hD,aa,b++[(l,b3)],by rw[Zc];rfl,by rw[Z8,I];rfl,λq y=>?_|λq y=>?_]
   .rcases X8 y with z|z
    .rw[am (U q z).1];exact as _ _ (ag q z)
    .rw[X9 z,am bf];exact a9
   .rcases X8 y with z|z
    .exact U q z
    .rw[X9 z];exact%[bf,bb|b4]
  rintro zs m H4 ⟨_,b5,Y,b,rfl,I,ag,U⟩;have a0:af H H4:=a4.trans b5;refine k4 _ _ (ao λD5 k5 _=>?_);lk;refine%[X1 _|λR hR=>k5 _ _ (ao λD6 k6 _=>aw λC O=>?_)];lk;have cd:(b.map (·.2)).length=wd.toNat:=by rw[Z5];exact I
  refine%[⋯,⋯|O _ _ (eL (λi m g=>∃o7 o8,m=[!a,some (.int B),some (.int wd),some (.int hi),some (.bl v),!D,!R,o7,o8,none]/\af H4 g/\g R=some (.lst (((List.range i).map (iK (b.map (·.2)) B)).map V.str)))
   %[_,_,rfl,af.upd hR|aa] ?_ ?_)]
  .rintro i m H5 co ⟨o7,o8,rfl,j,ai⟩;show aY _ _ _ [!a,some (.int B),some (.int wd),some (.int hi),some (.bl v),!D,!R,some (.int (0+i)),o8,none] H5;rw[Int.zero_add];refine ao λD7 k7 _=>aC λC O=>?_
   lk;refine .inl %[%[_|SqL.of (j _ _ Y)]|O _ _ λE hE=>?_];refine aV (J:=Itl K D) (n:=wd.toNat) (D:=E) (λq zs m g=>(∃o,m=[o,some (.int i)])/\af H5 g/\g E=some (.lst zs)/\zs=((b.take q).map (λp=>p.2.getD i 0)).map V.int)
    %[%[none|rfl],af.upd hE,aa|rfl]
    (λq _ _ g y d=>%[_,V.ref (b[q]'⋯).1,SqL.of (d.2.1 _ _ (j _ _ Y))|by simp[show q<b.length by lia]]) (λ_ _ g d=>%[_,SqL.of (d.2.1 _ _ (j _ _ Y))|by simp[I]]) ?_ ?_
   .rintro q zs m g y ⟨⟨o,rfl⟩,M,b6,N⟩ x H2 ⟨e2,hx⟩;subst e2;have u:q<b.length:=by lia
    have t:=hx _ (SqL.of (M _ _ (j _ _ Y)));rw[Zk,Z4 u]at t;obtain rfl:x=V.ref b[q].1:=(Z9 t).symm;lk;have hm:=Y7 u;refine%[_,SqL.of (M _ _ (j _ _ (ag _ hm))),V.int (b[q].2.getD i 0),?_|?_]
    .refine cF ?_;rw[Zk,db (U _ hm).2.1 ⋯];rfl
    .refine CK.mk y b6 (by rw[N,Z5,Z5,Ye];exact az ⋯) %[%[_|rfl],af.set M hE,aa|?_];rw[N,Yz,Zc,Zc,Z4 u];rfl
   rintro zs m H6 ⟨_,L,aj,N⟩;rw[Zm ⋯]at N;refine k7 _ _ (aB λD8 k8 _=>?_);have bl:=j.trans L;lk;refine%[.inl %[_|SqL.of (L _ _ ai)]|aC λC O=>?_];lk;refine .inl %[%[_|SqL.of aj]|O _ _ λF hF=>?_];refine aV (J:=Itl K E) (n:=wd.toNat) (D:=F) (λq ts m g=>(∃o,m=[o,some (.int B)])/\af H6 g/\g F=some (.lst ts)/\ts=(((b.take q).map (λp=>sg (p.2.getD i 0) B)).map sgn).map V.str)
    %[%[none|rfl],af.upd hF,aa|rfl]
    (λq _ _ g y d=>%[_,V.int ((b[q]'⋯).2.getD i 0),SqL.of (d.2.1 _ _ aj)|by rw[N];simp[show q<b.length by lia]]) (λ_ _ g d=>%[_,SqL.of (d.2.1 _ _ aj)|by rw[N];simp[I]]) ?_ ?_
   .rintro q ts m g y ⟨⟨o,rfl⟩,M,a1,ht⟩ x H2 ⟨e2,hx⟩;subst e2;have u:q<b.length:=by lia
    have t:=hx _ (SqL.of (M _ _ aj));rw[N,Zk,Zk,Z4 u]at t;obtain rfl:x=V.int (b[q].2.getD i 0):=(Z9 t).symm;lk;refine%[_,_,rfl,s0|?_];refine CK.mk y a1 (by rw[ht,Z5,Z5,Z5,Ye];exact az ⋯) %[%[_|rfl],af.set M hF,aa|?_];rw[ht,Yz,Zc,Zc,Zc,Z4 u];rfl
   rintro ts m H7 ⟨_,bm,b7,ht⟩;rw[Zm ⋯]at ht;lk;refine%[(b.map λp=>sg (p.2.getD i 0) B).map sgn,by rw[<-ht];exact SqL.of b7,?_,_,bm _ _ (L _ _ ai),by rw[Z5,Z5,Yc];exact az ⋯|k8 _ _ %[_,_,rfl,af.set (bl.trans bm) hR|?_]]
   .rw[vG,Z5,Z5,show(Str.ofString "").length=0 from rfl]
    lia
   .rw[aa,range_succ,Zc,Zc,show Txt.join (Str.ofString "") ((b.map λp=>sg (p.2.getD i 0) B).map sgn)=Str.join (Str.ofString "") ((b.map λp=>sg (p.2.getD i 0) B).map sgn)from StrLaws.glued_eq_join _ _,uC];have e:iK (b.map (·.2)) B i=⟨(b.map λp=>sg (p.2.getD i 0) B).toArray⟩:=by
     unfold iK;rw[Yk];rfl
    rw[<-e];rfl
  .rintro m H5 ⟨o7,o8,rfl,j,ai⟩;refine k6 _ _ (ao λD7 k7 _=>aC λC O=>?_);lk;refine%[by decide,by simp|O _ _ λF hF=>?_];refine aV (J:=Itr 0 8) (n:=8) (D:=F) (λq ts m g=>(∃o,m=[o,!D])/\af H5 g/\g F=some (.lst ts)/\ts=(((List.range q).filter λa:Nat=>(b.map (·.2)).any λc=>decide ((a:Int)∈c)).map λa:Nat=>(a:Int)).map V.int)
    %[%[none|rfl],af.upd hF,aa|rfl] (λq _ _ g y _=>y) (λ_ _ g _=>Zh _) ?_ ?_
   .rintro q ts m g y ⟨⟨o,rfl⟩,M,a1,ht⟩ x H2 ⟨e2,e3⟩;subst e2 e3;lk;refine aC λC O=>?_
    lk;have al:=M _ _ (j _ _ Y);refine .inl %[%[_|SqL.of al]|O _ _ λG hG=>?_];refine aV (J:=Itl K D) (n:=wd.toNat) (D:=G) (λr zs m H3=>(∃o,m=[o,some (.int q)])/\af H2 H3/\H3 G=some (.lst zs)/\zs=(b.take r).map (λp=>V.bl (decide ((q:Int)∈p.2))))
     %[%[none|rfl],af.upd hG,aa|rfl]
     (λr _ _ H3 bn d=>%[_,V.ref (b[r]'⋯).1,SqL.of (d.2.1 _ _ al)|by simp[show r<b.length by lia]]) (λ_ _ H3 d=>%[_,SqL.of (d.2.1 _ _ al)|by simp[I]]) ?_ ?_
    .rintro r zs m H3 bn ⟨⟨o,rfl⟩,s3,b9,N⟩ x cp ⟨e2,hx⟩;subst e2;have u:r<b.length:=by lia
     have t:=hx _ (SqL.of (s3 _ _ al));rw[Zk,Z4 u]at t;obtain rfl:x=V.ref b[r].1:=(Z9 t).symm;have hm:=Y7 u;lk;refine%[_,.inl (SqL.of (s3 _ _ (M _ _ (j _ _ (ag _ hm))))),rfl,xC _|?_];rw[Cc];refine CK.mk bn b9 (by rw[N,Z5,Ye];exact az ⋯) %[%[_|rfl],af.set s3 hG,aa|?_];rw[N,Yz,Zc,Z4 u];rfl
    rintro zs m H3 ⟨_,s3,ca,N⟩;rw[Zm ⋯]at N;have bp:=s3 _ _ a1;lk;refine%[_,.inl (SqL.of ca),rfl,by rw[N];simp[fD]|?_];rw[N,xB];have any:(b.any λp=>decide ((q:Int)∈p.2))=(b.map (·.2)).any λc=>decide ((q:Int)∈c):=by rw[any_map];rfl
    rw[any];have bt:ts.length<sizeLine:=by
     rw[ht,Z5,Z5];have:=Yb (λa:Nat=>(b.map (·.2)).any λc=>decide ((a:Int)∈c)) (List.range q);rw[Yc]at this;exact az ⋯
    refine bi (λhb=>?_) λhb=>?_
    .refine CK.mk y bp bt %[%[_|rfl],af.set (M.trans s3) hF,aa|?_];rw[ht,range_succ,Zz,Zc,Zc];rw[show List.filter (λa:Nat=>(b.map (·.2)).any λc=>decide ((a:Int)∈c)) [q]=[q]from by rw[filter_cons,if_pos hb];rfl];rfl
    .refine CN.mk y %[%[_|rfl],M.trans s3,bp|?_];rw[ht,range_succ,Zz,Zc,Zc];rw[show List.filter (λa:Nat=>(b.map (·.2)).any λc=>decide ((a:Int)∈c)) [q]=[]from by rw[filter_cons,if_neg hb];rfl];simp
   rintro ts m H6 ⟨_,L,bU,ht⟩;refine k7 _ _ ?_;lk;have ab:∀c∈b.map (·.2),c.length=hi.toNat/\j3 v c:=λc hc=>by
    obtain⟨p,hp,rfl⟩:=Xa hc;exact(U p hp).2
   have an:b8 (drawn (b.map (·.2)) hi.toNat B):=sS ⋯ ⋯ ⋯ ⋯ ab;have b0:H5 R=some (.lst ((drawn (b.map (·.2)) hi.toNat B).map V.str)):=ai;refine%[drawn (b.map (·.2)) hi.toNat B,SqL.of (L _ _ b0),?_,#[2]|λp hp=>?_]
   .have:=an.sum;have:=an.high;rw[show(Str.ofString "\n").length=1 from rfl]
    lia
   .refine kk p F _ (b.map (·.2)) hi.toNat v ((a0.trans (j.trans L)).trans (af.upd hp)) ((a0.trans (j.trans L)).free hp) ((a0.trans j).free hF) (λe=>by rw[e,bU]at hp;cases hp) ?_ ?_ ⋯ ⋯ ⋯ ⋯ ab
    .rw[aa,show Txt.join (Str.ofString "\n") (drawn (b.map (·.2)) hi.toNat B)=Str.join (Str.ofString "\n") (drawn (b.map (·.2)) hi.toNat B)from StrLaws.glued_eq_join _ _];rfl
    .rw[af.upd hp F _ bU,ht];rfl
def xE:Sp:=λvs H Q _=>∃z:Str,vs=[.str z]/\z.length<=1000/\∀a,af H a->Q (.bl (qy z)) a
def uW:Sp:=λvs H Q _=>∃row a:Str,vs=[.str row,.str a]/\row.length<=1000/\a.length<=1000/\∀b,af H b->Q (.bl (eV row a)) b
def oz(K:ZA):Sp:=λvs H Q _=>∃a rows,vs=[.ref a]/\SqL K H a (rows.map V.str)/\(rows.map (·.length)).sum<=3000/\(∀r∈rows,r.cps.toList.all okc=true)/\
 ∀l b ss,af H b->H l=none->b l=some (.lst (ss.map V.str))->ss.Perm (aL ((cR rows).map sgn))->PyProof.Rows.sortedS ss=true->Q (.ref l) b
def uX:Sp:=λvs H Q _=>∃rows:ZB,vs=[.str (Str.join nl rows)]/\b8 rows/\∀l a,af H a->H l=none->a l=some (.lst (rows.map V.str))->Q (.ref l) a
theorem i5(z:Str)(i:Nat)(c:Nat)(h:z.cps[i]? =some c):(z.cps.toList.take i++[c])=z.cps.toList.take (i+1):=by
 have h':z.cps.toList[i]? =some c:=by simpa using h
 obtain⟨a,e⟩:=X7 h';rw[List.take_succ_eq_append_getElem a,e]
theorem Ag(c d:Nat):((⟨([c].toArray)⟩:Str)=⟨([d].toArray)⟩)↔c=d:=by
 simp
theorem nC(c:Nat):((⟨([c].toArray)⟩)=Str.ofString ".")↔c=46:=Ag c 46
theorem Ah(T:Txt K mg):↥1 "is_row" ["row"] xE:=by
 refine T.b3.cal xx (λH vs Q E h=>?_)
 .obtain⟨z,rfl,N,k⟩:=h;refine%[rfl|λf v A outer s M=>?_];refine%[_,(QSs.h (aq (aO (qp (uk wG wG rfl av ↑↑0 (gvE T.aq rfl rfl)) (rN (cbO (zk (K:=K) rfl rfl) T.aa boot_all rfl #[(cZ (ay.of (show bq (ak j8) ["row"] _ ["sign"] []=true from by decide +kernel)) rfl rfl (bW (K:=K) rfl ↑0) (λ_ _ _=>(aJ 0 (show(["sign"]:ZB).Nodup from by simp) rfl)) (λ_ _ _=>jr) (λ_ _ _=>(orV (lQ dQ rfl ↑0 (gvE T.ar rfl rfl)) (rN (lQ (uq (K:=K) rfl) rfl ↑0 (gvE T.ao rfl rfl))))))]))))))|?_];show jF _ _ [-z] H;lk;refine%[cm ⋯|bi (λl=>bi (λm=>?_) λm=>?_) λl=>?_]
  .refine aC λt y=>?_
   lk;refine y _ _ λD u=>?_
   refine aV (J:=Its z) (n:=z.cps.size) (D:=D) (λi ys d a=>(∃o,d=[o])/\af H a/\a D=some (.lst ys)/\ys=(z.cps.toList.take i).map (λc=>V.bl (okc c))) %[%[none|rfl],af.upd u,aa|rfl]
    (λi _ _ _ hi _=>hi) (λ_ _ _ _=>Zh _) ?_ ?_
   .rintro i ys d a hi ⟨⟨o,rfl⟩,p,q,g⟩ x B ⟨C,c,G,rfl⟩;subst C;have j:ys.length=i:=by
     rw[g,Z5,Ye];have:z.cps.toList.length=z.cps.size:=by simp
     lia
    have I:i<1000:=by
     have:z.length=z.cps.size:=rfl
     lia
    have put:∀b:Bool,b=okc c->CK D z.cps.size i (λi ys d a=>(∃o,d=[o])/\af H a/\a D=some (.lst ys)/\ys=(z.cps.toList.take i).map (λc=>V.bl (okc c))) ys [some (.str ⟨([c].toArray)⟩)] (.bl b) B:=λb L=>
     CK.mk hi q (j▸az ⋯) %[%[_|rfl],af.set p u,aa|by rw[L,g,<-i5 z i c G,Zc];rfl]
    lk;refine bi (λr=>put true ?_) λr=>put _ ?_
    .have:=(nC c).mp (Zn r);unfold okc;rw[Ze this,Bool.true_or]
    .have: ¬ c=46:=λe=>(λe=>r (Ze e)) ((nC c).mpr e)
     unfold okc;rw[Zg this,Bool.false_or,zb];rfl
   .rintro ys d a ⟨_,p,q,g⟩;lk;refine%[z.cps.toList.map okc,?_|?_]
    .have e:z.cps.toList.take z.cps.size=z.cps.toList:=by
      apply Zm;simp
     rw[e]at g;have:(z.cps.toList.map okc).map V.bl=ys:=by rw[g,Yk];rfl
     rw[this];exact SqL.of q
    .have e:qy z=(z.cps.toList.map okc).all id:=by
      unfold qy;rw[l,m,all_map]
      all_goals rfl
     exact e▸k a p
  .rw[Bool.not_eq_true]at m;have e:qy z=false:=by unfold qy;rw[m,Bool.and_false,Bool.false_and]
   rw[e]at k;exact k H (af.refl H)
  .rw[Bool.not_eq_true]at l;have e:qy z=false:=by unfold qy;rw[l,Bool.false_and,Bool.false_and]
   rw[e]at k;exact k H (af.refl H)
noncomputable def lL(p:Nat×Nat):Bool:=!decide (p.2=46)||decide (p.1=46)
theorem sY(x y:Str)(i c d:Nat)(b:x.cps[i]? =some c)(f:y.cps[i]? =some d):((List.zip x.cps.toList y.cps.toList).take i++[(c,d)])=(List.zip x.cps.toList y.cps.toList).take (i+1):=by
 have h:(List.zip x.cps.toList y.cps.toList)[i]? =some (c,d):=List.getElem?_zip_eq_some.mpr %[by simpa using b|by simpa using f];obtain⟨a,e⟩:=X7 h;rw[List.take_succ_eq_append_getElem a,e]
theorem nD(T:Txt K mg):↥1 "lies_beneath" ["row","above"] uW:=by
 refine T.b4.cal lU (λH vs Q E h=>?_)
 .obtain⟨row,a,rfl,I,L,k⟩:=h;refine%[rfl|λf G A outer s hr=>?_];refine%[_,(QSs.h (ah (ifS (bA im rfl ↑↑0 ↑↑1)
   (aq (aO eBl))
   bw)
   (aq (aO (cbO (zk (K:=K) rfl rfl) T.aa boot_all rfl #[(cZ (ay.of (show bq (ak dg) ["row","above"] _ ["high","low"] []=true from by decide +kernel)) rfl rfl (CU rfl T.af rfl rfl #[↑1,↑0]) (λ_ _ _=>(fP (K:=K) rfl rfl rfl (gsE rfl (aJ 0 (show(["high","low"]:ZB).Nodup from by decide +kernel) rfl) (gsE rfl (aJ 1 (show(["high","low"]:ZB).Nodup from by decide +kernel) rfl) cL)))) (λ_ _ _=>jr) (λ_ _ _=>(orV (lQ im rfl ↑1 (gvE T.ar rfl rfl)) (rN (lQ dQ rfl ↑0 (gvE T.ar rfl rfl))))))])))))|?_]
  show aY _ _ _ [-row,-a] H;refine ao λD1 M N=>?_
  lk;refine%[cm ⋯,cm ⋯|bi (λj=>?_) λj=>?_]
  .have j: ¬ ((row.length:Int)=a.length):=by simpa using j
   have e:eV row a=false:=by
    unfold eV;rw[Zg ⋯,Bool.false_and]
   rw[e]at k;exact N _ _ (k H (af.refl H))
  .have j:row.length=a.length:=by
    have:(row.length:Int)=a.length:=by simpa using j
    lia
   refine M _ _ ?_;have t:row.cps.size=a.cps.size:=j;have u:(List.zip a.cps.toList row.cps.toList).length=a.cps.size:=by rw[length_zip];simp[t]
   lk;refine aC λz O=>?_
   lk;refine O _ _ λD B=>?_
   refine aV (J:=Itz a row) (n:=a.cps.size) (D:=D) (λi ys l g=>(∃q r,l=[q,r])/\af H g/\g D=some (.lst ys)/\ys=((List.zip a.cps.toList row.cps.toList).take i).map (λp=>V.bl (lL p))) %[%[none,none|rfl],af.upd B,aa|rfl]
    (λi _ _ _ hi _=>%[hi|⋯]) (λ_ _ _ _=>%[Zh _,⋯|.inl rfl]) ?_ ?_
   .rintro i ys l g hi ⟨⟨q,r,rfl⟩,v,y,m⟩ x H2 ⟨c,d,TT,U,Y,C,rfl,rfl⟩;have o:ys.length=i:=by rw[m,Z5,Ye,u];lia
    have ab:i<1000:=by
     have:a.length=a.cps.size:=rfl
     lia
    have put:∀b:Bool,b=lL (c,d)->CK D a.cps.size i (λi ys l g=>(∃q r,l=[q,r])/\af H g/\g D=some (.lst ys)/\ys=((List.zip a.cps.toList row.cps.toList).take i).map (λp=>V.bl (lL p))) ys [some (.str ⟨([c].toArray)⟩),some (.str ⟨([d].toArray)⟩)] (.bl b) (upd g TT (.tup [.str ⟨([c].toArray)⟩,.str ⟨([d].toArray)⟩])):=λb eb=>
     CK.mk hi (af.upd C _ _ y) (o▸az ⋯) %[%[_,_|rfl],af.set (v.trans (af.upd C)) B,aa|by rw[eb,m,<-sY a row i c d U Y,Zc];rfl]
    lk;refine%[_,SqT.of aa,rfl,_,_,rfl,_,_,rfl,rfl,rfl|?_];simp only[V.str.injEq,nC];refine bi (λh=>put true ?_) λh=>%[rfl|put _ ?_]
    .unfold lL;rw[h,Bool.true_or]
    .unfold lL;rw[Bool.not_eq_true]at h;rw[h,Bool.false_or]
   .rintro ys l g ⟨_,v,y,m⟩;lk;refine%[(List.zip a.cps.toList row.cps.toList).map lL,?_|?_]
    .have e:(List.zip a.cps.toList row.cps.toList).take a.cps.size=List.zip a.cps.toList row.cps.toList:=Zm ⋯;rw[e]at m;have:((List.zip a.cps.toList row.cps.toList).map lL).map V.bl=ys:=by rw[m,Yk];rfl
     rw[this];exact SqL.of y
    .have e:eV row a=((List.zip a.cps.toList row.cps.toList).map lL).all id:=by
      unfold eV;rw[Ze j,all_map,Bool.true_and];rfl
     exact e▸k g v
theorem xF(h:(rows.map (·.length)).sum<=3000):(Str.join (Str.ofString "") rows).length<=3000:=by
 have:=StrLaws.join_length_le (Str.ofString "") rows;rw[show(Str.ofString "").length=0 from rfl]at this
 lia
theorem kc(T:Txt K mg):↥1 "letters_in" ["rows"] (oz K):=by
 refine T.b5.cal oo (λH vs Q E h=>?_)
 .obtain⟨a,rows,rfl,N,g,u,k⟩:=h;refine%[rfl|λf M A outer s hr=>?_];refine%[_,(QSs.h (aq (aO (cbO (pE (w:=w) rfl rfl) T.a7 boot_sorted rfl #[(ctO (zv (K:=K) (w:=w) rfl rfl rfl) T.a6 boot_set rfl #[(cZ (ay.of (show bq (ak eG) ["rows"] _ ["sign"] []=true from by decide +kernel)) rfl rfl (bW (K:=K) rfl (bmO (K:=K) plainAttrs_str slot_str_join type_str_join (ur (K:=K) rfl) rfl fW #[↑0])) (λ_ _ _=>(aJ 0 (show(["sign"]:ZB).Nodup from by simp) rfl)) (λ_ _ _=>(iE (bA im rfl ↑0 (gvE T.ar rfl rfl)))) (λ_ _ _=>↑0))])]))))|?_];show jF _ _ [!a] H;lk;refine aC λC O=>?_
  lk;refine%[rows,N,by rw[show(Str.ofString "").length=0 from rfl];lia|?_];rw[show Txt.join (Str.ofString "") rows=Str.join (Str.ofString "") rows from StrLaws.glued_eq_join _ _];have j:=xF g;have b:=kH u;unfold cR at b k
  generalize Str.join (Str.ofString "") rows=z at j b k ⊢
  refine O _ _ λD G=>?_
  refine aV (J:=Its z) (n:=z.cps.size) (D:=D) (λi ys v m=>(∃o,v=[o])/\af H m/\m D=some (.lst ys)/\ys=((z.cps.toList.take i).filter (λc=>decide (c≠46))).map (λc=>V.str (sgn c))) %[%[none|rfl],af.upd G,aa|rfl]
   (λi _ _ _ hi _=>hi) (λ_ _ _ _=>Zh _) ?_ ?_
  .rintro i ys v m hi ⟨⟨o,rfl⟩,r,t,d⟩ x H2 ⟨U,c,I,rfl⟩;subst U;have L:ys.length<=i:=by
    rw[d,Z5];have:=Yb (λc=>decide (c≠46)) (z.cps.toList.take i);rw[Ye]at this
    lia
   have Y:i<3000:=by
    have:z.length=z.cps.size:=rfl
    lia
   lk;simp only[nC];refine bi (λy=>?_) λy=>?_
   .refine CK.mk hi t (az ⋯) %[%[_|rfl],af.set r G,aa|?_];rw[<-i5 z i c I,Zz,Zc,d];have:decide (c≠46)=true:=by simpa using y
    rw[filter_cons,this];rfl
   .refine CN.mk hi %[%[_|rfl],r,t|?_];rw[<-i5 z i c I,Zz,Zc,d];have:decide (c≠46)=false:=by simpa using y
    rw[filter_cons,this];simp
  .rintro ys v m ⟨_,r,t,d⟩;have e:z.cps.toList.take z.cps.size=z.cps.toList:=by
    apply Zm;simp
   rw[e]at d;lk;have ab:=Yb (λc=>decide (c≠46)) z.cps.toList;have ae:z.cps.toList.length=z.length:=by simp[Str.length]
   refine%[(z.cps.toList.filter (λc=>decide (c≠46))).map sgn,?_,by rw[Z5];lia|λS hS=>%[_,aa,?_|λl ss p hp B=>?_]]
   .rw[Yk];have:(z.cps.toList.filter (λc=>decide (c≠46))).map (V.str ∘ sgn)=ys:=by rw[d];rfl
    rw[this];exact SqL.of t
   .have:=mQ b
    lia
   .have q:af H (upd m S (jR w S (aL ((z.cps.toList.filter (λc=>decide (c≠46))).map sgn)))):=r.trans (af.upd hS);exact k l _ ss (q.trans (af.upd p)) (q.free p) aa hp B
theorem lc(T:Txt K mg):↥2 "rows_of" ["text"] uX:=by
 refine T.b2.cal gY (λH vs Q E h=>?_)
 .obtain⟨rows,rfl,a,k⟩:=h;refine%[rfl|λf an A outer s L=>?_];obtain⟨wd,w1,w2,hw⟩:=a.wide;have M:=a.text;have t:=a.split;refine%[_,(QSs.h (ah (ifS (mJ (~~~(cbO (jP (K:=K) rfl) T.ac boot_isinstance rfl #[↑0,(blE (v:= .ty "str") rfl T.ab boot_str rfl rfl rfl)])))
   (aq gK)
   bw)
   (ah (aI 1 gY.nd rfl (bmO (K:=K) plainAttrs_str PySem.F.slot_str_split PySem.F.type_str_split BF rfl ↑0 #[fW]))
   (ah (cq PassesOwn.never rfl rfl (vE (K:=K) rfl rfl T.ae rfl #[↑1]) (fP (K:=K) rfl rfl rfl (gsE rfl (aJ 2 gY.nd rfl) (gsE rfl (aJ 3 gY.nd rfl) cL)))
   (ah (ifS (wT (orW (bA dQ rfl ↑2 (gvE T.ap rfl rfl)) (nY (mJ (~~~(aG (Ah T) L rfl #[↑3]))))))
    (aq gK)
    bw)
    (aq (ifS (wT (mK (bA qq rfl ↑2 av) (jO (mJ (~~~(aG (nD T) L rfl #[↑3,(↑1*>(opE ph ↑2 av))]))))))
    (aq gK)
    bw))))
   (ah (ifS (bA dQ rfl ↑(aG (kc T) L rfl #[↑1]) av)
   (aq gK)
   bw)
   (aq (aO ↑1)))))))|?_]
  generalize Str.join nl rows=z at M t
  show aY _ _ _ [-z,none,none,none] H;refine ao λD1 k1 _=>?_
  lk;refine%[.type "str",.str z,true,by rfl|D0 (k1 _ _ (ao λD2 k2 _=>?_))];lk;refine%[by decide,Y9 (by lia:z.length+2<=5000) (by decide)|λl hl=>k2 _ _ ?_];rw[show(Str.ofString "\n")=nl from rfl,t];refine ao λD3 k3 _=>aw λai hK=>?_
  lk;have N:af H (upd H l (.lst (rows.map V.str))):=af.upd hl;refine%[_,SqL.of aa|hK _ _ (jT (λi I g=>∃O U,I=[-z,!l,O,U]/\af H g/\g l=some (.lst (rows.map V.str))) %[none,none,rfl,N|aa] (λi I g _ ⟨_,_,_,_,q⟩=>SqL.of q) ?_ ?_)]
  .rintro i x TT I g u ⟨O,U,rfl,Y,j⟩ hT;obtain⟨r,m,rfl⟩:∃r,rows[i]? =some r/\x=V.str r:=by
    rw[Zk]at u;cases e:rows[i]? with
    | none=>rw[e]at u;cases u
    | some r=>rw[e]at u;exact%[r,rfl|(Z9 u).symm]
   have aj:i<rows.length:=(X7 m).1;have al:=a.high;have y:af H (upd g TT (.tup [.int i,.str r])):=Y.trans (af.upd hT);have o:upd g TT (.tup [.int i,.str r]) l=some (.lst (rows.map V.str)):=af.upd hT _ _ j;have B:upd g TT (.tup [.int i,.str r]) TT=some (.tup [.int i,.str r]):=aa
   generalize upd g TT (.tup [.int i,.str r])=HT at y o B
   have C:r.length<=1000:=by
    have:r.length=wd:=hw r (Z7 m)
    lia
   refine%[_,SqT.of B,rfl,_,_,rfl,_,_,rfl,rfl|?_];show aY _ _ _ [-z,!l,some (.int i),-r] HT;refine ao λD4 k4 _=>?_
   have go:∀p,af HT p->D4.nx [-z,!l,some (.int i),-r] p:=by
    intro p b;refine k4 _ _ (aB λD5 k5 _=>?_);have fin:∀J,af HT J->D5.nx [-z,!l,some (.int i),-r] J:=λJ n=>k5 _ _ %[_,_,rfl,y.trans n|n l _ o]
    lk;refine bi (λG=>?_) λ_=>fin _ b
    have G:0<(i:Int):=Zn G;obtain⟨d,rfl⟩:∃d,i=d+1:=%[i-1|⋯]
    have ab:d<rows.length:=by lia
    have ae:rows[d]? =some rows[d]:=by simp
    have e1:(((d+1:Nat):Int) -1)=(d:Int):=by lia
    refine%[_,SqL.of (b l _ o),.str rows[d],e1▸cF ∅,r,rows[d],rfl,C,?_|λJ n=>%[_,rfl|?_]]
    .have:rows[d].length=wd:=hw _ (Y7 ab)
     lia
    .rw[a.beneath ae m];exact D0 (fin _ (b.trans n))
   lk;rw[if_neg ⋯];refine%[r,rfl,C|λp b=>%[_,rfl|?_]];rw[a.row (Z7 m)];exact D0 (go p b)
  .rintro I g ⟨O,U,rfl,Y,j⟩;refine k3 _ _ ?_;lk;refine%[l,rows,rfl,SqL.of j,by have:=a.sum;lia,a.sign|λl2 p ss b as ag G a0=>%[_,.inl %[_,SqL.of ag|rfl]|?_]];rw[if_neg]
   .exact k l p (Y.trans b) hl (b l _ j)
   .intro h0;have h0:=Zn h0;rw[Z5]at h0;have:ss=[]:=length_eq_zero_iff.mp ⋯;rw[this]at G;have hm:=G.symm.eq_nil;obtain⟨c,hc⟩:=List.exists_mem_of_ne_nil _ a.signs_ne;have:sgn c∈aL ((cR rows).map sgn):=br.mpr (Xb %[c,hc|rfl]);rw[hm]at this;cases this
noncomputable def pP(p:Nat×Nat):Option ZB:=if p.1≠46/\p.1≠p.2 then some [sgn p.1,sgn p.2]else none
noncomputable def nE(u r:Str):List ZB:=(List.zip u.cps.toList r.cps.toList).filterMap pP
theorem iP(H:Hp):bd H []:=λp a=>by cases a
theorem aW(h:bd H ps)(s:∀b z,H b=some (.tup z)->c b=some (.tup z)):bd c ps:=λp a=>%[(h p a).1|s _ _ (h p a).2]
theorem i7(h:bd H ps)(a:q.2≠[])(b:H q.1=some (.tup (q.2.map V.str))):bd H (ps++[q]):=λp c=>by
 rcases X8 c with z|z
 .exact h p z
 .rw[X9 z];exact%[a|b]
theorem sZ(a:bd H ps)(b:bd H qs):bd H (ps++qs):=λp c=>(X8 c).elim (a p) (b p)
def FW:Sp:=λvs H Q _=>∃u r:Str,vs=[.str u,.str r]/\u.length<=40/\r.length=u.length/\∀l a ps,af H a->H l=none->a l=some (.lst (ps.map λp=>V.ref p.1))->bd a ps->ps.map (·.2)=nE u r->Q (.ref l) a
def Cd:Sp:=λvs H Q _=>∃rows:ZB,vs=[.str (Str.join nl rows)]/\b8 rows/\∀l a ss,af H a->H l=none->a l=some (.lst (ss.map V.str))->ss.Perm (aL ((cR rows).map sgn))->PyProof.Rows.sortedS ss=true->Q (.ref l) a
theorem xG(T:Txt K mg):↥3 "letters" ["text"] Cd:=by
 refine T.b6.cal uT (λH vs Q E h=>?_)
 .obtain⟨rows,rfl,a,e⟩:=h;refine%[rfl|λf d A outer s b=>?_];refine%[_,(QSs.h (aq (aO (aG (kc T) b rfl #[aG (lc T) b rfl #[↑0]])))),rows,rfl,a|λl r c t g=>%[l,rows,rfl,SqL.of g,by have:=a.sum;lia,a.sign|λi j ss m n o p q=>e i j ss (c.trans m) (c.free n) o p q]]
theorem jB(T:Txt K mg):↥1 "meetings_between" ["above","row"] FW:=by
 refine T.b8.cal jd (λH vs Q E h=>?_)
 .obtain⟨u,r,rfl,hu,ag,kk⟩:=h;refine%[rfl|λf ae A outer s hr=>?_];have ai:u.length=u.cps.size:=rfl;have aj:r.length=r.cps.size:=rfl;refine%[_,(QSs.h (aq (aO (cZ (ay.of (show bq (ak cf) ["above","row"] _ ["high","low"] []=true from by decide +kernel)) rfl rfl (CU rfl T.af rfl rfl #[↑0,↑1]) (λ_ _ _=>(fP (K:=K) rfl rfl rfl (gsE rfl (aJ 0 (show(["high","low"]:ZB).Nodup from by decide +kernel) rfl) (gsE rfl (aJ 1 (show(["high","low"]:ZB).Nodup from by decide +kernel) rfl) cL)))) (λ_ _ _=>(iE (wT (mK (bA im rfl ↑0 (gvE T.ar rfl rfl)) (jO (bA im rfl ↑0 ↑1)))))) (λ_ _ _=>(jN #[↑0,↑1]))))))|?_];show jF _ _ [-u,-r] H;lk;refine aC λab hK=>?_
  lk;refine hK _ _ λD N=>?_
  refine aV (J:=Itz u r) (n:=u.cps.size) (D:=D) (λi ys O l=>(∃o1 o2,O=[o1,o2])/\af H l/\l D=some (.lst ys)/\ys.length<=i/\∃ps:ZG,ys=ps.map (λp=>V.ref p.1)/\bd l ps/\ps.map (·.2)=((List.zip u.cps.toList r.cps.toList).take i).filterMap pP)
   %[%[none,none|rfl],af.upd N,aa,Zh _,[],rfl,iP _|rfl] (λi _ _ _ hi _=>%[hi|⋯]) (λ_ _ _ _=>%[Zh _,⋯|.inl rfl]) ?_ ?_
  .rintro i ys O l hi ⟨⟨o1,o2,rfl⟩,U,Y,G,ps,I,m,j⟩ x H2 ⟨c,d,TT,hc,hd,hT,rfl,rfl⟩;have t:=af.upd (o:= .tup [.str ⟨([c].toArray)⟩,.str ⟨([d].toArray)⟩]) hT;have nx:=sY u r i c d hc hd;have a:=t _ _ Y;have B:upd l TT (.tup [.str ⟨([c].toArray)⟩,.str ⟨([d].toArray)⟩]) TT=some (.tup [.str ⟨([c].toArray)⟩,.str ⟨([d].toArray)⟩]):=aa;have g:bd (upd l TT (.tup [.str ⟨([c].toArray)⟩,.str ⟨([d].toArray)⟩])) ps:=λp C=>%[(m p C).1|t _ _ (m p C).2]
   have v:=U.trans t
   generalize upd l TT (.tup [.str ⟨([c].toArray)⟩,.str ⟨([d].toArray)⟩])=HT at t a B g v
   refine%[_,SqT.of B,rfl,_,_,rfl,_,_,rfl,rfl|?_];show AT _ _ [some (.str ⟨([c].toArray)⟩),some (.str ⟨([d].toArray)⟩)] HT _;lk;simp only[nC,Ag];have al:D≠TT:=λe=>by rw[e,B]at a;cases a
   refine bi (λL=>bi (λM=>?_) λM=>?_) λL=>?_
   .have L:c≠46:=by simpa using L
    have M:c≠d:=by simpa using M
    refine%[show 2<=sizeLine from by decide|λp C=>?_];have y:=af.upd (o:= .tup [V.str ⟨([c].toArray)⟩,V.str ⟨([d].toArray)⟩]) C;have an:p≠D:=λe=>by rw[e,a]at C;cases C
    refine CK.mk hi (y _ _ a) (az ⋯) %[%[_,_|rfl],af.set (v.trans y) N,aa,by rw[Z8,Yd];lia,ps++[(p,[sgn c,sgn d])],by rw[I,Zc];rfl,?_|?_]
    .have keep:∀b z,upd HT p _ b=some (.tup z)->upd _ D (.lst (ys++[V.ref p])) b=some (.tup z):=λb z e=>by
      have:b≠D:=λe2=>by rw[e2,y _ _ a]at e;cases e
      rw[am this];exact e
     exact aW (i7 (aW g λb z e=>y _ _ e) ∅ (by rw[aa];rfl)) keep
    .rw[Zc,j,<-nx,List.filterMap_append];have:pP (c,d)=some [sgn c,sgn d]:=if_pos %[L|M];rw[Zy,this];rfl
   .refine CN.mk hi %[%[_,_|rfl],v,a,⋯,ps,I,g|?_];rw[j,<-nx,List.filterMap_append];have:pP (c,d)=none:=if_neg λq=>q.2 (by simpa using M)
    rw[Zy,this];simp
   .refine CN.mk hi %[%[_,_|rfl],v,a,⋯,ps,I,g|?_];rw[j,<-nx,List.filterMap_append];have:pP (c,d)=none:=if_neg λq=>q.1 (by simpa using L)
    rw[Zy,this];simp
  .rintro ys O l ⟨_,U,Y,G,ps,I,m,j⟩;rw[Zm (by rw[length_zip];simp;lia)]at j;exact kk D l ps U N (by rw[Y,I]) m j
theorem Ai{K:ZA}{xs ys:ZL}{g:TG}{q:TS}{D:kj}(Pv:Nat->St->Hp->Prop)(s:Pv 0 c H)(t:ys.length<=xs.length)(u:∀i c H,i<=ys.length->Pv i c H->SqL K H a xs/\SqL K H b ys)
 (z:∀i x y T c H,xs[i]? =some x->ys[i]? =some y->Pv i c H->H T=none->g (.ref T) c (upd H T (.tup [x,y])) λd j=>q {D with nx:=Pv (i+1),ct:=Pv (i+1),bk:=D.nx} d j) (A:∀c H,Pv ys.length c H->D.nx c H):
 ∃W:Nat->Nat->St->Hp->Prop,(∃m,W 0 m c H)/\∀i m c H,W i m c H->
  ((wV K a b).stop i H/\D.nx c H)\/((wV K a b).go i H/\∃N:St->Hp->Prop,(∀f h,N f h->∃r,r<m/\W (i+1) r f h)/\∀x h,(wV K a b).yld i H x h->g x c h λd j=>q {D with nx:=N,ct:=N,bk:=D.nx} d j):=by
 refine%[λi m c H=>m=ys.length-i/\i<=ys.length/\Pv i c H,%[ys.length,by simp,X1 _|s]|?_];rintro i m c H ⟨rfl,hi,p⟩;obtain⟨l,n⟩:=u i c H hi p;by_cases o:i<ys.length
 .have B:xs[i]? =some xs[i]:=by simp[show i<xs.length by lia]
  have C:ys[i]? =some ys[i]:=by simp
  refine .inr %[%[xs,ys,_,_,l,n,B|C],Pv _,λf h E=>%[ys.length-(i+1),⋯,rfl,o|E]|λv h y=>?_];obtain⟨T,G,I,J,rfl,rfl,L,M⟩:=y;exact z i G I T c H (L xs l) (M ys n) p J
 .have e:i=ys.length:=by lia
  subst e;exact .inl %[%[xs,ys,l,n,⋯,Zh _|.inr rfl]|A c H p]
noncomputable def fM(rows:ZB)(i:Nat):List ZB:=(List.range i).flatMap λj=>nE (rows.getD j ⟨([].toArray)⟩) (rows.getD (j+1) ⟨([].toArray)⟩)
theorem qV(rows:ZB)(i:Nat):fM rows (i+1)=fM rows i++nE (rows.getD i ⟨([].toArray)⟩) (rows.getD (i+1) ⟨([].toArray)⟩):=by
 unfold fM;rw[range_succ,flatMap_append];simp
theorem uY(u r:Str):(nE u r).length<=u.length:=by
 refine Y9 (List.length_filterMap_le _ _) ?_;rw[length_zip];have:u.cps.toList.length=u.length:=by simp[Str.length]
 lia
theorem xH(h:k∈fM rows (rows.length-1)):∃a b,k=[sgn a,sgn b]/\B9 rows a b:=by
 obtain⟨j,d,g⟩:=mem_flatMap.mp h;have f:∀j h,rows.getD j ⟨([].toArray)⟩=rows[j]:=λj h=>by simp[h]
 have d:=mem_range.mp d;obtain⟨⟨a,b⟩,i,e⟩:=mem_filterMap.mp g;unfold pP at e
 split at e
 .rename_i h
  obtain⟨q,c⟩:=X2 i;rw[List.getElem?_zip_eq_some,f j ⋯,f _ ⋯]at c;exact%[a,b,(Z9 e).symm,h.1,h.2,j,q,rows[j],rows[j+1],Z4 _,Z4 _,by simpa using c.1|by simpa using c.2]
 .lia
theorem xI(l:b8 rows)(h:B9 rows a b):Let rows a/\Let rows b:=by
 obtain⟨c,m,i,j,r,d,f,g,g1,g2⟩:=h;refine%[%[c,r,Z7 f|Z7 (by simpa using g1)],λe=>c (l.fall i r d f g j a b g1 g2 e),d,Z7 g|Z7 (by simpa using g2)]
theorem xJ(rows:ZB)(h:rows≠[]):rG (rows.map V.str) (some 1) none=(rows.drop 1).map V.str:=by
 unfold rG;rw[HT.sIx_none,show(some (1))=some ((1:Nat):Int)from rfl,HT.sIx_nat,Z5,Nat.min_eq_left (List.length_pos_iff.mpr h),<-List.map_drop,<-List.map_take];rw[Zm (Ya▸Zh _)]
def Ce:Sp:=λvs H Q _=>∃rows:ZB,vs=[.str (Str.join nl rows)]/\b8 rows/\xv rows/\∀l c ss,af H c->H l=none->c l=some (.lst (ss.map λp=>V.ref p.1))->bd c ss->ss.length<=14->
 (∀t∈ss,∃a b,t.2=[sgn a,sgn b]/\Let rows a/\Let rows b)->(∀k,k∈ss.map (·.2)↔k∈fM rows (rows.length-1))->Q (.ref l) c
theorem uZ(T:Txt K mg):↥3 "meetings" ["text"] Ce:=by
 refine T.b7.cal dU (λH vs Q E h=>?_)
 .obtain⟨rows,rfl,c,⟨mm,ml,a5⟩,kk⟩:=h;refine%[rfl|λf bp A outer s hr=>?_];obtain⟨wd,w1,w2,Y⟩:=c.wide;have hp:1<=rows.length:=c.pos;have bl:=c.high;have a6:rows≠[]:=List.length_pos_iff.mp hp;refine%[_,(QSs.h (ah (aI 1 dU.nd rfl (aG (lc T) hr rfl #[↑0]))
   (ah (aI 2 dU.nd rfl (cj ap))
   (ah (cq PassesOwn.never rfl rfl (FN (K:=K) rfl rfl T.af rfl rfl #[↑1,(slE (K:=K) rfl ↑1 (rL av) noO)]) (fP (K:=K) rfl rfl rfl (gsE rfl (aJ 3 dU.nd rfl) (gsE rfl (aJ 4 dU.nd rfl) cL)))
   (aq (bD rfl (bmO (K:=K) plainAttrs_list PySem.F.slot_list_extend PySem.F.type_list_extend rO rfl ↑2 #[aG (jB T) hr rfl #[↑3,↑4]]))))
   (aq (aO (cbO (pI (P:=P) (w:=w) rfl rfl rfl) T.a7 boot_sorted rfl #[(ctO (zK (K:=K) (P:=P) (w:=w) rfl rfl rfl rfl hr) T.a6 boot_set rfl #[↑2])])))))))|?_]
  show aY _ _ _ [some (.str (Str.join nl rows)),none,none,none,none] H;refine ao λD1 k1 r1=>?_
  lk;refine%[rows,rfl,c|λR H1 s1 f1 hR=>k1 _ _ (ao λD2 k2 r2=>?_)];lk;refine%[X1 _|λL hL=>k2 _ _ (ao λD3 k3 r3=>aw λbm hK=>?_)];have s2:=af.upd (o:= .lst []) hL;have C:=s2 _ _ hR;have G:upd H1 L (.lst []) L=some (.lst []):=aa;have fL:H L=none:=s1.free hL;have ab:=s1.trans s2
  generalize upd H1 L (.lst [])=H2 at s2 C G ab
  lk;refine .inl %[_,SqL.of C|λp hp=>?_];rw[xJ rows a6];have s3:=af.upd (o:= .lst ((rows.drop 1).map V.str)) hp;have I:=s3 _ _ C;have ae:=s3 _ _ G;have J:upd H2 p (.lst ((rows.drop 1).map V.str)) p=some (.lst ((rows.drop 1).map V.str)):=aa;have ag:=ab.trans s3;have a7:L≠R:=λe=>by rw[e,hR]at hL;cases hL
  have a8:p≠L:=λe=>by rw[e,G]at hp;cases hp
  generalize upd H2 p (.lst ((rows.drop 1).map V.str))=H3 at s3 I ae J ag
  refine%[%[_|SqL.of I],%[_|SqL.of J]|hK _ _ (Ai (xs:=rows.map V.str) (ys:=(rows.drop 1).map V.str) (λi σ l=>(∃o3 o4,σ=[some (.str (Str.join nl rows)),!R,!L,o3,o4])/\af H l/\l R=some (.lst (rows.map V.str))/\l p=some (.lst ((rows.drop 1).map V.str))/\
   ∃ps:ZG,l L=some (.lst (ps.map λq=>V.ref q.1))/\bd l ps/\ps.map (·.2)=fM rows i/\ps.length<=40*i) %[%[none,none|rfl],ag,I,J,[],ae,iP _,rfl|X1 _] (by rw[Z5,Z5,Ya];lia) (λi σ l _ q=>%[SqL.of q.2.2.1|SqL.of q.2.2.2.1]) ?_ ?_)]
  .rintro i x y TT σ l hx hy ⟨⟨o3,o4,rfl⟩,sm,ai,aj,ps,M,g,n,al⟩ hT;rw[Zk]at hx hy;obtain⟨u,hu,rfl⟩:=map_eq_some_iff.mp hx;obtain⟨r,v,rfl⟩:=map_eq_some_iff.mp hy;rw[getElem?_drop,Nat.add_comm]at v;have bt:i+1<rows.length:=(X7 v).1;have ul:u.length=wd:=Y u (Z7 hu);have rl:r.length=wd:=Y r (Z7 v);have j:=af.upd (o:= .tup [V.str u,V.str r]) hT;have an:upd l TT (.tup [V.str u,V.str r]) TT=some (.tup [V.str u,V.str r]):=aa;have as:=j _ _ ai;have a0:=j _ _ aj;have t:=j _ _ M;have B:bd (upd l TT (.tup [V.str u,V.str r])) ps:=aW g λb z e=>j _ _ e
   have a1:=sm.trans j
   generalize upd l TT (.tup [V.str u,V.str r])=HT at j an as a0 t B a1
   refine%[_,SqT.of an,rfl,_,_,rfl,_,_,rfl,rfl|?_];refine aB λD4 k4 r4=>?_
   lk;refine%[.inl %[_|SqL.of t],u,r,rfl,⋯,⋯|λl4 H4 ps4 U f4 h4 a2 e4=>?_];have bU:l4≠L:=λe=>by rw[e,t]at f4;cases f4
   have bn:ps4.length<=40:=by
    have:(ps4.map (·.2)).length=(nE u r).length:=by rw[e4]
    rw[Z5]at this;have:=uY u r
    lia
   refine%[_,rfl,_,U _ _ t,_,h4,by rw[Z5,Z5];exact cm ⋯|k4 _ _ ?_];have N:∀b z,H4 b=some (.tup z)->upd H4 L (.lst ((ps.map λq=>V.ref q.1) ++ps4.map λq=>V.ref q.1)) b=some (.tup z):=λb z e=>by
    have:b≠L:=λe2=>by rw[e2,U _ _ t]at e;cases e
    rw[am this];exact e
   have a9:R≠L:=Ne.symm a7;refine%[%[_,_|rfl],λb u' e=>?_,(am a9)▸U _ _ as,(am a8)▸U _ _ a0,ps++ps4,by rw[aa,Zc],aW (sZ (aW B λb z e=>U _ _ e) a2) N,?_|by rw[Z8];lia]
   .rw[am (ar e fL)];exact U _ _ (a1 _ _ e)
   .rw[Zc,n,e4,qV];have g1:rows.getD i ⟨([].toArray)⟩=u:=by rw[Zb,hu];rfl
    have g2:rows.getD (i+1) ⟨([].toArray)⟩=r:=by rw[Zb,v];rfl
    rw[g1,g2]
  .rintro σ l ⟨⟨o3,o4,rfl⟩,sm,ai,aj,ps,M,g,n,al⟩;rw[Z5,Ya]at n;refine k3 _ _ ?_;lk;have O:∀q∈ps,∃a b,q.2=[sgn a,sgn b]/\B9 rows a b:=λq d=>xH (n▸Xb %[q,d|rfl])
   have a3:∀q∈ps,q.2∈mm:=λq d=>by
    obtain⟨a,b,e,h⟩:=O q d;rw[e];exact a5 a b h
   refine%[ps,SqL.of M,g,%[mm,⋯|a3]|λl5 bb=>?_];have s5:=af.upd (o:=m4 P w l5 (be ps)) bb;have bf:(be ps).length<=14:=by
    have:=STab.nodup_sub (dI ps) (m:=mm) λk hk=>by
     obtain⟨q,d,rfl⟩:=Xa hk;exact a3 q (bo ps q d)
    rw[Z5]at this
    lia
   refine%[be ps,aa,λq d=>%[(g q (bo ps q d)).1|s5 _ _ (g q (bo ps q d)).2],2,λq d=>?_,by decide,⋯|λl6 ss a4 pm so=>?_]
   .obtain⟨a,b,e,_⟩:=O q (bo ps q d);rw[e];rfl
   have s6:=af.upd (o:= .lst (ss.map λq=>V.ref q.1)) a4;refine kk l6 _ ss ((sm.trans s5).trans s6) ((sm.trans s5).free a4) aa (λq d=>?_) (pm.length_eq▸bf) (λq d=>?_) λk=>?_
   .have:=g q (bo ps q (pm.mem_iff.mp d));exact%[this.1|s6 _ _ (s5 _ _ this.2)]
   .obtain⟨a,b,e,h⟩:=O q (bo ps q (pm.mem_iff.mp d));exact%[a,b,e|xI c h]
   .rw[(pm.map _).mem_iff,gQ,n]
noncomputable def fN(z:Str):Bool:=(decide (1<=(z.length:Int))&&decide ((z.length:Int)<=8))&&z.cps.toList.all iG
def u4:Sp:=λvs H Q _=>∃z:Str,vs=[.str z]/\fN z=true/\∀a,af H a->Q (.bl true) a
def Aj(K:ZA):Sp:=λvs H Q _=>∃(z:Str) (p:Addr) (ts:ZB),vs=[.str z,.ref p]/\(SqL K H p (ts.map V.str)\/SqT K H p (ts.map V.str))/\Q (.bl (decide (z∈ts))) H
def u5:Sp:=λvs H Q _=>∃i:Int,vs=[.int i]/\ -9999<=i/\i<=9999/\Q (.bl true) H
def pQ(c:ZB)(vs:ZL):Prop:=
 (∃w a b:Str,vs=[.str w,.str a,.str b]/\(w="later"\/w="same")/\a∈c/\b∈c/\a≠b)\/
 ∃w a y,vs=[.str w,.str a,.int y]/\(w="since"\/w="by")/\a∈c/\ -9999<=y/\y<=9999
def qW(K:ZA):Sp:=λvs H Q _=>∃t p xs a,vs=[.ref t,.ref p]/\H t=some (.tup xs)/\SqL K H p (a.map V.str)/\pQ a xs/\Q (.bl true) H
noncomputable def lnS(n z:Str):Str:=Str.empty++n++Str.ofString "."++z
def oA:Sp:=λvs H Q _=>∃n z:Str,vs=[.str n,.str z]/\n.length<=100/\z.length<=100/\Q (.str (lnS n z)) H
theorem qX(z:Str)(ts:ZB):inV (V.str z) (ts.map V.str)=decide (z∈ts):=by
 unfold inV
 induction ts with
 | nil=>rfl
 | cons c r a=>
   show((c==z)||_)=_
   grind
theorem pR(ts:ZB):(ts.map V.str).all fD=true:=by simp[fD]
theorem xK(T:Txt K mg):↥1 "is_name" ["thing"] u4:=by
 refine T.b1.cal uS (λH vs Q E h=>?_)
 .obtain⟨z,rfl,y,k⟩:=h;refine%[rfl|λf u A outer s M=>?_];refine%[_,(QSs.h (ah (ifS (mJ (~~~(cbO (jP (K:=K) rfl) T.ac boot_isinstance rfl #[↑0,(blE (v:= .ty "str") rfl T.ab boot_str rfl rfl rfl)])))
   (aq (aO eBl))
   bw)
   (aq (aO (qp (uk wG wG rfl av ↑↑0 (gvE T.an rfl rfl)) (rN (cbO (zk (K:=K) rfl rfl) T.aa boot_all rfl #[(cZ (ay.of (show bq (ak i4) ["thing"] _ ["sign"] []=true from by decide +kernel)) rfl rfl (bW (K:=K) rfl ↑0) (λ_ _ _=>(aJ 0 (show(["sign"]:ZB).Nodup from by decide +kernel) rfl)) (λ_ _ _=>jr) (λ_ _ _=>(lQ (uq (K:=K) rfl) rfl ↑0 (gvE T.ao rfl rfl))))])))))))|?_]
  show aY _ _ _ [-z] H;have a:=y;unfold fN at a;rw[Zu,Zu]at a;obtain⟨⟨B,q⟩,b⟩:=a;have N:z.length<=8:=by have:=Zn q;lia
  lk;refine%[.type "str",.str z,true,by rfl|?_];lk;refine%[cm ⋯|?_];rw[if_pos B,if_pos q];refine aC λr C=>?_
  lk;refine C _ _ λD t=>?_
  refine aV (J:=Its z) (n:=z.cps.size) (D:=D) (λi ys l d=>(∃o,l=[o])/\af H d/\d D=some (.lst ys)/\ys=(z.cps.toList.take i).map (λc=>V.bl (iG c))) %[%[none|rfl],af.upd t,aa|rfl]
   (λi _ _ _ hi _=>hi) (λ_ _ _ _=>Zh _) ?_ ?_
  .rintro i ys l d hi ⟨⟨o,rfl⟩,m,p,g⟩ x O ⟨G,c,I,rfl⟩;subst G;lk;have j:ys.length=i:=by
    rw[g,Z5,Ye];have:z.cps.toList.length=z.cps.size:=by simp
    lia
   have L:i<1000:=by
    have:z.length=z.cps.size:=rfl
    lia
   refine CK.mk hi p (j▸az ⋯) %[%[_|rfl],af.set m t,aa|?_];rw[zb,g,<-i5 z i c I,Zc]
   all_goals rfl
  .rintro ys l d ⟨_,m,p,g⟩;refine%[D,rfl,(z.cps.toList.map iG),?_|?_]
   .have e:z.cps.toList.take z.cps.size=z.cps.toList:=by
     apply Zm;simp
    rw[e]at g;have:(z.cps.toList.map iG).map V.bl=ys:=by rw[g,Yk];rfl
    rw[this];exact SqL.of p
   .have e:(z.cps.toList.map iG).all id=true:=by
     rw[all_map];exact b
    rw[e];exact k d m
theorem cn(T:Txt K mg):↥1 "is_text_among" ["thing","texts"] (Aj K):=by
 refine T.be.cal kW (λH vs Q E h=>?_)
 .obtain⟨z,p,ts,rfl,b,k⟩:=h;refine%[rfl|λf a A outer s c=>?_];refine%[_,(QSs.h (aq (aO (qp (cbO (jP (K:=K) rfl) T.ac boot_isinstance rfl #[↑0,(blE (v:= .ty "str") rfl T.ab boot_str rfl rfl rfl)]) (rN (lQ (uq (K:=K) rfl) rfl ↑0 ↑1))))))|?_];show jF _ _ [some _,some _] H;lk;refine%[.type _,.str z,true,by rfl|?_];rw[<-qX]at k;exact%[_,b,rfl,pR ts|k]
theorem xM(T:Txt K mg):↥1 "is_year" ["thing"] u5:=by
 refine T.bf.cal uU (λH vs Q E h=>?_)
 .obtain⟨i,rfl,b,c,k⟩:=h;refine%[rfl|λf a A outer s d=>?_];refine%[_,(QSs.h (ah (ifS (wT (orW (mJ (~~~(cbO (jP (K:=K) rfl) T.ac boot_isinstance rfl #[↑0,(blE (v:= .ty "int") rfl T.ah boot_int rfl rfl rfl)]))) (nY (~~~(cbO (jP (K:=K) rfl) T.ac boot_isinstance rfl #[↑0,(blE (v:= .ty "bool") rfl T.ai PyProof.Rows.boot_bool rfl rfl rfl)])))))
   (aq (aO eBl))
   bw)
   (aq (aO (uk wG wG rfl (gvE T.aw rfl rfl) ↑0 (gvE T.ax rfl rfl))))))|?_]
  show aY _ _ _ [some (.int i)] H;lk;refine%[.type _,.int i,true,by rfl,.type _,.int i,false,by rfl|?_];rw[if_pos (Ze b),Ze c];exact k
theorem hX(T:Txt K mg):↥1 "layer_name" ["name","letter"] oA:=by
 refine T.bg.cal ot (λH vs Q E h=>?_)
 .obtain⟨n,z,rfl,l,m,k⟩:=h;refine%[rfl|λf d A outer s j=>?_];refine%[_,(QSs.h (aq (aO (CW (pjE (Er ↑0) (pjE fW (pjE (Er ↑1) CV)))))))|?_];show jF _ _ [-n,some _] H;lk;have e:∀a b:Str,(a++b).length=a.length+b.length:=λa b=>size_append
  have g:Str.empty.length=0:=rfl;have i:(Str.ofString ".").length=1:=rfl;have c:∀k,k<=1000->k<=sizeLine:=λk o=>cm ⋯
  refine%[c _ ⋯,c _ ?_,c _ ?_,c _ ⋯,c _ ?_,c _ ?_|k]<;> simp only[e,g,i]<;> lia
theorem tf(T:Txt K mg):↥2 "is_saying" ["thing","layers"] (qW K):=by
 refine T.bd.cal qS (λH vs Q E h=>?_)
 .obtain⟨t,p,xs,e,rfl,m,g,ok,k⟩:=h;refine%[rfl|λf n A outer s c=>?_];refine%[_,(QSs.h (ah (ifS (wT (orW (mJ (~~~(cbO (jP (K:=K) rfl) T.ac boot_isinstance rfl #[↑0,(blE (v:= .ty "tuple") rfl T.ag boot_tuple rfl rfl rfl)]))) (nY (bA im rfl ↑↑0 av))))
   (aq (aO eBl))
   bw)
   (ah (ifS (~~~(aG (cn T) c rfl #[(↑0>>av),(FP (K:=K) rfl T.bL rfl rfl)]))
   (aq (aO (qp (aG (cn T) c rfl #[(↑0>>av),↑1]) (qp (aG (cn T) c rfl #[(↑0>>av),↑1]) (rN (lQ im rfl (↑0>>av) (↑0>>av)))))))
   bw)
   (ah (ifS (~~~(aG (cn T) c rfl #[(↑0>>av),(FP (K:=K) rfl T.bK rfl rfl)]))
   (aq (aO (qp (aG (cn T) c rfl #[(↑0>>av),↑1]) (rN (aG (xM T) c rfl #[(↑0>>av)])))))
   bw)
   (aq (aO eBl))))))|?_]
  show aY _ _ _ [!t,!p] H;lk;refine%[.type "tuple",.tup m,true,by rfl|?_];have st:=SqT.of (K:=K) m;rcases ok with⟨wd,a,b,rfl,hw,i,o,j⟩|⟨wd,a,y,rfl,hw,i,r,u⟩
  .have l:decide (wd∈([Str.ofString "later",Str.ofString "same"]:ZB))=true:=by rcases hw with rfl|rfl<;> decide
   lk;refine%[3,.inr %[_,st|rfl]|?_];rw[if_neg (by decide)];refine%[_,st,_,rfl|λq d=>%[wd,q,[Str.ofString "later",Str.ofString "same"],rfl,.inr (d H),_,rfl|?_]];rw[l];lk;refine%[_,st,_,rfl,a,p,e,rfl,.inl g,_,rfl|?_];rw[Ze i];lk;refine%[_,st,_,rfl,b,p,e,rfl,.inl g,_,rfl|?_];rw[Ze o];lk;refine%[_,st,_,rfl,_,st,_,rfl,rfl|?_];rw[show(!decide (V.str a=V.str b))=true from by simp[j]];exact k
  .have l:decide (wd∈([Str.ofString "later",Str.ofString "same"]:ZB))=false:=by rcases hw with rfl|rfl<;> decide
   have z:decide (wd∈([Str.ofString "since",Str.ofString "by"]:ZB))=true:=by rcases hw with rfl|rfl<;> decide
   lk;refine%[3,.inr %[_,st|rfl]|?_];rw[if_neg (by decide)];refine%[_,st,_,rfl|λq d=>%[wd,q,[Str.ofString "later",Str.ofString "same"],rfl,.inr (d H),_,rfl|?_]];rw[l];lk;refine%[_,st,_,rfl|λq d=>%[wd,q,[Str.ofString "since",Str.ofString "by"],rfl,.inr (d H),_,rfl|?_]];rw[z];lk;refine%[_,st,_,rfl,a,p,e,rfl,.inl g,_,rfl|?_];rw[Ze i];lk;exact%[_,st,_,rfl,y,rfl,r,u|k]
def bT(H:Hp)(a:List (Addr×Str×ZB)):Prop:=∀p∈a,H p.1=some (.tup [.str p.2.1,.str (Str.join nl p.2.2)])/\fN p.2.1=true/\b8 p.2.2
theorem bT.up(h:bT H b)(s:af H c):bT c b:=λp a=>%[s _ _ (h p a).1|(h p a).2]
def xN:Sp:=λvs H Q _=>∃rows:ZB,vs=[.str (Str.join nl rows)]/\b8 rows/\∀a,af H a->Q (.bl true) a
def Ak:Sp:=λvs H Q _=>∃p:Addr×Str×ZB,vs=[.ref p.1]/\bT H [p]/\∀a,af H a->Q (.bl true) a
noncomputable def cu(a:List (Addr×Str×ZB)):ZL:=a.map λp=>V.ref p.1
def oB:Sp:=λvs H Q _=>∃l a,vs=[.ref l]/\H l=some (.lst (cu a))/\bT H a/\(a.map λp=>p.2.1).Nodup/\1<=a.length/\a.length<=8/\∀b,af H b->Q .non b
def cX(H:Hp)(a:ZB)(qs:ZM):Prop:=∀q∈qs,H q.1=some (.tup q.2)/\pQ a q.2
theorem cX.up(h:cX H b qs)(s:af H c):cX c b qs:=λp a=>%[s _ _ (h p a).1|(h p a).2]
def lg(K:ZA):Sp:=λvs H Q _=>∃l r a qs,vs=[.ref l,.ref r]/\H l=some (.lst (qs.map λq=>V.ref q.1))/\H r=some (.lst (a.map V.str))/\cX H a qs/\qs.length<=60/\∀b,af H b->Q .non b
theorem Am(T:Txt K mg):↥3 "is_cut" ["thing"] xN:=by
 refine T.bb.cal xy (λH vs Q E h=>?_)
 .obtain⟨rows,rfl,a,k⟩:=h;refine%[rfl|λf b A outer s c=>?_];refine%[_,(QSs.h (ah (tryN (λ_ _ h=>h) (aq (bD rfl (aG (lc T) c rfl #[↑0]))))
   (aq (aO eBl))))|?_]
  show aY _ _ _ [some (.str (Str.join nl rows))] H;lk;exact%[rows,rfl,a|λl d e g i=>k d e]
theorem nF(T:Txt K mg):↥4 "is_named_cut" ["thing"] Ak:=by
 refine T.ba.cal lV (λH vs Q E h=>?_)
 .obtain⟨p,rfl,g,k⟩:=h;refine%[rfl|λf e A outer s c=>?_];obtain⟨b,i,a⟩:=g p (mem_singleton.mpr rfl);refine%[_,(QSs.h (aq (aO (qp (cbO (jP (K:=K) rfl) T.ac boot_isinstance rfl #[↑0,(blE (v:= .ty "tuple") rfl T.ag boot_tuple rfl rfl rfl)]) (qp (lQ dQ rfl ↑↑0 av) (qp (aG (xK T) c rfl #[(↑0>>av)]) (rN (aG (Am T) c rfl #[(↑0>>av)]))))))))|?_];show jF _ _ [some _] H;lk;refine%[.type _,.tup b,true,by rfl|?_];have st:=SqT.of (K:=K) b;refine%[2,.inr %[_,st|rfl],_,st,_,rfl,p.2.1,rfl,i|λm d=>?_];lk;exact%[_,SqT.of (d _ _ b),_,rfl,p.2.2,rfl,a|λj l=>k j (d.trans l)]
theorem qY(T:Txt K mg):↥5 "check_cuts" ["cuts"] oB:=by
 refine T.b9.cal dL (λH vs Q E h=>?_)
 .obtain⟨l,c,rfl,C,L,M,h1,h8,k⟩:=h;refine%[rfl|λf aj A outer s J=>?_];have u:(cu c).length=c.length:=Z5 _;refine%[_,(QSs.h (ah (ifS (wT (orW (mJ (~~~(cbO (jP (K:=K) rfl) T.ac boot_isinstance rfl #[↑0,(blE (v:= .ty "list") rfl T.a5 boot_list rfl rfl rfl)]))) (nY (bA dQ rfl ↑↑0 av))))
   (aq gK)
   bw)
   (ah (aI 1 dL.nd rfl fG)
   (aq (cq PassesOwn.never rfl rfl (vE (K:=K) rfl rfl T.ae rfl #[↑0]) (fP (K:=K) rfl rfl rfl (gsE rfl (aJ 2 dL.nd rfl) (gsE rfl (aJ 3 dL.nd rfl) cL)))
   (ah (ifS (wT (orW (bA dQ rfl ↑2 (gvE T.au rfl rfl)) (orW (mJ (~~~(aG (nF T) J rfl #[↑3]))) (nY (w6 J rfl (↑3>>av) ↑1)))))
    (aq gK)
    bw)
    (aq (eY J rfl eBl ↑1 (↑3>>av)))))))))|?_]
  show aY _ _ _ [!l,none,none,none] H;refine ao λD1 k1 _=>?_
  lk;refine%[.type "list",.lst C,true,by rfl|?_];lk;refine%[c.length,.inl %[_,SqL.of C|u.symm]|?_];rw[if_neg (by simp only[decide_eq_true_eq];lia)];refine k1 _ _ (ao λD2 k2 _=>?_);lk;refine λd N=>k2 _ _ (aB λD3 k3 _=>aw λai hK=>?_)
  lk;refine%[_,SqL.of (af.upd N _ _ C)|hK _ _ (jT (λi G g=>∃O U a,G=[!l,!d,O,U]/\af H g/\g d=some (.dK a)/\a.map (·.1)=(c.take i).map λp=>Sum.inr p.2.1) %[none,none,[],rfl,af.upd N,aa|rfl] (λi G g _ ⟨_,_,_,_,q,_⟩=>SqL.of (q _ _ C)) ?_ ?_)]
  .rintro i x TT G g I ⟨O,U,a,rfl,Y,y,m⟩ hT;have hi:i<c.length:=u▸(X7 I).1;obtain⟨q,hq,rfl⟩:∃q,c[i]? =some q/\x=V.ref q.1:=by
    unfold cu at I;rw[Zk,Z4 hi]at I;exact%[c[i],Z4 hi|(Z9 I).symm]
   have b:af H (upd g TT (.tup [.int i,.ref q.1])):=Y.trans (af.upd hT);have z:upd g TT (.tup [.int i,.ref q.1]) TT=some (.tup [.int i,.ref q.1]):=aa;have t:=af.upd (o:= .tup [.int i,.ref q.1]) hT _ _ y
   generalize upd g TT (.tup [.int i,.ref q.1])=HT at b t z
   have n:=L q (Z7 hq);refine%[_,SqT.of z,rfl,_,_,rfl,_,_,rfl,rfl|?_];show aY _ _ _ [!l,!d,some (.int i),some (.ref q.1)] HT;refine ao λD4 k4 _=>?_
   lk;rw[if_neg (by simp only[decide_eq_true_eq];lia)];refine%[q,rfl,λp hp=>(X9 hp)▸%[b _ _ n.1|n.2]|λH2 B=>%[true,rfl|?_]];rw[if_neg ∅];have r:(Sum.inr q.2.1:Key)∉a.map (·.1):=by
    rw[m];intro hm;obtain⟨q',ab,e⟩:=Xa hm;have e:q'.2.1=q.2.1:=Sum.inr.inj e;obtain⟨j,hj⟩:=X2 ab;have ae:j<i:=by
     have:=(X7 hj).1;rw[Ye]at this
     lia
    rw[Y5 ae]at hj;have n1:(c.map λp=>p.2.1)[j]? =some q.2.1:=by rw[Zk,hj,<-e];rfl
    have:=cv M n1 (by rw[Zk,hq];rfl)
    lia
   refine%[_,SqT.of (B _ _ (b _ _ n.1)),_,rfl,_,bJ.k (k:=Sum.inr q.2.1) (B _ _ t)|?_];have hv:bz a (Sum.inr q.2.1:Key)=none:=by
    cases e:bz a (Sum.inr q.2.1:Key)with
    | none=>rfl
    | some v=>exact absurd (Bp e) r
   rw[hv,if_neg ∅];refine k4 _ _ (aB λD5 k5 _=>?_);lk;have ag:a.length=i:=by
    have:=congrArg List.length m;rw[Z5,Z5,Ye]at this
    lia
   refine%[_,SqT.of (B _ _ (b _ _ n.1)),_,rfl,_,gE.k (k:=Sum.inr q.2.1) (B _ _ t) (ag▸az ⋯)|k5 _ _ %[_,_,_,rfl,af.set (b.trans B) N,aa|?_]];rw[wX,if_neg r,m,Yz,Zc,hq];rfl
  .rintro G g ⟨O,U,a,rfl,Y,y,m⟩;exact k3 _ _ (k g Y)
theorem lW(T:Txt K mg):↥3 "check_sayings" ["sayings","layers"] (lg K):=by
 refine T.bc.cal dE (λH vs Q E h=>?_)
 .obtain⟨l,r,u,qs,rfl,g,j,m,C,k⟩:=h;refine%[rfl|λf z A outer s B=>?_];refine%[_,(QSs.h (ah (ifS (mJ (~~~(cbO (jP (K:=K) rfl) T.ac boot_isinstance rfl #[↑0,(blE (v:= .ty "list") rfl T.a5 boot_list rfl rfl rfl)])))
   (aq gK)
   bw)
   (aq (cq PassesOwn.never rfl rfl (vE (K:=K) rfl rfl T.ae rfl #[↑0]) (fP (K:=K) rfl rfl rfl (gsE rfl (aJ 2 dE.nd rfl) (gsE rfl (aJ 3 dE.nd rfl) cL)))
   (aq (ifS (wT (orW (bA dQ rfl ↑2 (gvE T.av rfl rfl)) (nY (mJ (~~~(aG (tf T) B rfl #[↑3,↑1]))))))
    (aq gK)
    bw))))))|?_]
  show aY _ _ _ [!l,!r,none,none] H;refine ao λO G _=>?_
  lk;refine%[.type "list",.lst g,true,by rfl|?_];lk;refine G _ _ (aB λU I _=>aw λy J=>?_);lk;refine%[_,SqL.of g|J _ _ (jT (λi e b=>∃n o,e=[!l,!r,n,o]/\af H b) %[none,none,rfl|af.refl H] (λi e b _ ⟨_,_,_,q⟩=>SqL.of (q _ _ g)) ?_ ?_)]
  .rintro i x TT e b p ⟨n,o,rfl,t⟩ L;have hi:i<qs.length:=(Z5 _)▸(X7 p).1;obtain⟨q,M,rfl⟩:∃q,qs[i]? =some q/\x=V.ref q.1:=by
    rw[Zk,Z4 hi]at p;exact%[qs[i],Z4 hi|(Z9 p).symm]
   have a:af H (upd b TT (.tup [.int i,.ref q.1])):=t.trans (af.upd L);have c:upd b TT (.tup [.int i,.ref q.1]) TT=some (.tup [.int i,.ref q.1]):=aa
   generalize upd b TT (.tup [.int i,.ref q.1])=HT at a c
   have d:=m q (Z7 M);refine%[_,SqT.of c,rfl,_,_,rfl,_,_,rfl,rfl|?_];show jG _ _ _ _ [!l,!r,some (.int i),some (.ref q.1)] HT;refine aB λY N _=>?_
   lk;rw[if_neg ⋯];refine%[q.1,r,q.2,u,rfl,a _ _ d.1,SqL.of (a _ _ j),d.2,true,rfl|?_];rw[if_neg ∅];exact N _ _ %[_,_,rfl|a]
  .rintro e b ⟨n,o,rfl,t⟩;exact I _ _ (k b t)
noncomputable def lyr(p:Addr×Str×ZB):ZB:=(aL ((cR p.2.2).map sgn)).map (lnS p.2.1)
def qZ:Sp:=λvs H Q _=>∃l c,vs=[.ref l]/\H l=some (.lst (cu c))/\bT H c/\c.length<=3/\(c.flatMap lyr).length<=60/\∀r d (e:ZB),af H d->H r=none->d r=some (.lst (e.map V.str))->e.Perm (c.flatMap lyr)->e.Pairwise (λa b=>bc b a=false)->Q (.ref r) d
def du(c:ZB)(k:ZB):Prop:=∃a b z,k=[a,b,z]/\a∈c/\b∈c
def Sml(z:Str):Prop:=z.length<=30/\∀c∈z.cps.toList,c<16^8
def xO(a:ZB)(k:ZB):Prop:=du a k/\∀z∈k,Sml z
theorem ti(h:fN z=true):Sml z:=by
 unfold fN at h;rw[Zu,Zu]at h;refine%[⋯|λc a=>?_];have:=(kE.mp (all_eq_true.mp h.2 c a)).2
 lia
theorem Sml.app{a b:Str}(f:∀c∈a.cps.toList,c<16^8)(g:∀c∈b.cps.toList,c<16^8):∀c∈(a++b).cps.toList,c<16^8:=λc d=>by
 have e:(a++b).cps.toList=a.cps.toList++b.cps.toList:=toList_append;rw[e]at d;exact(X8 d).elim (f c) (g c)
theorem Cf(h:c<1000):∀x∈(sgn c).cps.toList,x<16^8:=λx a=>by
 have e:=by simpa [sgn]using a
 lia
theorem li{c:Nat}(h:fN n=true)(d:c<1000):Sml (lnS n (sgn c)):=by
 have e:∀a b:Str,(a++b).length=a.length+b.length:=λa b=>size_append
 have l:n.length<=8:=by
  unfold fN at h
  grind
 refine%[?_|Sml.app (Sml.app (Sml.app (λc d=>(nomatch d)) (ti h).2) (by decide +kernel)) (Cf d)];unfold lnS;rw[e,e,e,show Str.empty.length=0 from rfl,show(Str.ofString ".").length=1 from rfl,show(sgn c).length=1 from rfl]
 lia
theorem u8(h:b8 rows)(l:Let rows c):c<1000:=by
 have:=(kE.mp (kH h.sign c (gj.mpr l))).2
 lia
theorem Cg(b:fN p.2.1=true)(d:b8 p.2.2):∀z∈lyr p,Sml z:=λz e=>by
 obtain⟨y,f,rfl⟩:=Xa e;obtain⟨c,a,rfl⟩:=Xa (br.mp f);exact li b (u8 d (gj.mp a))
theorem ET(e:Sml a)(f:Sml b)(g:Sml c):∀z∈[a,b,c],Sml z:=λz d=>by
 simp only[Yo,Yw,or_false]at d;rcases d with rfl|rfl|rfl
 .exact e
 .exact f
 .exact g
theorem Ch(i:Nat)(h:i<=100):Sml (Str.empty++Str.ofString "#"++Str.ofString (toString (i:Int))):=by
 have all:∀j:Fin 101,Sml (Str.empty++Str.ofString "#"++Str.ofString (toString ((j.1)))):=by
  unfold Sml;decide +kernel
 exact all %[i|⋯]
theorem du.three(h:du c k):k.length=3:=by
 obtain⟨a,b,z,rfl,_⟩:=h;rfl
theorem du.mono(h:du c k)(s:∀x∈c,x∈d):du d k:=by
 obtain⟨a,b,z,e,f,g⟩:=h;exact%[a,b,z,e,s a f|s b g]
theorem vR(h:Let p.2.2 a):lnS p.2.1 (sgn a)∈lyr p:=
 Xb %[_,br.mpr (Xb %[a,gj.mpr h|rfl])|rfl]
noncomputable def vS(n:Str)(k:ZB):ZB:=k.map (lnS n) ++[n]
noncomputable def EU(i:Nat):Str:=Str.empty++Str.ofString "#"++Str.ofString (toString (i:Int))
noncomputable def hZ(a:List (Addr×Str×ZB)):List ZB:=a.flatMap λp=>(fM p.2.2 (p.2.2.length-1)).map (vS p.2.1)
noncomputable def nG(i:Nat):ZL->Option ZB
 |[.str w,.str a,.str b]=>if w=Str.ofString "later" then some [a,b,EU i]else none
 | _=>none
noncomputable def ia(qs:ZM)(n:Nat):List ZB:=(List.range n).filterMap λj=>qs[j]?.bind λq=>nG j q.2
theorem q0{a:List _}{i:Nat}{q:Addr×Str×ZB}(b:a[i]? =some q):hZ (a.take (i+1))=hZ (a.take i) ++(fM q.2.2 (q.2.2.length-1)).map (vS q.2.1):=by
 unfold hZ;rw[Yz,b,flatMap_append];show _++([q].flatMap _)=_;rw[List.flatMap_singleton]
theorem ib(a:qs[i]? =some q):ia qs (i+1)=ia qs i++(nG i q.2).toList:=by
 unfold ia;rw[range_succ,List.filterMap_append];refine congrArg _ ?_;rw[Zy,a];rw[Option.bind_some];cases nG i q.2<;> rfl
def rc:Sp:=λvs H Q _=>∃l a,vs=[.ref l]/\H l=some (.lst (cu a))/\bT H a/\(∀p∈a,xv p.2.2)/\a.length<=3/\∀r b ts,af H b->H r=none->b r=some (.lst (ts.map λt=>V.ref t.1))->bd b ts->(∀t∈ts,xO (a.flatMap lyr) t.2)->ts.length<=42->(∀k,k∈ts.map (·.2)↔k∈hZ a)->Q (.ref r) b
def rg:Sp:=λvs H Q _=>∃l b qs,vs=[.ref l]/\H l=some (.lst (qs.map λq=>V.ref q.1))/\cX H b qs/\(∀z∈b,Sml z)/\qs.length<=60/\∀r a ts,af H a->H r=none->a r=some (.lst (ts.map λt=>V.ref t.1))->bd a ts->(∀t∈ts,xO b t.2)->ts.length<=qs.length->ts.map (·.2)=ia qs qs.length->Q (.ref r) a
theorem nH{z:Str}(h:fN z=true):z.length<=8:=by
 unfold fN at h;rw[Zu,Zu]at h;have:=Zn h.1.2
 lia
theorem ic{a:List Nat}{z:Str}(h:z∈aL (a.map sgn)):∃c∈a,z=sgn c:=by
 have:=br.mp h;obtain⟨c,b,rfl⟩:=Xa this;exact%[c,b|rfl]
theorem tq(T:Txt K mg):↥4 "layers_of" ["cuts"] qZ:=by
 refine T.bh.cal eI (λH vs Q E h=>?_)
 .obtain⟨l,e,rfl,hl,U,h8,aj,k⟩:=h;refine%[rfl|λf ai A outer s hr=>?_];have u:(cu e).length=e.length:=Z5 _;refine%[_,(QSs.h (ah (aI 1 eI.nd rfl (cj ap))
   (ah (cq PassesOwn.never rfl rfl (bW (K:=K) rfl ↑0) (fP (K:=K) rfl rfl rfl (gsE rfl (mL 2 eI.nd rfl Z1 Z0) (gsE rfl (aJ 3 eI.nd rfl) cL)))
   (aq (bD rfl (bmO (K:=K) plainAttrs_list PySem.F.slot_list_extend PySem.F.type_list_extend rO rfl ↑1 #[(cZ (ay.of (show bq (ak fJ) ["cuts","layers","name","text"] _ ["letter","name"] [(1,2)]=true from by decide +kernel)) rfl rfl (bW (K:=K) rfl (aG (xG T) hr rfl #[↑3])) (λ_ _ _=>(aJ 0 (show(["letter","name"]:ZB).Nodup from by decide +kernel) rfl)) (λ_ _ _=>jr) (λ_ _ _=>(aG (hX T) hr rfl #[bP 1 rfl,↑0])))]))))
   (aq (aO (cbO (wZ (K:=K) rfl) T.a7 boot_sorted rfl #[↑1]))))))|?_]
  show aY _ _ _ [!l,none,none,none] H;refine ao λD1 k1 _=>?_
  lk;refine%[X1 _|λL Y=>k1 _ _ (ao λD2 k2 _=>aw λv hK=>?_)];lk;refine .inl %[%[_|SqL.of (af.upd Y _ _ hl)]|hK _ _ (aX (λi d a=>∃o2 o3,d=[!l,!L,o2,o3]/\af H a/\∃g:ZB,a L=some (.lst (g.map V.str))/\g.Perm ((e.take i).flatMap lyr)/\g.length<=26*i)
   %[none,none,rfl,af.upd Y,[],aa,List.Perm.refl _|X1 _] (λi d a _ ⟨_,_,_,q,_⟩=>SqL.of (q _ _ hl)) ?_ ?_)]
  .rintro i x d a p ⟨o2,o3,rfl,y,g,N,B,ab⟩;have hi:i<e.length:=u▸(X7 p).1;obtain⟨q,hq,rfl⟩:∃q,e[i]? =some q/\x=V.ref q.1:=by
    unfold cu at p;rw[Zk,Z4 hi]at p;exact%[e[i],Z4 hi|(Z9 p).symm]
   have b:=U q (Z7 hq);refine%[_,SqT.of (y _ _ b.1),rfl,_,_,rfl,_,_,rfl,rfl|aB λD3 k3 _=>?_];show jE _ _ [!l,!L,some (.str q.2.1),some (.str (Str.join nl q.2.2))] a;lk;refine%[.inl %[_|SqL.of N]|aC λv hK=>?_];lk;refine%[q.2.2,rfl,b.2.2|λl2 H2 ss s2 f2 O p2 q2=>?_];lk;refine .inl %[%[_|SqL.of O]|hK _ _ λF hF=>?_];have al:ss.length<=26:=p2.length_eq▸mQ λc hc=>kH b.2.2.sign c hc
   have one:∀z∈ss,z.length=1:=λz hz=>by
    obtain⟨c,_,rfl⟩:=ic (p2.mem_iff.mp hz);rfl
   refine aV (J:=Itl K l2) (n:=ss.length) (D:=F) (λj ts d a=>(∃o,d=[o,some (.str q.2.1)])/\af H2 a/\a F=some (.lst ts)/\ts=((ss.take j).map (lnS q.2.1)).map V.str)
    %[%[none|rfl],af.upd hF,aa|rfl]
    (λj _ _ a C m=>%[_,V.str ss[j],SqL.of (m.2.1 _ _ O)|by simp]) (λ_ _ a m=>%[_,SqL.of (m.2.1 _ _ O)|by simp]) ?_ ?_
   .rintro j ts d H3 C ⟨⟨o,rfl⟩,G,ae,t⟩ x H4 ⟨e2,p⟩;subst e2;have I:=p _ (SqL.of (G _ _ O));rw[Zk,Z4 C]at I;obtain rfl:x=V.str ss[j]:=(Z9 I).symm;lk;refine%[_,_,rfl,by have:=nH b.2.1;lia,by rw[one _ (Y7 C)];decide|CK.mk C ae (by rw[t,Z5,Z5,Ye];exact az ⋯) %[%[_|rfl],af.set G hF,aa|?_]];rw[t,Yz,Zc,Zc,Z4 C];rfl
   rintro ts d H3 ⟨_,G,ag,t⟩;rw[Zm (Zh _)]at t;lk;refine%[_,G _ _ (s2 _ _ N),_,ag,(by rw[t,Z5,Z5,Z5];exact cm ⋯)|k3 _ _ %[_,_,rfl,af.set (y.trans (s2.trans G)) Y,g++ss.map (lnS q.2.1),?_,?_|?_]]
   .rw[aa,t,Zc]
   .rw[Yz,hq,flatMap_append];refine B.append ?_;show List.Perm _ ([q].flatMap lyr);rw[List.flatMap_singleton];exact p2.map _
   .rw[Z8,Z5]
    lia
  .rintro d a ⟨o2,o3,rfl,y,g,N,B,ab⟩;refine k2 _ _ ?_;lk;rw[u,Zm (Zh _)]at B;exact%[g,SqL.of N,by rw[B.length_eq];lia|λr ss M p' q'=>k r _ ss (y.trans (af.upd M)) (y.free M) aa (p'.trans B) q']
theorem nJ(T:Txt K mg):↥4 "ties_of_cuts" ["cuts"] rc:=by
 refine T.bi.cal bM (λH vs Q E h=>?_)
 .obtain⟨l,B,rfl,hl,a4,a5,h8,k⟩:=h;refine%[rfl|λf a7 A outer s hr=>?_];have ai:(cu B).length=B.length:=Z5 _;refine%[_,(QSs.h (ah (aI 1 bM.nd rfl (cj ap))
   (ah (cq PassesOwn.never rfl rfl (bW (K:=K) rfl ↑0) (fP (K:=K) rfl rfl rfl (gsE rfl (aJ 2 bM.nd rfl) (gsE rfl (aJ 3 bM.nd rfl) cL)))
   (aq (cq PassesOwn.never rfl rfl (bW (K:=K) rfl (aG (uZ T) hr rfl #[↑3])) (fP (K:=K) rfl rfl rfl (gsE rfl (aJ 4 bM.nd rfl) (gsE rfl (aJ 5 bM.nd rfl) cL)))
    (aq (bD rfl (bmO (K:=K) plainAttrs_list PySem.F.slot_list_append PySem.F.type_list_append aP rfl ↑1 #[jN #[aG (hX T) hr rfl #[↑2,↑4],aG (hX T) hr rfl #[↑2,↑5],↑2]]))))))
   (aq (aO ↑1)))))|?_]
  show aY _ _ _ [!l,none,none,none,none,none] H;refine ao λD1 k1 _=>?_
  lk;refine%[X1 _|λL hL=>k1 _ _ (ao λD2 k2 _=>aw λaj hK=>?_)];lk;refine .inl %[%[_|SqL.of (af.upd hL _ _ hl)]|hK _ _ (aX (λi C I=>∃o2 o3 J M,C=[!l,!L,o2,o3,J,M]/\af H I/\∃ts:ZG,I L=some (.lst (ts.map λt=>V.ref t.1))/\bd I ts/\(∀t∈ts,xO (B.flatMap lyr) t.2)/\ts.length<=14*i/\∀k,k∈ts.map (·.2)↔k∈hZ (B.take i))
   %[none,none,none,none,rfl,af.upd hL,[],aa,iP _,λt ht=>(nomatch ht),X1 _|λk=>Iff.rfl] (λi C I _ ⟨_,_,_,_,_,q,_⟩=>SqL.of (q _ _ hl)) ?_ ?_)]
  .rintro i x C I N ⟨o2,o3,J,M,rfl,sm,ts,hm,Y,ab,al,d⟩;have hi:i<B.length:=by rw[<-ai];exact(X7 N).1
   obtain⟨q,hq,rfl⟩:∃q,B[i]? =some q/\x=V.ref q.1:=by
    unfold cu at N;rw[Zk,Z4 hi]at N;exact%[B[i],Z4 hi|(Z9 N).symm]
   have g:=a4 q (Z7 hq);refine%[_,SqT.of (sm _ _ g.1),rfl,_,_,rfl,_,_,rfl,rfl|?_];refine aB λD3 k3 _=>?_
   show yA _ _ _ _ [!l,!L,some (.str q.2.1),some (.str (Str.join nl q.2.2)),J,M] I;refine aw λaj hK=>?_
   lk;have qm:=Z7 hq;refine%[q.2.2,rfl,g.2.2,a5 q qm|?_];intro l2 H2 ss s2 f2 h2 t2 a8 an all2;have a6:=nH g.2.1;have as:l2≠L:=λe=>by rw[e,hm]at f2;cases f2
   have a0:(ss.map λp=>V.ref p.1).length=ss.length:=Z5 _;refine .inl %[l2,rfl,%[_|SqL.of h2]|hK _ _ (aX (xs:=ss.map λp=>V.ref p.1) (λj C n=>∃J M,C=[!l,!L,some (.str q.2.1),some (.str (Str.join nl q.2.2)),J,M]/\af H n/\n l2=some (.lst (ss.map λp=>V.ref p.1))/\bd n ss/\∃c:ZG,n L=some (.lst (c.map λt=>V.ref t.1))/\bd n c/\(∀t∈c,xO (B.flatMap lyr) t.2)/\c.length<=14*i+j/\c.map (·.2)=ts.map (·.2) ++((ss.take j).map (·.2)).map (vS q.2.1))
    %[_,_,rfl,sm.trans s2,h2,t2,ts,s2 _ _ hm,aW Y λb z e=>s2 _ _ e,ab,⋯|(Zw _).symm] (λj C n _ ⟨_,_,_,_,q,_⟩=>SqL.of q) ?_ ?_)]
   .rintro j x C n N ⟨J,M,rfl,ae,a1,r,c,G,u,ag,v,m⟩;have hj:j<ss.length:=a0▸(X7 N).1;rw[Zk,Z4 hj]at N;obtain rfl:x=V.ref ss[j].1:=(Z9 N).symm;have O:=Y7 hj;obtain⟨a,b,a2,la,lb⟩:=an _ O;have U:=(r _ O).2;rw[a2]at U;refine%[_,SqT.of U,rfl,_,_,rfl,_,_,rfl,rfl|aB λD4 k4 _=>?_];show jE _ _ [!l,!L,some (.str q.2.1),some (.str (Str.join nl q.2.2)),some (.str (sgn a)),some (.str (sgn b))] n;lk;refine%[.inl %[_|SqL.of G],q.2.1,sgn a,rfl,⋯,(show 1<=100 by decide)|?_];lk;refine%[q.2.1,sgn b,rfl,⋯,(show 1<=100 by decide)|?_];lk;refine%[#[3]|λp hp=>?_];have sp:=af.upd (o:= .tup [V.str (lnS q.2.1 (sgn a)),V.str (lnS q.2.1 (sgn b)),V.str q.2.1]) hp;have gp:upd n p (.tup [V.str (lnS q.2.1 (sgn a)),V.str (lnS q.2.1 (sgn b)),V.str q.2.1]) p=_:=aa
    generalize upd n p _=H4 at sp gp
    have a3:=sp _ _ G;have y:∀b z,H4 b=some (.tup z)->upd H4 L (.lst (c.map (λt=>V.ref t.1) ++[V.ref p])) b=some (.tup z):=λb z e=>by
     have:b≠L:=λe2=>by rw[e2,a3]at e;cases e
     rw[am this];exact e
    refine%[_,a3,by rw[Z5];exact Nat.lt_of_le_of_lt (show c.length<=10000 by lia) (by decide)|k4 _ _ %[_,_,rfl,af.set (ae.trans sp) hL,(am as)▸sp _ _ a1,aW (aW r λb z e=>sp _ _ e) y,c++[(p,[lnS q.2.1 (sgn a),lnS q.2.1 (sgn b),q.2.1])],?_,?_,?_,?_|?_]]
    .rw[aa,Zc];rfl
    .exact aW (i7 (aW u λb z e=>sp _ _ e) ∅ gp) y
    .intro t ht;rcases X8 ht with z|z
     .exact ag t z
     .rw[X9 z];exact%[%[_,_,_,rfl,mem_flatMap.mpr %[q,qm|vR la]|mem_flatMap.mpr %[q,qm|vR lb]]|ET (li g.2.1 (u8 g.2.2 la)) (li g.2.1 (u8 g.2.2 lb)) (ti g.2.1)]
    .rw[Z8,Yd];lia
    .rw[Zc,m,Zd,Yz,Z4 hj,Zc,Zc];show _++(_++[_])=_++(_++[vS q.2.1 ss[j].2]);rw[a2];rfl
   .rintro C n ⟨J,M,rfl,ae,a1,r,c,G,u,ag,v,m⟩;rw[a0]at v m;rw[Zm (Zh _)]at m;refine k3 _ _ %[_,_,_,_,rfl,ae,c,G,u,ag,⋯|λk=>?_];rw[m,q0 hq,Yl,Yl,d,mem_map,mem_map];exact or_congr Iff.rfl (exists_congr λz=>and_congr_left λ_=>all2 z)
  .rintro C I ⟨o2,o3,J,M,rfl,sm,ts,hm,Y,ab,al,d⟩;refine k2 _ _ ?_;lk;rw[ai]at al d;rw[Zm (Zh _)]at d;exact k L I ts sm hL hm Y ab ⋯ d
theorem ke(T:Txt K mg):↥1 "ties_of_sayings" ["sayings"] rg:=by
 refine T.bj.cal cg (λH vs Q E h=>?_)
 .obtain⟨l,N,qs,rfl,hl,ab,r,al,k⟩:=h;refine%[rfl|λf aj A outer s hr=>?_];have G:(qs.map λq=>V.ref q.1).length=qs.length:=Z5 _;refine%[_,(QSs.h (ah (aI 1 cg.nd rfl (cj ap))
   (ah (cq PassesOwn.never rfl rfl (vE (K:=K) rfl rfl T.ae rfl #[↑0]) (fP (K:=K) rfl rfl rfl (gsE rfl (aJ 2 cg.nd rfl) (gsE rfl (aJ 3 cg.nd rfl) cL)))
   (aq (ifS (bA dQ rfl (↑3>>av) fW)
    (aq (bD rfl (bmO (K:=K) plainAttrs_list PySem.F.slot_list_append PySem.F.type_list_append aP rfl ↑1 #[(jN #[(↑3>>av),(↑3>>av),CW (pjE fW (pjE (Er ↑2) CV))])])))
    bw)))
   (aq (aO ↑1)))))|?_]
  show aY _ _ _ [!l,none,none,none] H;refine ao λD1 k1 _=>?_
  lk;refine%[X1 _|λL O=>k1 _ _ (ao λD2 k2 _=>aw λag hK=>?_)];lk;refine%[_,SqL.of (af.upd O _ _ hl)|hK _ _ (jT (λi U n=>∃o2 o3,U=[!l,!L,o2,o3]/\af H n/\∃ts:ZG,n L=some (.lst (ts.map λt=>V.ref t.1))/\bd n ts/\(∀t∈ts,xO N t.2)/\ts.length<=i/\ts.map (·.2)=ia qs i)
   %[none,none,rfl,af.upd O,[],aa,iP _,λt ht=>(nomatch ht),X1 _|rfl] (λi U n _ ⟨_,_,_,q,_⟩=>SqL.of (q _ _ hl)) ?_ ?_)]
  .rintro i x TT U n hx ⟨o2,o3,rfl,sm,ts,hm,u,g,v,d⟩ hT;have hi:i<qs.length:=by rw[<-G];exact(X7 hx).1
   obtain⟨q,Y,rfl⟩:∃q,qs[i]? =some q/\x=V.ref q.1:=by
    rw[Zk,Z4 hi]at hx;exact%[qs[i],Z4 hi|(Z9 hx).symm]
   have s0:=af.upd (o:= .tup [.int i,.ref q.1]) hT;have j:af H (upd n TT (.tup [.int i,.ref q.1])):=sm.trans s0;have I:upd n TT (.tup [.int i,.ref q.1]) TT=some (.tup [.int i,.ref q.1]):=aa;have m:=s0 _ _ hm;have c:=aW u λb z e=>s0 _ _ e
   generalize upd n TT (.tup [.int i,.ref q.1])=HT at j I m c
   have J:=ab q (Z7 Y);refine%[_,SqT.of I,rfl,_,_,rfl,_,_,rfl,rfl|?_];show jG _ _ _ _ [!l,!L,some (.int i),some (.ref q.1)] HT;refine aB λD4 k4 _=>?_
   lk;have st:=SqT.of (K:=K) (j _ _ J.1);have ai:(Str.ofString (toString (i:Int))).length<=21:=by
    have e:=PySem.int_text_length_le10 (a:=(i:Int)) (k:=20) (by decide) (by have:(i:Int).natAbs=i:=rfl;lia);rw[PySem.ofString_length];lia
   have e1:(Str.empty++Str.ofString "#").length=1:=by decide +kernel
   have ea:∀a b:Str,(a++b).length=a.length+b.length:=λa b=>size_append
   have add:∀a b:Str,a∈N->b∈N->nG i q.2=some [a,b,EU i]->∀p,HT p=none->∃x,upd HT p (.tup [.str a,.str b,V.str (Str.empty++Str.ofString "#"++Str.ofString (toString (i:Int)))]) L=some (.lst x)/\x.length<sizeLine/\D4.nx [!l,!L,some (.int i),some (.ref q.1)] (upd (upd HT p (.tup [.str a,.str b,V.str (Str.empty++Str.ofString "#"++Str.ofString (toString (i:Int)))])) L (.lst (x++[V.ref p]))):=by
    intro a b ma mb ae p hp;have tn:=ib Y;rw[ae,<-d]at tn;unfold EU at tn
    generalize hz:Str.empty++Str.ofString "#"++Str.ofString (toString (i:Int))=z at tn ⊢
    have sp:=af.upd (o:= .tup [V.str a,V.str b,V.str z]) hp;have gp:upd HT p (.tup [V.str a,V.str b,V.str z]) p=_:=aa
    generalize upd HT p (.tup [V.str a,V.str b,V.str z])=H4 at sp gp
    have M:=sp _ _ m;have B:∀b z,H4 b=some (.tup z)->upd H4 L (.lst (ts.map (λt=>V.ref t.1) ++[V.ref p])) b=some (.tup z):=λb z e=>by
     have:b≠L:=λe2=>by rw[e2,M]at e;cases e
     rw[am this];exact e
    refine%[_,M,by rw[Z5];exact az ⋯|k4 _ _ %[_,_,rfl,af.set (j.trans sp) O,ts++[(p,[a,b,z])],?_,?_,?_,?_|?_]]
    .rw[aa,Zc];rfl
    .exact aW (i7 (aW c λb z e=>sp _ _ e) ∅ gp) B
    .intro t ht;rcases X8 ht with z|z
     .exact g t z
     .rw[X9 z];exact%[%[_,_,_,rfl,ma|mb]|ET (r a ma) (r b mb) (hz▸Ch i ⋯)]
    .rw[Z8,Yd];lia
    .rw[tn,Zc];rfl
   rcases J.2 with⟨wd,a,b,e,hw,ma,mb,_⟩|⟨wd,a,y,e,hw,_⟩
   .rw[e]at st;refine%[_,st,_,rfl,rfl|bi (λC=>?_) λC=>?_]
    .refine%[.inl %[_|SqL.of m],_,st,_,rfl,_,st,_,rfl,cm ⋯,?_,cm (by rw[ea];lia),cm (by rw[ea];lia),#[3]|add a b ma mb (e▸if_pos (V.str.inj (Zn C)))];have:(i:Int).natAbs=i:=rfl
     lia
    .refine k4 _ _ %[_,_,rfl,j,ts,m,c,g,⋯|?_];rw[ib Y,e,show nG i [V.str wd,V.str a,V.str b]=none from if_neg λz=>C (Ze (by rw[z])),d];exact(Zw _).symm
   .rw[e]at st;refine%[_,st,_,rfl,rfl|?_];rw[if_neg (by rcases hw with rfl|rfl<;> decide)];refine k4 _ _ %[_,_,rfl,j,ts,m,c,g,⋯|?_];rw[ib Y,e,d];exact(Zw _).symm
  .rintro U n ⟨o2,o3,rfl,sm,ts,hm,u,g,v,d⟩;refine k2 _ _ ?_;lk;rw[G]at v d;exact k L n ts sm O hm u g v d
structure GrF (mg:ZC) (H:Hp) (g c2 c3 c4:Addr) (qs:ZM) (ls:ZB) (ts:ZG):Prop where
 at_:∃dx c1,H g=some (.ins (cr mg "Ground") dx [("kept_cuts",.ref c1),("kept_sayings",.ref c2),("kept_layers",.ref c3),("kept_ties",.ref c4)])
 a2:H c2=some (.lst (qs.map λq=>V.ref q.1))
 a3:H c3=some (.lst (ls.map V.str))
 a4:H c4=some (.lst (ts.map λt=>V.ref t.1))
 sa:cX H ls qs
 tu:bd H ts
theorem GrF.up(h:GrF mg H g a c d qs f ts)(s:af H i):GrF mg i g a c d qs f ts:=by
 obtain⟨j,l,m⟩:=h.at_;exact%[%[j,l|s _ _ m],s _ _ h.a2,s _ _ h.a3,s _ _ h.a4,h.sa.up s|aW h.tu λb z e=>s _ _ e]
def xP(mg:ZC):Sp:=λvs H Q _=>∃g b c d qs a ts,vs=[.ref g]/\GrF mg H g b c d qs a ts/\∀l,H l=none->Q (.ref l) (upd H l (.lst (a.map V.str)))
def u9(mg:ZC):Sp:=λvs H Q _=>∃g a b c qs d ts,vs=[.ref g]/\GrF mg H g a b c qs d ts/\∀l,H l=none->Q (.ref l) (upd H l (.lst (qs.map λq=>V.ref q.1)))
def Ci(mg:ZC):Sp:=λvs H Q _=>∃g a b c qs d ts,vs=[.ref g]/\GrF mg H g a b c qs d ts/\∀l,H l=none->Q (.ref l) (upd H l (.lst (ts.map λt=>V.ref t.1)))
def vT(mg:ZC):Sp:=λvs H Q _=>∃g l m f c qs,vs=[.ref g,.ref l,.ref m]/\H g=some (.ins (cr mg "Ground") f [])/\H l=some (.lst (cu c))/\H m=some (.lst (qs.map λq=>V.ref q.1))/\
 bT H c/\(c.map λp=>p.2.1).Nodup/\1<=c.length/\c.length<=3/\(∀p∈c,xv p.2.2)/\(c.flatMap lyr).length<=60/\(∀d,d.Perm (c.flatMap lyr)->cX H d qs)/\qs.length<=20/\
 ∀e d ts h i j,(∀b o,b≠g->H b=some o->e b=some o)->GrF mg e g h i j qs d ts->(∀t∈ts,xO d t.2)->(∀z∈d,Sml z)->(∀k,k∈ts.map (·.2)↔k∈hZ c\/k∈ia qs qs.length)->ts.length<=62->d.Perm (c.flatMap lyr)->d.Pairwise (λa b=>bc b a=false)->Q .non e
theorem Ao(T:Txt K mg):BQ P w K mg base 6 "Ground" ["self","cuts","sayings"] (vT mg):=by
 refine T.bF.cal fz (λH vs Q E h=>?_)
 .obtain⟨g,l,m,d,u,qs,rfl,O,hl,hm,j,as,h1,h8,a0,a1,C,bm,k⟩:=h;refine%[rfl|λf bl A outer s hr=>?_];refine%[_,(QSs.h (ah (bD rfl (aG (qY T) hr rfl #[↑1]))
   (ah (aI 3 fz.nd rfl (aG (tq T) hr rfl #[↑1]))
   (ah (bD rfl (aG (lW T) hr rfl #[↑2,↑3]))
   (ah (BR (K:=K) rfl rfl ↑0 ↥↑1)
   (ah (BR (K:=K) rfl rfl ↑0 ↥↑2)
   (ah (BR (K:=K) rfl rfl ↑0 ↑3)
   (aq (BR (K:=K) rfl rfl ↑0 (cbO (w4 (K:=K) rfl) T.a7 boot_sorted rfl #[opE mM (aG (nJ T) hr rfl #[↑1]) (aG (ke T) hr rfl #[↑2])]))))))))))|?_]
  show aY _ _ _ [!g,!l,!m,none] H;refine ao λD1 k1 _=>?_
  lk;refine%[l,u,rfl,hl,j,as,h1,⋯|λH1 s1=>k1 _ _ (ao λD2 k2 _=>?_)];lk;refine%[l,u,rfl,s1 _ _ hl,j.up s1,h8,a1|λr H2 G s2 f2 h2 U q2=>k2 _ _ (ao λD3 k3 _=>?_)];have Y:=s1.trans s2;lk;refine%[m,r,G,qs,rfl,Y _ _ hm,h2,(C G U).up Y,⋯|λH3 s3=>k3 _ _ (ao λD4 k4 _=>?_)];have v:=Y.trans s3;have OC:=T.bA.cls;have ai:∀z∈G,Sml z:=λz hz=>by
   obtain⟨p,y,hz⟩:=mem_flatMap.mp (U.mem_iff.mp hz);exact Cg (j p y).2.1 (j p y).2.2 z hz
  have gl:l≠g:=λe=>by rw[e,O]at hl;cases hl
  have gm:m≠g:=λe=>by rw[e,O]at hm;cases hm
  have gr:r≠g:=λe=>by rw[e,s1 _ _ O]at f2;cases f2
  lk;refine%[_,.inl (SqL.of (v _ _ hl))|λa I=>%[_,_,_,af.upd I _ _ (v _ _ O),OC,T.bB,(by show 0<1000;decide)|k4 _ _ (ao λD5 k5 _=>?_)]];have a2:a≠g:=λe=>by rw[e,v _ _ O]at I;cases I
  have a3:=af.upd (o:= .lst (cu u)) I;have b4:∀b o,b≠g->H3 b=some o->upd (upd H3 a (.lst (cu u))) g (.ins (cr mg "Ground") d (dw (Str.ofString "kept_cuts") (V.ref a) [])) b=some o:=λb o c e=>by rw[am c];exact a3 _ _ e
  have g4:upd (upd H3 a (.lst (cu u))) g (.ins (cr mg "Ground") d (dw (Str.ofString "kept_cuts") (V.ref a) [])) g=some (.ins (cr mg "Ground") d [("kept_cuts",V.ref a)]):=aa;have a4:upd (upd H3 a (.lst (cu u))) g (.ins (cr mg "Ground") d (dw (Str.ofString "kept_cuts") (V.ref a) [])) a=some (.lst (cu u)):=by rw[am a2];exact aa
  generalize upd (upd H3 a (.lst (cu u))) g (.ins (cr mg "Ground") d (dw (Str.ofString "kept_cuts") (V.ref a) []))=H4 at b4 g4 a4
  have n4:∀b,H4 b=none->b≠g:=λb c e=>by rw[e,g4]at c;cases c
  lk;refine%[_,.inl (SqL.of (b4 _ _ gm (v _ _ hm)))|λi ab=>%[_,_,_,af.upd ab _ _ g4,OC,T.bC,(by show 1<1000;decide)|k5 _ _ (ao λD6 k6 _=>?_)]];have ae:=n4 i ab;have a6:=af.upd (o:= .lst (qs.map λq=>V.ref q.1)) ab;have b5:∀b o,b≠g->H4 b=some o->upd (upd H4 i (.lst (qs.map λq=>V.ref q.1))) g (.ins (cr mg "Ground") d (dw (Str.ofString "kept_sayings") (V.ref i) [("kept_cuts",V.ref a)])) b=some o:=λb o c e=>(am c)▸a6 _ _ e
  have g5:upd (upd H4 i (.lst (qs.map λq=>V.ref q.1))) g (.ins (cr mg "Ground") d (dw (Str.ofString "kept_sayings") (V.ref i) [("kept_cuts",V.ref a)])) g=some (.ins (cr mg "Ground") d [("kept_cuts",V.ref a),("kept_sayings",V.ref i)]):=by rw[aa];rfl
  have a5:upd (upd H4 i (.lst (qs.map λq=>V.ref q.1))) g (.ins (cr mg "Ground") d (dw (Str.ofString "kept_sayings") (V.ref i) [("kept_cuts",V.ref a)])) i=some (.lst (qs.map λq=>V.ref q.1)):=(am ae)▸aa
  generalize upd (upd H4 i (.lst (qs.map λq=>V.ref q.1))) g (.ins (cr mg "Ground") d (dw (Str.ofString "kept_sayings") (V.ref i) [("kept_cuts",V.ref a)]))=H5 at b5 g5 a5
  lk;refine%[_,_,_,g5,OC,T.bD,(by show 2<1000;decide)|k6 _ _ (aB λD7 k7 _=>?_)];have b6:∀b o,b≠g->H5 b=some o->upd H5 g (.ins (cr mg "Ground") d (dw (Str.ofString "kept_layers") (V.ref r) [("kept_cuts",V.ref a),("kept_sayings",V.ref i)])) b=some o:=λb o c e=>(am c)▸e
  have g6:upd H5 g (.ins (cr mg "Ground") d (dw (Str.ofString "kept_layers") (V.ref r) [("kept_cuts",V.ref a),("kept_sayings",V.ref i)])) g=some (.ins (cr mg "Ground") d [("kept_cuts",V.ref a),("kept_sayings",V.ref i),("kept_layers",V.ref r)]):=by rw[aa];rfl
  generalize upd H5 g (.ins (cr mg "Ground") d (dw (Str.ofString "kept_layers") (V.ref r) [("kept_cuts",V.ref a),("kept_sayings",V.ref i)]))=H6 at b6 g6
  have aj:∀b o,b≠g->H3 b=some o->H6 b=some o:=λb o c e=>b6 b o c (b5 b o c (b4 b o c e))
  have B:∀b o,b≠g->H b=some o->H6 b=some o:=λb o c e=>aj b o c (v _ _ e)
  have al:bT H6 u:=λp y=>⟨B _ _ (λe=>by have:=(j p y).1;rw[e,O]at this;cases this) (j p y).1,(j p y).2⟩
  have n:cX H6 G qs:=λq hq=>⟨B _ _ (λe=>by have:=(C G U q hq).1;rw[e,O]at this;cases this) (C G U q hq).1,(C G U q hq).2⟩
  lk;refine%[l,u,rfl,B _ _ gl hl,al,a0,h8|λt1 H7 ts s7 f7 h7 a7 ag bn a8=>?_];lk;refine%[m,G,qs,rfl,s7 _ _ (B _ _ gm hm),n.up s7,ai,⋯|λt2 H8 us s8 f8 a9 bb an bp bf=>?_];lk;have N:bd H8 (ts++us):=sZ (aW a7 λb z e=>s8 _ _ e) bb;have g8:=s8 _ _ (s7 _ _ g6);refine%[_,s8 _ _ h7,_,a9,by rw[Z5,Z5,PySem.sizeLine_eq];lia|λp y=>%[ts++us,Zc▸SqL.of aa,aW N λb z e=>af.upd y _ _ e,3,?_,by decide,by rw[Z8];lia|λc4 ss J L bt=>%[_,_,_,af.upd J _ _ (af.upd y _ _ g8),OC,T.bE,(by show 3<1000;decide)|k7 _ _ ?_]]]
  .intro t ht;rcases X8 ht with z|z
   .exact(ag t z).1.three
   .exact(an t z).1.three
  .have b9:∀b o,b≠g->H8 b=some o->upd (upd (upd H8 p (.lst (ts.map (λp=>V.ref p.1) ++us.map λp=>V.ref p.1))) c4 (.lst (ss.map λp=>V.ref p.1))) g (.ins (cr mg "Ground") d (dw (Str.ofString "kept_ties") (V.ref c4) [("kept_cuts",V.ref a),("kept_sayings",V.ref i),("kept_layers",V.ref r)])) b=some o:=λb o c e=>(am c)▸((af.upd (o:= .lst (ts.map (λp=>V.ref p.1) ++us.map λp=>V.ref p.1)) y).trans (af.upd (o:= .lst (ss.map λp=>V.ref p.1)) J)) _ _ e
   have M:∀b o,b≠g->H6 b=some o->_:=λb o c e=>b9 b o c (s8 _ _ (s7 _ _ e))
   refine k _ G ss i r c4 (λb o c e=>M b o c (B b o c e)) %[%[d,a|?_],?_,?_,?_,?_|?_] (λt ht=>?_) ai (λk=>by rw[(L.map _).mem_iff,Zc,Yl,a8,bf]) (by rw[L.length_eq,Z8];lia) U q2
   .rw[aa];rfl
   .exact M _ _ ae (b6 _ _ ae a5)
   .exact M _ _ gr (aj _ _ gr (s3 _ _ h2))
   .rw[am (λe=>by rw[e,af.upd y _ _ g8]at J;cases J)];exact aa
   .exact λq hq=>⟨M _ _ (λe=>by have:=(n q hq).1;rw[e,g6]at this;cases this) (n q hq).1,(n q hq).2⟩
   .intro t ht;have:=N t (L.mem_iff.mp ht);exact%[this.1|b9 _ _ (λe=>by have q:=this.2;rw[e,g8]at q;cases q) this.2]
   .rcases X8 (L.mem_iff.mp ht)with z|z
    .exact%[(ag t z).1.mono λx=>U.mem_iff.mpr|(ag t z).2]
    .exact an t z
theorem d9(T:Txt K mg):wY P w K mg base 1 "Ground" "layers" ["self"] (xP mg):=by
 refine T.bI.cal kZ (λH vs Q E h=>?_)
 .obtain⟨g,c,d,e,qs,i,ts,rfl,a,k⟩:=h;refine%[rfl|λf b A outer s n=>?_];obtain⟨o,p,j⟩:=a.at_;refine%[_,(QSs.h (aq (aO ↥((Ew (K:=K) rfl rfl ↑0)))))|?_];show jF _ _ [some _] H;lk;exact%[_,_,_,j,T.bA.cls,T.bD,_,rfl,_,rfl,_,.inl (SqL.of a.a3)|λl m=>k l m]
theorem lj(T:Txt K mg):wY P w K mg base 1 "Ground" "sayings" ["self"] (u9 mg):=by
 refine T.bG.cal j9 (λH vs Q E h=>?_)
 .obtain⟨g,c,d,e,qs,i,ts,rfl,a,k⟩:=h;refine%[rfl|λf b A outer s n=>?_];obtain⟨o,p,j⟩:=a.at_;refine%[_,(QSs.h (aq (aO ↥((Ew (K:=K) rfl rfl ↑0)))))|?_];show jF _ _ [some _] H;lk;exact%[_,_,_,j,T.bA.cls,T.bC,_,rfl,_,rfl,_,.inl (SqL.of a.a2)|λl m=>k l m]
theorem oC(T:Txt K mg):wY P w K mg base 1 "Ground" "ties" ["self"] (Ci mg):=by
 refine T.bJ.cal nA (λH vs Q E h=>?_)
 .obtain⟨g,c,d,e,qs,i,ts,rfl,a,k⟩:=h;refine%[rfl|λf b A outer s n=>?_];obtain⟨o,p,j⟩:=a.at_;refine%[_,(QSs.h (aq (aO ↥((Ew (K:=K) rfl rfl ↑0)))))|?_];show jF _ _ [some _] H;lk;exact%[_,_,_,j,T.bA.cls,T.bE,_,rfl,_,rfl,_,.inl (SqL.of a.a4)|λl m=>k l m]
def dH(H:Hp)(ys:List (Addr×Str×Int)):Prop:=∀p∈ys,H p.1=some (.tup [.str p.2.1,.int p.2.2])/\0<=p.2.2/\p.2.2<=7
theorem dH.up(h:dH H ys)(s:af H b):dH b ys:=λp a=>%[s _ _ (h p a).1|(h p a).2]
def xQ:Sp:=λvs H Q _=>∃one a l ys,vs=[.int one,.int a,.ref l]/\H l=some (.lst (ys.map λp=>V.ref p.1))/\dH H ys/\1<=ys.length/\ys.length<=100/\0<=one/\0<=a/\
 ∀t b xs,af H b->H t=none->b t=some (.tup xs)->pQ (ys.map λp=>p.2.1) xs->Q (.ref t) b
theorem rh(T:Txt K mg):↥1 "_law_saying" ["_law_one","_law_two","_law_layers"] xQ:=by
 refine T.br.cal bF (λH vs Q E h=>?_)
 .obtain⟨one,d,l,ys,rfl,N,C,y1,ai,o0,t0,k⟩:=h;refine%[rfl|λf aj A outer s hr=>?_];have get:∀n:Int,0<=n->∃q,atI (ys.map λp=>V.ref p.1) (n%(ys.length:Int))=some (V.ref q.1)/\q∈ys:=λn hn=>by
   have h0:=Int.emod_nonneg n (show(ys.length:Int)≠0 by lia);have h1:=Int.emod_lt_of_pos n (show(0:Int)<(ys.length:Int) by lia)
   generalize n%(ys.length:Int)=i at h0 h1
   obtain⟨j,rfl⟩:=X4 h0;have hj:j<ys.length:=by lia
   exact%[ys[j],cF (by simp[hj])|Y7 hj]
  obtain⟨p,gp,mp⟩:=get one o0;obtain⟨q,gq,mq⟩:=get d t0;have G:(ys.map λp=>V.ref p.1).length=ys.length:=Z5 _;have y:(0:Int)<(ys.length:Int):=by lia
  have pa:=C p mp;have qa:=C q mq;refine%[_,(QSs.h (ah (BD rfl rfl rfl (↑2*>(opE bY ↑0 ↑↑2)) (fP (K:=K) rfl rfl rfl (gsE rfl (aJ 3 bF.nd rfl) (gsE rfl (aJ 4 bF.nd rfl) cL))))
   (ah (BD rfl rfl rfl (↑2*>(opE bY ↑1 ↑↑2)) (fP (K:=K) rfl rfl rfl (gsE rfl (aJ 5 bF.nd rfl) (gsE rfl (aJ 6 bF.nd rfl) cL))))
   (ah (aI 7 bF.nd rfl (opE bY (opE dA ↑0 av) av))
   (ah (aI 8 bF.nd rfl (lQ dQ rfl (opE bY (opE dA ↑1 av) av) av))
   (ah (ifS (wT (mK (bA uo rfl ↑7 av) (mK (bA im rfl ↑3 ↑5) (jO (wT (orW (bA im rfl ↑4 ↑6) (nY (~~~↑8))))))))
   (ah (ifS (wT (mK (bA qq rfl ↑4 ↑6) (jO (mJ (~~~↑8)))))
    (aq (aO (jN #[fW,↑5,↑3])))
    bw)
    (aq (aO (jN #[fW,↑3,↑5]))))
   bw)
   (ah (ifS (wT (mK (bA (uq (K:=K) rfl) rfl ↑7 (jN #[av,av])) (mK (bA im rfl ↑3 ↑5) (jO (wT (orW (bA dQ rfl ↑4 ↑6) (nY (~~~↑8))))))))
   (aq (aO (jN #[fW,↑3,↑5])))
   bw)
   (ah (aI 9 bF.nd rfl (opE bR (opE ph av (opE fQ av ↑4)) ((cj #[av,nX av,nX av,av,av,nX av,av,av])*>(opE bY ↑1 av))))
   (aq (aO (jN #[((cj #[fW,fW])*>(opE bY ↑7 av)),↑3,↑9])))))))))))|?_]
  show aY _ _ _ [some (.int one),some (.int d),!l,none,none,none,none,none,none,none] H;refine ao λD1 k1 _=>?_
  lk;refine%[ys.length,.inl %[_,SqL.of N|G.symm],y,_,SqL.of N,_,gp,_,rfl,_,SqT.of pa.1,rfl,_,_,rfl,_,_,rfl,rfl|k1 _ _ (ao λD2 k2 _=>?_)];lk;refine%[ys.length,.inl %[_,SqL.of N|G.symm],y,_,SqL.of N,_,gq,_,rfl,_,SqT.of qa.1,rfl,_,_,rfl,_,_,rfl,rfl|k2 _ _ (ao λD3 k3 _=>?_)];lk;refine%[%[by decide|by decide],by decide|k3 _ _ (ao λD4 k4 _=>?_)];lk;refine%[%[by decide|by decide],by decide|k4 _ _ (ao λD5 k5 r5=>?_)];have b1:0<=one/64%8:=by lia
  have b2:one/64%8<8:=by lia
  generalize one/64%8=kind at b1 b2
  generalize decide (d/64%16=0)=I
  obtain⟨al,pn,pi⟩:=p;obtain⟨an,m,qi⟩:=q;dsimp only at pa qa gp gq;have mem:∀{r:Addr×Str×Int},r∈ys->r.2.1∈ys.map λp=>p.2.1:=λ{r} hr=>Xb %[r,hr|rfl]
  have fin:∀(z:Hp) (a b:Str),af H z->a∈(ys.map λp=>p.2.1)->b∈(ys.map λp=>p.2.1)->a≠b->∀w:Str,w="later"\/w="same"->∀t,z t=none->Q (.ref t) (upd z t (.tup [.str w,.str a,.str b])):=λz a b J ha hb ab w hw t u=>
   k t _ _ (J.trans (af.upd u)) (J.free u) aa (.inl %[w,a,b,rfl,hw,ha,hb|ab])
  have O:pn∈ys.map λp=>p.2.1:=mem mp
  have m2:m∈ys.map λp=>p.2.1:=mem mq
  have v:3<=sizeLine:=by decide
  have rest:D5.nx [some (.int one),some (.int d),!l,-pn,some (.int pi),-m,some (.int qi),some (.int kind),some (.bl I),none] H:=by
   refine k5 _ _ (ao λD6 k6 r6=>?_);have B:∀z,af H z->D6.nx [some (.int one),some (.int d),!l,-pn,some (.int pi),-m,some (.int qi),some (.int kind),some (.bl I),none] z:=by
    intro z J;refine k6 _ _ (ao λD7 k7 _=>?_);lk;refine%[.inl %[by decide|by decide],#[8]|λp U=>%[by decide,_,SqL.of aa|?_]];obtain⟨c,hc,ae⟩:=kb [0,-20,-60,10,60,-200,110,0] (i:=d%8) ⋯ (by show d%8<8;lia);have as: -200<=c/\c<=110:=by
     simp only[Yo,Yw,or_false]at ae
     lia
    refine%[_,hc,c,rfl|k7 _ _ ?_];lk;obtain⟨wd,ag,hw⟩:∃wd:Str,atI [V.str (Str.ofString "since"),V.str (Str.ofString "by")] (kind%2)=some (V.str wd)/\(wd="since"\/wd="by"):=by
     rcases(show kind%2=0\/kind%2=1 by lia)with e|e<;> rw[e]
     .exact%[_,rfl|.inl rfl]
     .exact%[_,rfl|.inr rfl]
    refine%[#[2]|λp1 M=>%[by simp,_,SqL.of aa,_,ag,v|λt u=>?_]];exact k t _ _ (J.trans ((af.upd U).trans ((af.upd M).trans (af.upd u)))) (J.free ((af.upd U).free ((af.upd M).free u))) aa (.inr %[wd,pn,_,rfl,hw,O,⋯|⋯])
   lk;refine%[#[2]|λp U=>%[_,.inr (SqT.of aa),rfl,rfl|?_]];have sp:=af.upd (o:= .tup [V.int 2,V.int 3]) U
   generalize upd H p (.tup [V.int 2,V.int 3])=Y at sp
   have R:=B Y sp;refine bi (λ_=>bi (λg=>?_) λ_=>R) λ_=>R
   have g:pn≠m:=by simpa using g
   have L:3<=sizeLine/\∀p,Y p=none->D6.rt (.ref p) (upd Y p (.tup [V.str (Str.ofString "same"),V.str pn,V.str m])):=%[v|λt u=>r6 _ _ (fin Y pn m sp O m2 g _ (.inr rfl) t u)]
   exact bi (λ_=>L) λ_=>bi (λ_=>L) λ_=>R
  lk;refine bi (λ_=>bi (λg=>?_) λ_=>rest) λ_=>rest
  have g:pn≠m:=by simpa using g
  have L1:3<=sizeLine/\∀p,H p=none->D5.rt (.ref p) (upd H p (.tup [V.str (Str.ofString "later"),V.str m,V.str pn])):=%[v|λt u=>r5 _ _ (fin H m pn (af.refl H) m2 O (Ne.symm g) _ (.inl rfl) t u)]
  have L2:3<=sizeLine/\∀p,H p=none->D5.rt (.ref p) (upd H p (.tup [V.str (Str.ofString "later"),V.str pn,V.str m])):=%[v|λt u=>r5 _ _ (fin H pn m (af.refl H) O m2 g _ (.inl rfl) t u)]
  exact bi (λ_=>bi (λ_=>bi (λ_=>L1) λ_=>L2) λ_=>L2) λ_=>bi (λ_=>bi (λ_=>bi (λ_=>L1) λ_=>L2) λ_=>L2) λ_=>rest
structure Drn where
 name:Str
 cols:List ZK
 hi:Nat
 sh:Int
 wd:Bool
noncomputable def Drn.rows(d:Drn):ZB:=drawn d.cols d.hi d.sh
def lM(d:Drn):Prop:=fN d.name=true/\1<=d.hi/\d.hi<=6/\1<=d.cols.length/\d.cols.length<=5/\∀c∈d.cols,c.length=d.hi/\j3 d.wd c
theorem lM.cut(h:lM d):b8 d.rows:=sS h.2.1 (by have:=h.2.2.1;lia) h.2.2.2.1 (by have:=h.2.2.2.2.1;lia) h.2.2.2.2.2
noncomputable def iu(d:Drn):List (Str×Int):=(there d.cols).map λa=>(dq d.name (sg a d.sh),a)
noncomputable def dcs(ds:List (Addr×Drn)):List (Addr×Str×ZB):=ds.map λp=>(p.1,p.2.name,p.2.rows)
noncomputable def nmK(k:Int):Str:=if k=0 then "north" else if k=1 then "a" else if k=2 then "wallwest" else "zz"
def xR(K:ZA):Sp:=λvs H Q _=>∃(a:Addr) (xs:ZK),vs=[.ref a]/\SqL K H a (xs.map V.int)/\(∀b,af H b->SqL K b a (xs.map V.int))/\xs.length=43/\(∀x∈xs,0<=x/\x<9973)/\
 ∀t c d e b ds qs,af H b->H t=none->H c=none->H d=none->H e=none->c≠d->c≠e->d≠e->
  b t=some (.tup [.ref c,.ref d,.ref e])->b c=some (.lst (cu (dcs ds)))->b d=some (.lst (qs.map λq=>V.ref q.1))->b e=some (.lst ((ds.flatMap λp=>(iu p.2).map (·.1)).map V.str))->
  1<=ds.length->ds.length<=3->(∀p∈ds,lM p.2)->(ds.map λp=>p.2.name).Nodup->bT b (dcs ds)->cX b (ds.flatMap λp=>(iu p.2).map (·.1)) qs->qs.length<=12->(∀p∈ds,∃k:Int,p.2.name=nmK k)->1<=(ds.flatMap λp=>(iu p.2).map (·.1)).length/\(ds.flatMap λp=>(iu p.2).map (·.1)).length<=24->Q (.ref t) b
theorem mh(h:H M=some (.lst xs)):∀b z,H b=some (.tup z)->upd H M (.lst ys) b=some (.tup z):=λb z e=>by
 rw[am (λa=>by lia)];exact e
theorem dH.keep(h:dH H ys)(t:∀b z,H b=some (.tup z)->c b=some (.tup z)):dH c ys:=λp a=>%[t _ _ (h p a).1|(h p a).2]
theorem bT.keep(h:bT H c)(t:∀b z,H b=some (.tup z)->d b=some (.tup z)):bT d c:=λp a=>%[t _ _ (h p a).1|(h p a).2]
theorem cX.keep(h:cX H c qs)(t:∀b z,H b=some (.tup z)->d b=some (.tup z)):cX d c qs:=λp a=>%[t _ _ (h p a).1|(h p a).2]
theorem bT.snoc(h:bT H a)(b:H q.1=some (.tup [.str q.2.1,.str (Str.join nl q.2.2)])/\fN q.2.1=true/\b8 q.2.2):bT H (a++[q]):=λp c=>by
 rcases X8 c with z|z
 .exact h p z
 .rw[X9 z];exact b
theorem dH.snoc(h:dH H ys)(a:H q.1=some (.tup [.str q.2.1,.int q.2.2])/\0<=q.2.2/\q.2.2<=7):dH H (ys++[q]):=λp b=>by
 rcases X8 b with z|z
 .exact h p z
 .rw[X9 z];exact a
theorem xS(n:Str)(c:Nat):n++Str.ofString "."++sgn c=dq n c:=by
 refine iU ?_;show(n.cps++ ([46].toArray) ++ ([c].toArray)).toList=(n.cps.toList++[46,c]).toArray.toList;simp
theorem EV(k:Int):fN (nmK k)=true:=by
 unfold nmK
 split
 .decide +kernel
 .split
  .decide +kernel
  .split<;> decide +kernel
theorem Cj(c:0<=j)(e:j<4)(d:0<=k)(f:k<4)(h:nmK j=nmK k):j=k:=by
 have all:∀a b:Fin 4,nmK (a.1)=nmK (b.1)->a=b:=by decide +kernel
 obtain⟨a,rfl⟩:=X4 c;obtain⟨b,rfl⟩:=X4 d;have:=all %[a|⋯] %[b|⋯] h
 simp_all
theorem ri(T:Txt K mg):↥3 "_law_ground" ["_law_row_here"] (xR K):=by
 refine T.bt.cal aQ (λH vs Q E h=>?_)
 .obtain⟨a,xs,rfl,hs,keep,b6,hb,kk⟩:=h;refine%[rfl|λf eh A outer s hr=>?_];have get:∀i:Int,0<=i->i<43->∃c,atI (xs.map V.int) i=some (V.int c)/\0<=c/\c<9973:=λi h0 h1=>by
   obtain⟨c,e,hm⟩:=kb xs h0 ⋯;exact%[c,e|hb c hm]
  obtain⟨c0,g0,l0,u0⟩:=get 0 (by decide) (by decide);refine%[_,(QSs.h (ah (aI 1 aQ.nd rfl (cj ap))
   (ah (aI 2 aQ.nd rfl (cj ap))
   (ah (cq PassesOwn.never rfl rfl (mI rfl T.aj rfl #[(opE bR av (opE bY (↑0*>av) av))]) (aJ 3 aQ.nd rfl)
   (ah (aI 4 aQ.nd rfl ((cj #[fW,fW,fW,fW])*>(opE bY (opE bR ↑3 (opE dA (↑0*>av) av)) av)))
    (ah (aI 5 aQ.nd rfl (opE bR (opE dA (↑0*>av) av) (opE fQ av ↑3)))
    (ah (BD rfl rfl rfl (aG (xD T) hr rfl #[(slE (K:=K) rfl ↑0 (rL (opE bR av (opE fQ av ↑3))) (rL (opE bR av (opE fQ av ↑3)))),↑5]) (fP (K:=K) rfl rfl rfl (gsE rfl (aJ 6 aQ.nd rfl) (gsE rfl (aJ 7 aQ.nd rfl) cL))))
    (ah (bD rfl (bmO (K:=K) plainAttrs_list PySem.F.slot_list_append PySem.F.type_list_append aP rfl ↑1 #[jN #[↑4,↑6]]))
    (aq (cq PassesOwn.never rfl rfl (bW (K:=K) rfl ↑7) (aJ 8 aQ.nd rfl)
    (aq (bD rfl (bmO (K:=K) plainAttrs_list PySem.F.slot_list_append PySem.F.type_list_append aP rfl ↑2 #[jN #[opE mM (opE mM ↑4 fW) (aG (nB T) hr rfl #[↑8,↑5]),↑8]]))))))))))
   (ah (aI 9 aQ.nd rfl (opE bY (opE dA (↑0*>av) av) av))
   (ah (aI 10 aQ.nd rfl (cj ap))
   (ah (cq PassesOwn.never rfl rfl (mI rfl T.aj rfl #[↑9]) (aJ 3 aQ.nd rfl)
   (aq (bD rfl (bmO (K:=K) plainAttrs_list PySem.F.slot_list_append PySem.F.type_list_append aP rfl ↑10 #[(aG (rh T) hr rfl #[(↑0*>(opE bR av (opE fQ av ↑3))),(↑0*>(opE bR av (opE fQ av ↑3))),↑2])]))))
   (aq (aO (jN #[↑1,↑10,(cZ (ay.of (show bq (ak eJ) ["_law_row_here","_law_cuts","_law_layers","_law_k","_law_name","_law_shift","_law_text","_law_there","_law_at","_law_many","_law_sayings"] _ ["_law_layer","_law_at"] []=true from by decide +kernel)) rfl rfl (bW (K:=K) rfl ↑2) (λ_ _ _=>(fP (K:=K) rfl rfl rfl (gsE rfl (aJ 0 (show(["_law_layer","_law_at"]:ZB).Nodup from by decide +kernel) rfl) (gsE rfl (aJ 1 (show(["_law_layer","_law_at"]:ZB).Nodup from by decide +kernel) rfl) cL)))) (λ_ _ _=>jr) (λ_ _ _=>↑0))]))))))))))|?_]
  show aY _ _ _ [!a,none,none,none,none,none,none,none,none,none,none] H;refine ao λD1 k1 _=>?_
  lk;refine%[X1 _|λu bl=>k1 _ _ (ao λD2 k2 _=>?_)];have s1:=af.upd (o:= .lst []) bl;lk;refine%[X1 _|λL3 a2=>k2 _ _ (ao λD3 k3 _=>aw λas hK=>?_)];have s2:=s1.trans (af.upd (o:= .lst []) a2);have bm:u≠L3:=λe=>by rw[<-e,aa]at a2;cases a2
  lk;refine%[_,keep _ s2,_,g0,c0,rfl,by decide|?_];refine%[⋯,⋯|hK _ _ (eL (λi M l=>∃o3 o4 o5 o6 o7 o8,M=[!a,!u,!L3,o3,o4,o5,o6,o7,o8,none,none]/\af H l/\∃(ds:List (Addr×Drn)) (ys:List (Addr×Str×Int)),ds.length=i/\l u=some (.lst (cu (dcs ds)))/\l L3=some (.lst (ys.map λp=>V.ref p.1))/\dH l ys/\(ys.map (·.2))=(ds.flatMap λp=>iu p.2)/\
   bT l (dcs ds)/\(∀p∈ds,lM p.2)/\ds.map (λp=>p.2.name)=(List.range i).map λk:Nat=>nmK (((k:Int) +c0/3)%4))
   %[_,_,_,_,_,_,rfl,s2,[],[],rfl,by rw[am bm];exact aa,aa,λp hp=>(nomatch hp),rfl,λp hp=>(nomatch hp),λp hp=>(nomatch hp)|rfl] ?_ ?_)]
  .rintro i M H3 hi ⟨o3,o4,o5,o6,o7,o8,rfl,s3,ds,ys,bn,v,C,a3,Y,bp,a4,a5⟩;have ei:i<3:=by lia
   show aY _ _ _ [!a,!u,!L3,some (.int (0+i)),o4,o5,o6,o7,o8,none,none] H3;rw[Int.zero_add];refine ao λD4 k4 _=>?_
   lk;obtain⟨m,b7,b9⟩:∃m:Str,atI [V.str (Str.ofString "north"),V.str (Str.ofString "a"),V.str (Str.ofString "wallwest"),V.str (Str.ofString "zz")] (((i:Int) +c0/3)%4)=some (V.str m)/\m=nmK (((i:Int) +c0/3)%4):=by
    rcases(show((i:Int) +c0/3)%4=0\/((i:Int) +c0/3)%4=1\/((i:Int) +c0/3)%4=2\/((i:Int) +c0/3)%4=3 by lia)with e|e|e|e<;> rw[e]<;> exact%[_,rfl|rfl]
   have bt:fN m=true:=by rw[b9];exact EV _
   refine%[#[4]|λp hp=>%[_,keep _ (s3.trans (af.upd hp)),_,g0,c0,rfl,%[by decide|by decide],by decide,_,SqL.of aa,_,b7|k4 _ _ (ao λD5 k5 _=>?_)]];have sp:=af.upd (o:= .lst [V.str (Str.ofString "north"),V.str (Str.ofString "a"),V.str (Str.ofString "wallwest"),V.str (Str.ofString "zz")]) hp
   generalize upd H3 p (.lst [V.str (Str.ofString "north"),V.str (Str.ofString "a"),V.str (Str.ofString "wallwest"),V.str (Str.ofString "zz")])=H4 at sp
   have O:=s3.trans sp;lk;refine%[_,keep _ O,_,g0,c0,rfl,%[by decide|by decide],.inl %[by decide|by decide]|k5 _ _ (ao λD6 k6 _=>?_)];have bU:0<=c0/12+3*(i:Int):=by lia
   generalize c0/12+3*(i:Int)=r at bU
   lk;refine%[.inl %[by decide|by decide],.inl %[by decide|by decide]|.inl %[_,keep _ O|λp2 ca=>?_]];rw[sX xs ⋯ ⋯ ⋯];have cd:((xs.drop (1+6*(i:Int)).toNat).take ((7+6*(i:Int)).toNat-(1+6*(i:Int)).toNat)).length=6:=by
    rw[Ye,Ya,b6];exact(by decide:∀i:Nat,i<3->min ((7+6*(i:Int)).toNat-(1+6*(i:Int)).toNat) (43-(1+6*(i:Int)).toNat)=6) i ⋯
   have ch:∀x∈(xs.drop (1+6*(i:Int)).toNat).take ((7+6*(i:Int)).toNat-(1+6*(i:Int)).toNat),0<=x/\x<9973:=λx hx=>hb x (List.mem_of_mem_drop (Yp hx))
   generalize (xs.drop (1+6*(i:Int)).toNat).take ((7+6*(i:Int)).toNat-(1+6*(i:Int)).toNat)=ws at cd ch
   refine%[p2,ws,r,rfl,SqL.of aa,λl sm=>SqL.of (sm _ _ aa),cd,ch,bU|λT5 th H5 d g ab U f5 da n5 dc dd de dk dn dp b0=>%[T5,rfl,_,SqT.of dc,rfl,_,_,rfl,_,_,rfl,rfl|k6 _ _ (ao λD7 k7 _=>?_)]];have b1:af H3 H5:=sp.trans ((af.upd ca).trans U);have a8:lM %[m,d,g,r|ab]:=%[bt,de,dk,dn,dp|b0]
   have ag:H3 th=none:=sp.free ((af.upd ca).free da);have dr:th≠u:=λe=>by rw[e,v]at ag;cases ag
   have dt:th≠L3:=λe=>by rw[e,C]at ag;cases ag
   lk;refine%[.inl %[_|SqL.of (b1 _ _ v)],#[2]|λI dx=>?_];have s6:=af.upd (o:= .tup [V.str m,V.str (nl.join (drawn d g r))]) dx;have g6:upd H5 I (.tup [V.str m,V.str (nl.join (drawn d g r))]) I=_:=aa;have an:=s6 _ _ (b1 _ _ v)
   generalize upd H5 I (.tup [V.str m,V.str (nl.join (drawn d g r))])=H6 at s6 g6 an
   have a6:=b1.trans s6;refine%[_,an,by rw[show(cu (dcs ds)).length=ds.length by unfold cu dcs;rw[Z5,Z5],bn];exact az ⋯|k7 _ _ (aB λD8 k8 _=>aw λas hK=>?_)];have tk:=mh (ys:=cu (dcs ds) ++[V.ref I]) an;have cl:af H (upd H6 u (.lst (cu (dcs ds) ++[V.ref I]))):=af.set (s3.trans a6) bl;have co:upd H6 u (.lst (cu (dcs ds) ++[V.ref I])) u=some (.lst (cu (dcs (ds++[(I,%[m,d,g,r|ab])])))):=by
    rw[aa];unfold cu dcs;rw[Zc,Zc];rfl
   have cp:upd H6 u (.lst (cu (dcs ds) ++[V.ref I])) L3=some (.lst (ys.map λp=>V.ref p.1)):=by rw[am (Ne.symm bm)];exact a6 _ _ C
   have b2:upd H6 u (.lst (cu (dcs ds) ++[V.ref I])) th=some (.lst ((there d).map V.int)):=by rw[am dr];exact s6 _ _ dd
   have cs:bT (upd H6 u (.lst (cu (dcs ds) ++[V.ref I]))) (dcs (ds++[(I,%[m,d,g,r|ab])])):=by
    rw[show dcs (ds++[(I,%[m,d,g,r|ab])])=dcs ds++[(I,m,drawn d g r)] by unfold dcs;rw[Zc];rfl];exact((bp.up a6).snoc %[g6,bt|a8.cut]).keep tk
   have ct:dH (upd H6 u (.lst (cu (dcs ds) ++[V.ref I]))) ys:=(a3.up a6).keep tk
   generalize upd H6 u (.lst (cu (dcs ds) ++[V.ref I]))=H7 at cl co cp b2 cs ct
   have ai:ys.length<=8*i:=by
    have e:=congrArg List.length Y;rw[Z5,List.length_flatMap]at e;have:=qx (f:=λp:Addr×Drn=>(iu p.2).length) (B:=8) (xs:=ds) λp _=>by
     unfold iu;rw[Z5];exact kM _
    lia
   lk;refine .inl %[%[_|SqL.of b2]|hK _ _ (aX (xs:=(there d).map V.int) (λj M l=>∃o8,M=[!a,!u,!L3,some (.int i),-m,some (.int r),some (.str (nl.join (drawn d g r))),!th,o8,none,none]/\af H l/\l u=some (.lst (cu (dcs (ds++[(I,%[m,d,g,r|ab])]))))/\l th=some (.lst ((there d).map V.int))/\bT l (dcs (ds++[(I,%[m,d,g,r|ab])]))/\
    ∃zs:List (Addr×Str×Int),l L3=some (.lst ((ys++zs).map λp=>V.ref p.1))/\dH l (ys++zs)/\zs.map (·.2)=((there d).take j).map λa=>(dq m (sg a r),a))
    %[_,rfl,cl,co,b2,cs,[],by rw[Zw];exact cp,by rw[Zw];exact ct|rfl] (λj M l _ ⟨_,_,_,_,q,_⟩=>SqL.of q) ?_ ?_)]
   .rintro j x M H8 hx ⟨o8,rfl,s8,a0,a9,b3,zs,aj,b4,a1⟩;have hj:j<(there d).length:=by have:=(X7 hx).1;rwa[Z5]at this
    rw[Zk,Z4 hj]at hx;obtain rfl:x=V.int (there d)[j]:=(Z9 hx).symm;have cx:=eO.mp (Y7 hj);show jE _ _ [!a,!u,!L3,some (.int i),-m,some (.int r),some (.str (nl.join (drawn d g r))),!th,some (.int (there d)[j]),none,none] H8;refine aB λD9 k9 _=>?_
    lk;have eg:=nH bt;have ea:∀a b:Str,(a++b).length=a.length+b.length:=λa b=>size_append
    have e1:(Str.ofString ".").length=1:=rfl;have zl:zs.length<=j:=by
     have:=congrArg List.length a1;rw[Z5,Z5,Ye]at this
     lia
    have tl:=kM d;refine%[.inl %[_|SqL.of aj],cm ⋯,_,_,rfl,bU,_,rfl,cm (by rw[ea,show(sgn (sg (there d)[j] r)).length=1 from rfl];lia),#[2]|λp hp=>?_];rw[xS];have s9:=af.upd (o:= .tup [V.str (dq m (sg (there d)[j] r)),V.int (there d)[j]]) hp;have g9:upd H8 p (.tup [V.str (dq m (sg (there d)[j] r)),V.int (there d)[j]]) p=_:=aa
    generalize upd H8 p (.tup [V.str (dq m (sg (there d)[j] r)),V.int (there d)[j]])=H9 at s9 g9
    have cy:=s9 _ _ aj;have cM:=mh (ys:=(ys++zs).map (λp=>V.ref p.1) ++[V.ref p]) cy;refine%[_,cy,by rw[Z5,Z8];exact az ⋯|k9 _ _ %[_,rfl,af.set (s8.trans s9) (s1.free a2),by rw[am bm];exact s9 _ _ a0,by rw[am dt];exact s9 _ _ a9,(b3.up s9).keep cM,zs++[(p,dq m (sg (there d)[j] r),(there d)[j])],?_,?_|?_]]
    .rw[aa,<-Zd,Zc (l₂:=[(p,dq m (sg (there d)[j] r),(there d)[j])])];rfl
    .rw[<-Zd];exact((b4.up s9).snoc %[g9,cx.1|cx.2.1]).keep cM
    .rw[Zc,a1,Yz,Z4 hj,Zc];rfl
   .rintro M H8 ⟨o8,rfl,s8,a0,a9,b3,zs,aj,b4,a1⟩;rw[Z5,Zm (Zh _)]at a1;refine k8 _ _ %[_,_,_,_,_,_,rfl,s8,ds++[(I,%[m,d,g,r|ab])],ys++zs,by rw[Z8,bn];rfl,a0,aj,b4,?_,b3,λp hp=>?_|?_]
    .rw[Zc,Y,a1,flatMap_append]
     congr 1
     rw[List.flatMap_singleton];rfl
    .rcases X8 hp with z|z
     .exact a4 p z
     .rw[X9 z];exact a8
    .rw[Zc,a5,range_succ,Zc];rw[b9];rfl
  .rintro M H3 ⟨o3,o4,o5,o6,o7,o8,rfl,s3,ds,ys,bn,v,C,a3,Y,bp,a4,a5⟩;refine k3 _ _ (ao λD4 k4 _=>?_);lk;refine%[_,keep _ s3,_,g0,c0,rfl,%[by decide|by decide],by decide|k4 _ _ (ao λD5 k5 _=>?_)];have m0:0<=c0/100%13:=by lia
   have dy:c0/100%13<=12:=by lia
   generalize c0/100%13=bb at m0 dy
   lk;refine%[X1 _|λL2 ae=>k5 _ _ (ao λD6 k6 _=>aw λas hK=>?_)];have dF:L2≠u:=λe=>by rw[e,v]at ae;cases ae
   have ej:L2≠L3:=λe=>by rw[e,C]at ae;cases ae
   have dK:=af.upd (o:= .lst []) ae;have dT:1<=ds.length:=by lia
   have dV:ds.length<=3:=by lia
   have ai:ys.length<=24/\1<=ys.length:=by
    have e:=congrArg List.length Y;rw[Z5,List.length_flatMap]at e;have:=qx (f:=λp:Addr×Drn=>(iu p.2).length) (B:=8) (xs:=ds) λp _=>by
     unfold iu;rw[Z5];exact kM _
    refine%[⋯|Nat.pos_of_ne_zero λz=>?_];have d0:ys=[]:=length_eq_zero_iff.mp z;rw[d0]at Y;have c1:0<ds.length:=by lia
    have hq:=a4 ds[0] (Y7 c1);have c2:=Ad hq.2.1 hq.2.2.2.1 hq.2.2.2.2.2;obtain⟨a',d1⟩:=List.exists_mem_of_ne_nil _ c2;have:(dq ds[0].2.name (sg a' ds[0].2.sh),a')∈ds.flatMap λp=>iu p.2:=mem_flatMap.mpr %[ds[0],Y7 c1|Xb %[a',d1|rfl]]
    rw[<-Y]at this;cases this
   have G:(ys.map λp=>p.2.1)=ds.flatMap λp=>(iu p.2).map (·.1):=by
    have e:=congrArg (List.map (·.1)) Y;rw[Yk,List.map_flatMap]at e;exact e
   lk;refine%[⋯,⋯|hK _ _ (eL (λi M l=>∃o3,M=[!a,!u,!L3,o3,o4,o5,o6,o7,o8,some (.int bb),!L2]/\af H3 l/\∃qs:ZM,l L2=some (.lst (qs.map λq=>V.ref q.1))/\qs.length=i/\cX l (ys.map λp=>p.2.1) qs)
    %[_,rfl,dK,[],aa,rfl|λq hq=>(nomatch hq)] ?_ ?_)]
   .rintro i M H4 ek ⟨o3,rfl,O,qs,L,c3,a7⟩;show jE _ _ [!a,!u,!L3,some (.int (0+i)),o4,o5,o6,o7,o8,some (.int bb),!L2] H4;rw[Int.zero_add];obtain⟨x1,d2,d3,el⟩:=get (19+2*(i:Int)) ⋯ ⋯;obtain⟨x2,d4,d7,en⟩:=get (20+2*(i:Int)) ⋯ ⋯;refine aB λD7 k7 _=>?_
    lk;refine%[.inl %[_|SqL.of L],.inl %[by decide|by decide],_,keep _ (s3.trans O),_,d2,.inl %[by decide|by decide],_,keep _ (s3.trans O),_,d4|?_];refine%[x1,x2,L3,ys,rfl,O _ _ C,a3.up O,ai.2,⋯,d3,d7|λt H5 eb U f5 h5 ec=>?_];have an:=U _ _ L;have c4:=mh (ys:=qs.map (λq=>V.ref q.1) ++[V.ref t]) an;lk;refine%[_,an,by rw[Z5];exact az ⋯|k7 _ _ %[_,rfl,af.set (O.trans U) ae,qs++[(t,eb)],by rw[aa,Zc];rfl,by rw[Z8,c3];rfl|λq hq=>?_]];rcases X8 hq with z|z
    .exact(((a7.up U).keep c4) q z)
    .rw[X9 z];exact%[c4 _ _ h5|ec]
   .rintro M H4 ⟨o3,rfl,O,qs,L,c3,a7⟩;refine k6 _ _ ?_;lk;refine aC λas hK=>?_
    lk;have al:=O _ _ C;refine .inl %[%[_|SqL.of al]|hK _ _ λN hN=>?_];refine aV (J:=Itl K L3) (n:=ys.length) (D:=N) (λj ts M l=>(∃o1 o2,M=[o1,o2])/\af H4 l/\l N=some (.lst ts)/\ts=((ys.take j).map λp=>p.2.1).map V.str)
     %[%[none,none|rfl],af.upd hN,aa|rfl]
     (λj _ _ l hj b5=>%[_,V.ref ys[j].1,SqL.of (b5.2.1 _ _ al)|by simp[hj]]) (λ_ _ l b5=>%[_,SqL.of (b5.2.1 _ _ al)|by simp]) ?_ ?_
    .rintro j ts M H5 hj ⟨⟨o1,o2,rfl⟩,U,ed,ht⟩ x H6 ⟨e2,hx⟩;subst e2;have c5:=hx _ (SqL.of (U _ _ al));rw[Zk,Z4 hj]at c5;obtain rfl:x=V.ref ys[j].1:=(Z9 c5).symm;refine%[_,SqT.of (U _ _ (O _ _ ((a3 ys[j] (Y7 hj)).1))),rfl,_,_,rfl,_,_,rfl,rfl|?_];show wA [some (.str ys[j].2.1),some (.int ys[j].2.2)] _ _;lk;refine CK.mk hj ed (by rw[ht,Z5,Z5,Ye];exact az ⋯) %[%[_,_|rfl],af.set U hN,aa|?_];rw[ht,Yz,Zc,Zc,Z4 hj];rfl
    rintro ts M H5 ⟨_,U,ee,ht⟩;rw[Zm (Zh _),G]at ht;refine%[#[3]|λt c7=>?_];have st:=af.upd (o:= .tup [V.ref u,V.ref L2,V.ref N]) c7;rw[G]at a7;have bf:=O _ _ v;refine kk t u L2 N _ ds qs (s3.trans (O.trans (U.trans st))) ((s3.trans (O.trans U)).free c7) bl (s3.free ae) ((s3.trans O).free hN) (Ne.symm dF) (λe=>by rw[<-e,bf]at hN;cases hN) (λe=>by rw[<-e,L]at hN;cases hN) aa (st _ _ (U _ _ bf)) (st _ _ (U _ _ L)) ?_ dT dV a4 ?_ (bp.up (O.trans (U.trans st))) (a7.up (U.trans st)) ⋯ (λp hp=>?_) (by rw[<-G,Z5];exact%[ai.2|ai.1])
    .rw[st _ _ ee,ht]
    .rw[a5,Yt,Yy];refine X3 (λ{x y} hx hy c2 he=>?_) (nodup_iff_pairwise_ne.mp (nodup_range (n:=(1+c0%3).toNat)));rw[mem_range]at hx hy;have:=Cj ⋯ ⋯ ⋯ ⋯ he
     lia
    .have:p.2.name∈ds.map λp=>p.2.name:=Xb %[p,hp|rfl]
     rw[a5]at this;obtain⟨k,_,e⟩:=Xa this;exact%[_|e.symm]
noncomputable def NmD(a:ZB)(f:Str->Str):List (Key×V):=a.map λz=>(Sum.inr z,V.str (f z))
theorem nK:∀{a:ZB},z∈a->bz (NmD a f) (Sum.inr z)=some (.str (f z))
 |[],h=>(nomatch h)
 | x::a,h=>by
   by_cases e:x=z
   .subst e;exact eR rfl
   .rw[show NmD _ f=(Sum.inr x,V.str _)::NmD a f from rfl,c9 (λq=>e (Sum.inr.inj q))];exact nK (by rcases mem_cons.mp h with q|q;exact(e q.symm).elim;exact q)
theorem Ap:((NmD b f).any λa=>decide (a.1=(Sum.inr z:Key)))=true↔z∈b:=by
 rw[List.any_eq_true]
 constructor
 .rintro⟨a,c,d⟩;obtain⟨x,e,rfl⟩:=Xa c
  simp_all
 .intro h;exact%[_,Xb %[z,h|rfl]|Ze rfl]
theorem Aq(h:z∈a):cJ (NmD a f) (Sum.inr z) (.str v)=NmD a (λx=>if x=z then v else f x):=by
 unfold cJ;rw[if_pos (Ap.mpr h)];unfold NmD;rw[Yk];refine Yi λx _=>?_
 show(if(Sum.inr x)=Sum.inr z then((Sum.inr x),V.str v)else(Sum.inr x,V.str _))=(Sum.inr x,V.str (if x=z then v else f x))
 by_cases e:x=z
 .rw[if_pos (congrArg _ e),if_pos e]
 .rw[if_neg (λq=>e (Sum.inr.inj q)),if_neg e]
theorem EW(h:z∉a):cJ (NmD a id) (Sum.inr z) (.str z)=NmD (a++[z]) id:=by
 unfold cJ;rw[if_neg (λq=>h (Ap.mp q))];unfold NmD;rw[Zc];rfl
noncomputable def Ar(a:ZB)(z:Str):Nat:=eA (a.map λu=>[u]) [z]
theorem At(b:x∈a)(h:bc x y=true):Ar a x<Ar a y:=by
 have:=iY (ks:=a.map λu=>[u]) (y:=[y]) (Xb %[x,b|rfl]);rw[m7,h]at this;exact Zn this.symm
def bh(qs:ZM)(a b:Str):Prop:=∃q∈qs,q.2=[.str "same",.str a,.str b]
theorem i8{S R:Str->Str->Prop}(F:bC c f r S)(h:∀a b,S a b↔R a b):bC c f r R:=by
 rw[funext λa=>funext λb=>(propext (h a b)).symm];exact F
def EX:Sp:=λvs H Q _=>∃d z a f r S,vs=[.ref d,.str z]/\H d=some (.dK (NmD a f))/\bC a f r S/\z∈a/\Q (.str (r z)) H
def Ck:Sp:=λvs H Q _=>∃d a b c f r S,vs=[.ref d,.str a,.str b]/\H d=some (.dK (NmD c f))/\bC c f r S/\a∈c/\b∈c/\c.length<=5000/\
 ∀e g,bC c e g (λx y=>S x y\/(x=a/\y=b))->Q .non (upd H d (.dK (NmD c e)))
theorem fA(T:Txt K mg):↥1 "least_pointed_to" ["names","layer"] EX:=by
 refine T.aA.cal eB (λH vs Q E h=>?_)
 .obtain⟨d,z,e,p,r,S,rfl,q,F,t,j⟩:=h;refine%[rfl|λf o A outer s i=>?_];refine%[_,(QSs.h (ah (gT PassesOwn.never (bA im rfl (cb i (λ_ _=>rfl) ↑0 ↑1) ↑1)
   (aq (aI 1 eB.nd rfl (cb i (λ_ _=>rfl) ↑0 ↑1))))
   (aq (aO ↑1))))|ao λv u _=>⟨λm l g=>∃y,l=[some _,-y]/\g=H/\y∈e/\r y=r z/\m=Ar e y,%[_,z,rfl,rfl,t,rfl|rfl],?_⟩]
  rintro m l g ⟨y,rfl,rfl,a,b,rfl⟩;lk;have g1:=by
   have:=bJ.k (k:=Sum.inr y) q;rw[nK a]at this;exact this
  refine%[_,g1,rfl|bi (λh=>?_) λh=>?_]
  .have h:=by simpa using h
   refine%[λc n=>c=[some _,some _]/\n=g,?_,_,g1,rfl|rfl];rintro c n ⟨rfl,rfl⟩;exact%[_,At (F.fin y a) (F.dec y a h),p y,rfl,rfl,F.fin y a,(F.rf y a).trans b|rfl]
  .refine u _ _ ?_;rw[<-b,F.fix y a (by simpa using h)]at j;exact j
theorem lX(T:Txt K mg):↥2 "join_deposits" ["names","one","other"] Ck:=by
 refine T.az.cal dC (λH vs Q E h=>?_)
 .obtain⟨d,a,b,c,p,r,S,rfl,g,F,i,j,n,o⟩:=h;refine%[rfl|λf m A outer s e=>?_];refine%[_,(QSs.h (ah (aI 3 dC.nd rfl (aG (fA T) e rfl #[↑0,↑1]))
   (ah (aI 4 dC.nd rfl (aG (fA T) e rfl #[↑0,↑2]))
   (aq (eY e rfl (cbO (Ey rfl) T.a0 boot_min rfl #[↑3,↑4]) ↑0 (cbO (Ex rfl) T.a1 PyProof.Rows.boot_max rfl #[↑3,↑4]))))))|?_]
  show aY _ _ _ [!d,-a,-b,none,none] H;refine ao λv q _=>?_
  lk;refine%[d,a,c,p,r,S,rfl,g,F,i|q _ _ (ao λy t _=>?_)];lk;refine%[d,b,c,p,r,S,rfl,g,F,j|t _ _ (aB λz u _=>?_)];lk;have J:=F.join i j rfl rfl;have l:(if bc (r a) (r b)=true then r b else r a)∈c:=by
   split
   .exact F.rin b j
   .exact F.rin a i
  generalize (if bc (r a) (r b)=true then r b else r a)=M at J l
  refine%[_,gE.k (k:=Sum.inr M) g (by unfold NmD;rw[Z5,PySem.sizeLine_eq];lia)|u _ _ ?_];rw[Aq l];exact o _ _ J
theorem va{qs:ZM}{q:Addr×ZL}(c:qs[i]? =some q)(a b:Str):bh (qs.take (i+1)) a b↔bh (qs.take i) a b\/q.2=[.str "same",.str a,.str b]:=by
 unfold bh;rw[Yz,c]
 simp_all
theorem ig{c:ZB}(d:c.Pairwise (λa b=>bc b a=false)){i:Nat}{z w:Str}(f:c[i]? =some z)(hw:w∈c)(h:bc w z=true):w∈c.take i:=by
 rw[<-X0 i c]at hw;rcases X8 hw with e|e
 .exact e
 .obtain⟨hi,g⟩:=X7 f;obtain⟨j,l,rfl⟩:=getElem_of_mem e;rw[List.getElem_drop]at h;rw[Ya]at l;by_cases m:j=0
  .subst m;rw[<-g]at h;simp only[add_zero]at h;rw[fH]at h;cases h
  .have:=List.pairwise_iff_getElem.mp d i (i+j) hi ⋯ ⋯
   grind
def Au(mg:ZC):Sp:=λvs H Q _=>∃g f h i qs c ts,vs=[.ref g]/\GrF mg H g f h i qs c ts/\c.Nodup/\c.Pairwise (λa b=>bc b a=false)/\c.length<=5000/\
 ∀d e r,af H e->H d=none->e d=some (.dK (NmD c r))->(∀z∈c,r z∈c/\dm (bh qs) z (r z))->Q (.ref d) e
theorem nL{H:Hp}{g b c d:Addr}{qs:List _}{e:ZB}{ts:List _}{m:Str}{R:Prop}(h:GrF mg H g b c d qs e ts)(f:m="layers"\/m="sayings"\/m="ties")(k:R):∃a fs,H g=some (.ins (cr mg "Ground") a fs)/\List.lookup m fs=none/\R:=by
 obtain⟨a,j,i⟩:=h.at_;exact⟨a,_,i,by rcases f with rfl|rfl|rfl<;> rfl,k⟩
theorem gB(T:Txt K mg):↥3 "names_by_layer" ["ground"] (Au mg):=by
 refine T.ay.cal bg (λH vs Q E h=>?_)
 .obtain⟨g,c2,c3,c4,qs,j,ts,rfl,hg,nd,so,an,kk⟩:=h;refine%[rfl|λf as A outer s J=>?_];have lm:(j.map V.str).length=j.length:=Z5 _;have qm:(qs.map λq=>V.ref q.1).length=qs.length:=Z5 _;refine%[_,(QSs.h (ah (aI 1 bg.nd rfl fG)
   (ah (cq PassesOwn.never rfl rfl (bW (K:=K) rfl (sO (d9 T) T.bA J rfl rfl ↑0)) (aJ 2 bg.nd rfl)
   (aq (eY J rfl ↑2 ↑1 ↑2)))
   (ah (cq PassesOwn.never rfl rfl (bW (K:=K) rfl (sO (lj T) T.bA J rfl rfl ↑0)) (fP (K:=K) rfl rfl rfl (gsE rfl (aJ 3 bg.nd rfl) (gsE rfl (aJ 4 bg.nd rfl) (gsE rfl (aJ 5 bg.nd rfl) cL))))
   (aq (ifS (bA dQ rfl ↑3 fW)
    (aq (bD rfl (aG (lX T) J rfl #[↑1,↑4,↑5])))
    bw)))
   (ah (cq PassesOwn.never rfl rfl (bW (K:=K) rfl (sO (d9 T) T.bA J rfl rfl ↑0)) (aJ 2 bg.nd rfl)
   (aq (eY J rfl (cb J (λ_ _=>rfl) ↑1 (cb J (λ_ _=>rfl) ↑1 ↑2)) ↑1 ↑2)))
   (aq (aO ↑1)))))))|?_]
  show aY _ _ _ [!g,none,none,none,none,none] H;refine ao λD1 k1 _=>?_
  lk;intro d hd;refine k1 _ _ (ao λD2 k2 _=>aw λL hK=>?_);have s1:=af.upd (o:= .dK []) hd;have Y:upd H d (.dK []) d=some (.dK (NmD (j.take 0) id)):=aa
  generalize upd H d (.dK [])=H1 at s1 Y
  lk;have ab:=hg.up s1;refine nL ab (.inl rfl) %[g,c2,c3,c4,qs,j,ts,rfl,ab|λl1 N=> .inl %[l1,rfl,%[_|SqL.of aa]|hK _ _ ?_]];have s2:=af.upd (o:= .lst (j.map V.str)) N;have ae:upd H1 l1 (.lst (j.map V.str)) l1=_:=aa;have n1:l1≠d:=λe=>by rw[e,Y]at N;cases N
  have Y:=s2 _ _ Y
  generalize upd H1 l1 (.lst (j.map V.str))=H2 at s2 ae Y
  refine aX (xs:=j.map V.str) (λi n l=>(∃p t u v,n=[!g,!d,p,t,u,v])/\af H l/\l l1=some (.lst (j.map V.str))/\l d=some (.dK (NmD (j.take i) id)))
   %[%[_,_,_,_|rfl],s1.trans s2,ae|Y] (λi n l _ h=>SqL.of h.2.2.1) ?_ ?_
  .rintro i x n l M ⟨⟨p,t,u,v,rfl⟩,m,I,c⟩;rw[Zk]at M;obtain⟨z,B,rfl⟩:=map_eq_some_iff.mp M;show jJ _ _ _ _ [!g,!d,-z,t,u,v] l;refine aB λD3 k3 _=>?_
   lk;have zn:z∉j.take i:=λhm=>by
    have h:=nd;rw[<-X0 i j,Ys]at h;exact h.2.2 z hm z (Z7 (i:=0) ((getElem?_drop)▸B)) rfl
   refine%[_,gE.k (k:=Sum.inr z) c (by unfold NmD;rw[Z5,Ye,PySem.sizeLine_eq];lia)|k3 _ _ %[%[_,_,_,_|rfl],af.set m hd,(am n1).trans I|?_]];rw[aa,EW zn,Yz,B];rfl
  rintro n H3 ⟨⟨p,t,u,v,rfl⟩,m,I,c⟩;rw[lm,Zm (Zh _)]at c;refine k2 _ _ (ao λD4 k4 _=>aw λL hK=>?_);lk;have ag:=hg.up m;refine nL ag (.inr (.inl rfl)) %[g,c2,c3,c4,qs,j,ts,rfl,ag|λl2 O=> .inl %[l2,rfl,%[_|SqL.of aa]|hK _ _ ?_]];have s4:=af.upd (o:= .lst (qs.map λq=>V.ref q.1)) O;have ai:upd H3 l2 (.lst (qs.map λq=>V.ref q.1)) l2=_:=aa;have n2:l2≠d:=λe=>by rw[e,c]at O;cases O
  have c:=s4 _ _ c;have aj:=m.trans s4
  generalize upd H3 l2 (.lst (qs.map λq=>V.ref q.1))=H4 at s4 ai c aj
  refine aX (xs:=qs.map λq=>V.ref q.1) (λi n l=>(∃p t u v,n=[!g,!d,p,t,u,v])/\af H l/\l l2=some (.lst (qs.map λq=>V.ref q.1))/\∃f r,l d=some (.dK (NmD j f))/\bC j f r (bh (qs.take i)))
   %[%[_,_,_,_|rfl],aj,ai,id,id,c|i8 (bC.start j) λa b=>%[λh=>h.elim|λ⟨q,hq,_⟩=>(nomatch hq)]] (λi n l _ h=>SqL.of h.2.2.1) ?_ ?_
  .rintro i x n l M ⟨⟨p,t,u,v,rfl⟩,m,I,f,r,c,F⟩;rw[Zk]at M;obtain⟨q,hq,rfl⟩:=map_eq_some_iff.mp M;obtain⟨q1,q2⟩:=hg.sa q (Z7 hq);have st:=m _ _ q1;have C:=va hq;rcases q2 with⟨wd,a,b,e,hw,ha,hb,_⟩|⟨wd,a,y,e,hw,_⟩
   .rw[e]at st C;refine%[_,SqT.of st,rfl,_,_,rfl,_,_,rfl,_,_,rfl,rfl|?_];show jG _ _ _ _ [!g,!d,p,-wd,-a,-b] l;refine aB λD5 k5 _=>?_
    lk;refine bi (λh=>?_) λh=>?_
    .have h:wd=Str.ofString "same":=by simpa using h
     refine%[d,a,b,j,f,r,_,rfl,c,F,ha,hb,an|λf' r' F'=>k5 _ _ %[%[_,_,_,_|rfl],af.set m hd,(am n2).trans I,f',r',aa|i8 F' λx y=>?_]];rw[C,h];refine or_congr Iff.rfl %[λ⟨e1,e2⟩=>by rw[e1,e2]|λe=>?_];simp only[List.cons.injEq,V.str.injEq,and_true,true_and]at e;exact%[e.1.symm|e.2.symm]
    .have h:wd≠Str.ofString "same":=by simpa using h
     refine k5 _ _ %[%[_,_,_,_|rfl],m,I,f,r,c|i8 F λx y=>?_];rw[C];refine%[.inl|λe=>e.resolve_right λe=>h ?_];simp only[List.cons.injEq,V.str.injEq]at e;exact e.1
   .rw[e]at st C;refine%[_,SqT.of st,rfl,_,_,rfl,_,_,rfl,_,_,rfl,rfl|?_];show jG _ _ _ _ [!g,!d,p,-wd,-a,some (.int y)] l;refine aB λD5 k5 _=>?_
    lk;rw[if_neg (by rcases hw with rfl|rfl<;> decide)];refine k5 _ _ %[%[_,_,_,_|rfl],m,I,f,r,c|i8 F λx z=>?_];rw[C];refine%[.inl|λe=>e.resolve_right λe=>?_];simp at e
  rintro n H5 ⟨⟨p,t,u,v,rfl⟩,m,I,f,r,c,F⟩;rw[qm,Zm (Zh _)]at F;refine k4 _ _ (ao λD6 k6 _=>aw λL hK=>?_);lk;have al:=hg.up m;refine nL al (.inl rfl) %[g,c2,c3,c4,qs,j,ts,rfl,al|λl3 U=> .inl %[l3,rfl,%[_|SqL.of aa]|hK _ _ ?_]];have s6:=af.upd (o:= .lst (j.map V.str)) U;have n3:l3≠d:=λe=>by rw[e,c]at U;cases U
  have c:=s6 _ _ c;refine aX (xs:=j.map V.str) (λi n l=>(∃p t u v,n=[!g,!d,p,t,u,v])/\af H l/\l l3=some (.lst (j.map V.str))/\∃f,l d=some (.dK (NmD j f))/\bC j f r (bh qs)/\∀z∈j.take i,f z=r z)
   %[%[_,_,_,_|rfl],(m.trans s6),aa,f,c,F|λz B=>(nomatch B)] (λi n l _ h=>SqL.of h.2.2.1) ?_ ?_
  .rintro i x n l M ⟨⟨p,t,u,v,rfl⟩,m,I,f,c,F,G⟩;rw[Zk]at M;obtain⟨z,B,rfl⟩:=map_eq_some_iff.mp M;have zm:=Z7 B;show jJ _ _ _ _ [!g,!d,-z,t,u,v] l;refine aB λD7 k7 _=>?_
   lk;have get:=λy hy=>by
    have:=bJ.k (k:=Sum.inr y) c;rw[nK hy]at this;exact this
   refine%[_,get z zm,_,get _ (F.fin z zm),_,gE.k (k:=Sum.inr z) c (by unfold NmD;rw[Z5,PySem.sizeLine_eq];lia)|k7 _ _ %[%[_,_,_,_|rfl],af.set m hd,(am n3).trans I,_,?_,F.short zm|λy hy=>?_]]
   .rw[aa,Aq zm]
   .rw[Yz,B]at hy;by_cases e:y=z
    .rw[if_pos e,e];exact F.done zm λw hw h=>G w (ig so B hw h)
    .rw[if_neg e];rcases X8 hy with h|h
     .exact G y h
     .exact(e (X9 h)).elim
  rintro n H7 ⟨⟨p,t,u,v,rfl⟩,m,I,f,c,F,G⟩;rw[lm,Zm (Zh _)]at G;refine k6 _ _ ?_;lk;refine kk d H7 r m hd ?_ λz B=>%[F.rin z B|F.least B]
  rw[c];unfold NmD;rw[Yi λz B=>by rw[G z B]]
theorem FX{X:Cx}{K:ZA}{T id:String}(h:X.K=K)(l:PlainAttrs T)(slot:Slot T name id)(g:typeOf (.builtin id)=pure (.type "method_descriptor"))(m:MtQ X id r)
 (b:attributeBase o name X.env (eval o X.env)=eval o X.env) (a:(e::es).any ba=false) (i:Nat.blt (e::es).length 30=true) (c:(d.endLine==f.line)=true) (n:QE X o p) (q:QA X (e::es) t):
 QE X (.Call (.Attribute o name d) (e::es) [] f) (tBM K T r p t):=by
 have j:=a;rw[Zv,Yx]at j;refine⟨zg h l slot g m.h n.h q.h b ?_ c (aD j.1) (gG j.2)⟩;rw[qo a];have:decide ((e::es).length+([]:List Keyword).length+(if([]:List Keyword).isEmpty then 0 else 1)<30)=true:=Ze ((Nat.blt_eq.mp i));rw[this];rfl
noncomputable def grp(r:Str->Str)(xs:ZB):List (Str×ZB):=(xs.filter λz=>decide (r z=z)).map λz=>(z,xs.filter λx=>decide (r x=z))
theorem xT(h:∀z∈xs,r z=b z):grp r xs=grp b xs:=by
 unfold grp;rw[List.filter_congr λz a=>by rw[h z a]];refine Yi λz a=>?_
 rw[List.filter_congr λx c=>by rw[h x c]]
theorem Cl(a:r z=z)(b:z∉xs)(c:∀x∈xs,r x∈xs):grp r (xs++[z])=grp r xs++[(z,[z])]:=by
 unfold grp;rw[Zz,Zc];refine congr (congrArg _ (Yi λw hw=>?_)) ?_
 .have:w≠z:=λe=>b (e▸(List.mem_filter.mp hw).1)
  rw[Zz,Y0 (by rw[a];simpa using this.symm),Y2,Zw]
 .rw[Y1 (by rw[a];simp),Y2];show [(z,_)]=_;rw[Zz,Y1 (by rw[a];simp),Y2,List.filter_eq_nil_iff.mpr λx d=>?_]
  .rfl
  .intro e;exact b ((Zn e)▸c x d)
theorem Cm(a:r z≠z):grp r (xs++[z])=(grp r xs).map λp=>if p.1=r z then(p.1,p.2++[z])else p:=by
 unfold grp;rw[Zz,Y0 (by simpa using a),Y2,Zw,Yk];refine Yi λw hw=>?_
 show(w,_)=if w=r z then(w,_)else(w,_)
 rw[Zz];by_cases e:w=r z
 .rw[if_pos e,Y1 (by simpa using e.symm),Y2]
 .rw[if_neg e,Y0 (by simpa using λq=>e q.symm),Y2,Zw]
theorem i9:y∈(grp r xs).map (·.1)↔y∈xs/\r y=y:=by
 unfold grp
 simp_all
theorem ja(h:xs.Nodup):((grp r xs).map (·.1)).Nodup:=by
 unfold grp;rw[Yk,show((λx=>x.1) ∘ λz=>(z,List.filter _ xs))=id from rfl,map_id];exact h.filter _
def vU(S:Str->Str->Prop)(a:ZB)(ds:List ZB):Prop:=∃r:Str->Str,(∀z∈a,r z∈a/\dm S z (r z))/\ds=(grp r a).map (·.2)
theorem vU.one{S:Str->Str->Prop}(h:vU S b ds)(g:vU S b es):ds=es:=by
 obtain⟨r,c,rfl⟩:=h;obtain⟨d,g1,rfl⟩:=g;rw[xT λz a=>(c z a).2.one (g1 z a).2]
noncomputable abbrev Gs(a:Type):=List (Str×Addr×List a)
noncomputable def gD{a:Type}(b:Gs a):List (Key×V):=b.map λg=>(Sum.inr g.1,V.ref g.2.1)
theorem rj:∀{a:Gs b},y∉a.map (·.1)->bz (gD a) (Sum.inr y)=none
 |[],_=>rfl
 | g::a,h=>by
   rw[Yj,Yo,not_or]at h;rw[show gD _=(Sum.inr g.1,V.ref _)::gD a from rfl,c9 (λq=>h.1 (Sum.inr.inj q).symm)];exact rj h.2
theorem ii:∀{a:Gs d},bz (gD a) (Sum.inr y)=some v->∃g∈a,g.1=y/\v= .ref g.2.1
 |[],h=>(nomatch h)
 | g::a,h=>by
   rw[show gD _=(Sum.inr g.1,V.ref _)::gD a from rfl]at h;by_cases e:g.1=y
   .rw[eR (congrArg Sum.inr e)]at h;exact%[g,Zl,e|(Z9 h).symm]
   .rw[c9 (λq=>e (Sum.inr.inj q))]at h;obtain⟨g',b,c⟩:=ii h;exact%[g',Zj _ b|c]
theorem lq:∀{a:Gs b},g∈a->bz (gD a) (Sum.inr g.1)≠none
 | x::a,h,c=>by
   rw[show gD _=(Sum.inr x.1,V.ref _)::gD a from rfl]at c;by_cases e:x.1=g.1
   .rw[eR (congrArg Sum.inr e)]at c;cases c
   .rw[c9 (λq=>e (Sum.inr.inj q))]at c;rcases mem_cons.mp h with q|q
    .exact e (by rw[q])
    .exact lq q c
def mj(H:Hp)(a:ZG):Prop:=∀g∈a,H g.1=some (.lst (g.2.map V.str))
theorem mj.up{H a:Hp}{b:List _}(h:mj H b)(s:af H a):mj a b:=λg c=>s _ _ (h g c)
structure iQ {α:Type} (f:α->V) (H0 H:Hp) (d:Addr) (gs:Gs α):Prop where
 at_:H d=some (.dK (gD gs))
 la:∀g∈gs,H0 g.2.1=none/\H g.2.1=some (.lst (g.2.2.map f))
 nd:(gs.map (·.2.1)).Nodup
theorem Cn{f:Type}{c:Gs f}(d:(c.map (·.1)).Nodup){g h:Str×Addr×List f}(i:g∈c)(j:h∈c)(e:g.1=h.1):g=h:=by
 induction c with
 | nil=>cases i
 | cons x xs l=>
   rw[Yj,nodup_cons]at d;rcases mem_cons.mp i with a|a<;> rcases mem_cons.mp j with b|b
   .rw[a,b]
   .exact(d.1 (by rw[<-a,e];exact Xb %[_,b|rfl])).elim
   .exact(d.1 (by rw[<-b,<-e];exact Xb %[_,a|rfl])).elim
   .exact l d.2 a b
theorem Av{f:Type}{c:Gs f}(d:(c.map (·.2.1)).Nodup){g h:Str×Addr×List f}(i:g∈c)(j:h∈c)(e:g.2.1=h.2.1):g=h:=by
 induction c with
 | nil=>cases i
 | cons x xs l=>
   rw[Yj,nodup_cons]at d;rcases mem_cons.mp i with a|a<;> rcases mem_cons.mp j with b|b
   .rw[a,b]
   .exact(d.1 (by rw[<-a,e];exact Xb %[_,b|rfl])).elim
   .exact(d.1 (by rw[<-b,<-e];exact Xb %[_,a|rfl])).elim
   .exact l d.2 a b
noncomputable def oE{a:Type}(y:Str)(z:a)(b:Gs a):Gs a:=b.map λg=>if g.1=y then(g.1,g.2.1,g.2.2++[z])else g
theorem EY(y:Str)(z:b)(a:Gs b):gD (oE y z a)=gD a:=by
 unfold oE gD;rw[Yk];refine Yi λg _=>?_
 show(Sum.inr (if g.1=y then(g.1,g.2.1,g.2.2++[z])else g).1,V.ref (if g.1=y then(g.1,g.2.1,g.2.2++[z])else g).2.1)=_
 split<;> rfl
theorem EZ(y:Str)(z:b)(a:Gs b):(oE y z a).map (·.2.1)=a.map (·.2.1):=by
 unfold oE;rw[Yk];refine Yi λg _=>?_
 show(if g.1=y then(g.1,g.2.1,g.2.2++[z])else g).2.1=_
 split<;> rfl
theorem E3(y:Str)(z:b)(a:Gs b):(oE y z a).map (λg=>(g.1,g.2.2))=(a.map λg=>(g.1,g.2.2)).map λp=>if p.1=y then(p.1,p.2++[z])else p:=by
 unfold oE;rw[Yk,Yk];refine Yi λg _=>?_
 show((if g.1=y then(g.1,g.2.1,g.2.2++[z])else g).1,(if g.1=y then(g.1,g.2.1,g.2.2++[z])else g).2.2)=if g.1=y then(g.1,g.2.2++[z])else(g.1,g.2.2)
 split<;> rfl
theorem iQ.up{a:Type}{f:a->V}{b H c:Hp}{d:Addr}{e:Gs a}(h:iQ f b H d e)(s:af H c):iQ f b c d e:=%[s _ _ h.at_,λg i=>%[(h.la g i).1|s _ _ (h.la g i).2]|h.nd]
theorem iQ.add{a:Type}{f:a->V}{l H:Hp}{d:Addr}{b:Gs a}(h:iQ f l H d b)(m:(b.map (·.1)).Nodup){g:Str×Addr×List a}(c:g∈b)(z:a):iQ f l (upd H g.2.1 (.lst (g.2.2.map f++[f z]))) d (oE g.1 z b):=by
 refine%[?_,λg' j=>?_|by rw[EZ];exact h.nd]
 .rw[EY,am (λe=>by have:=(h.la g c).2;rw[<-e,h.at_]at this;cases this)];exact h.at_
 .obtain⟨n,i,rfl⟩:=Xa j;by_cases e:n.1=g.1
  .rw[if_pos e];obtain rfl:=Cn m i c e;refine%[(h.la _ c).1|?_];rw[aa,Zc];rfl
  .rw[if_neg e];refine%[(h.la _ i).1|?_];rw[am (λq=>e (by rw[Av h.nd i c q]))];exact(h.la _ i).2
theorem iQ.new{l:Gs n}(h:iQ f m H d l)(s:af m H)(j:H e=none)(y:Str)(z:n)(o:y∉l.map (·.1)):iQ f m (upd (upd (upd H e (.lst [])) d (.dK (cJ (gD l) (Sum.inr y) (.ref e)))) e (.lst [f z])) d (l++[(y,e,[z])]):=by
 refine%[?_,λg i=>?_|?_]
 .rw[am (λq=>by rw[<-q,h.at_]at j;cases j),aa,dP _ (rj o)];unfold gD;rw[Zc];rfl
 .rcases X8 i with i|i
  .refine%[(h.la g i).1|?_];have q:=(h.la g i).2;rw[am (λc=>by rw[c,j]at q;cases q),am (λc=>by rw[c,h.at_]at q;cases q),am (λc=>by rw[c,j]at q;cases q)];exact q
  .rw[X9 i];exact%[s.free j|aa]
 .rw[Zc,Ys];refine%[h.nd,by simp|λa p b r c=>?_];obtain⟨g,i,rfl⟩:=Xa p;have q:=(h.la g i).2
  simp_all
def Co(mg:ZC):Sp:=λvs H Q _=>∃g e f h qs c ts,vs=[.ref g]/\GrF mg H g e f h qs c ts/\c.Nodup/\c.Pairwise (λa b=>bc b a=false)/\c.length<=5000/\
 ∀l d ss,af H d->H l=none->d l=some (.lst (ss.map λt=>V.ref t.1))->mj d ss->(∀s∈ss,H s.1=none)->vU (bh qs) c (ss.map (·.2))->ss.length<=5000->Q (.ref l) d
def sp_dep(mg:ZC):Sp:=λvs H Q _=>∃g e f h qs c ts z,vs=[.ref g,.str z]/\GrF mg H g e f h qs c ts/\c.Nodup/\c.Pairwise (λa b=>bc b a=false)/\c.length<=5000/\z∈c/\
 ∀d m,af H d->dm (bh qs) z m->Q (.str m) d
theorem nM(T:Txt K mg):↥4 "deposits" ["ground"] (Co mg):=by
 refine T.aB.cal fI (λH vs Q E h=>?_)
 .obtain⟨g,c2,c3,c4,qs,n,ts,rfl,hg,nd,so,al,kk⟩:=h;refine%[rfl|λf a6 A outer s C=>?_];have lm:(n.map V.str).length=n.length:=Z5 _;refine%[_,(QSs.h (ah (aI 1 fI.nd rfl (aG (gB T) C rfl #[↑0]))
   (ah (aI 2 fI.nd rfl fG)
   (ah (cq PassesOwn.never rfl rfl (bW (K:=K) rfl (sO (d9 T) T.bA C rfl rfl ↑0)) (aJ 3 fI.nd rfl)
   (aq (bD rfl (FX (K:=K) rfl plainAttrs_list PySem.F.slot_list_append PySem.F.type_list_append aP rfl rfl rfl rfl (bmO (K:=K) plainAttrs_dict PySem.F.slot_dict_setdefault PySem.F.type_dict_setdefault jX rfl ↑2 #[(cb C (λ_ _=>rfl) ↑1 ↑3),cj ap]) #[↑3]))))
   (aq (aO (ctO (BW rfl) T.a5 boot_list rfl #[(FI (K:=K) rfl plainAttrs_dict PySem.F.slot_dict_values PySem.F.type_dict_values zT rfl rfl ↑2)])))))))|?_]
  show aY _ _ _ [!g,none,none,none] H;refine ao λD1 k1 _=>?_
  lk;refine%[g,c2,c3,c4,qs,n,ts,rfl,hg,nd,so,al|λd H1 r s1 fd I C=>k1 _ _ (ao λD2 k2 _=>?_)];lk;intro e fe;refine k2 _ _ (ao λD3 k3 _=>aw λa5 hK=>?_);have an:d≠e:=λc=>by rw[c,fe]at I;cases I
  have s2:=af.upd (o:= .dK []) fe;have ge:upd H1 e (.dK []) e=some (.dK (gD ([]:Gs Str))):=aa;have I:=s2 _ _ I;have fe:=s1.free fe;have U:=s1.trans s2
  generalize upd H1 e (.dK [])=H2 at s2 ge I U
  lk;have ab:=hg.up U;refine nL ab (.inl rfl) %[g,c2,c3,c4,qs,n,ts,rfl,ab|λl1 as=> .inl %[l1,rfl,%[_|SqL.of aa]|hK _ _ ?_]];have s3:=af.upd (o:= .lst (n.map V.str)) as;have J:upd H2 l1 (.lst (n.map V.str)) l1=_:=aa;have I:=s3 _ _ I;have ge:=s3 _ _ ge;have ae:=U.trans s3
  generalize upd H2 l1 (.lst (n.map V.str))=H3 at s3 J I ge ae
  have r2:∀z∈n,r (r z)=r z:=λz L=>by
   have h:=(C z L)
   have h2:=(C _ h.1).2;exact h2.one %[.refl _|λy c=>h.2.2 y (h.2.1.trans c)]
  have ag:∀z∈n,r z≠z->bc (r z) z=true:=λz L h=>gc ((C z L).2.2 z (.refl _)) h.symm
  obtain⟨M,a0,a1,a2,Y,s0⟩:∃M:Hp,M e=none/\M d=some (.dK (NmD n r))/\M l1=some (.lst (n.map V.str))/\af H M/\af M H3:=by
   refine%[λa=>if a=e then none else H3 a,if_pos rfl,?_,?_,λa o h=>?_|λa o h=>?_]
   .exact(if_neg (λc=>an c)).trans I
   .exact(if_neg (λc=>by rw[c,ge]at J;cases J)).trans J
   .exact(if_neg (λc=>by rw[c,fe]at h;cases h)).trans (ae _ _ h)
   .have h:(if a=e then none else H3 a)=some o:=h
    split at h
    .cases h
    .exact h
  refine aX (xs:=n.map V.str) (λi σ H'=>(∃o3,σ=[!g,!d,!e,o3])/\af M H'/\∃u,iQ V.str M H' e u/\u.map (λg=>(g.1,g.2.2))=grp r (n.take i))
   %[%[_|rfl],s0,[],%[ge,λg hg=>(nomatch hg)|Yu]|rfl] (λi σ H' _ h=>SqL.of (h.2.1 _ _ a2)) ?_ ?_
  .rintro i x σ H' hx ⟨⟨o3,rfl⟩,N,u,b,t⟩;rw[Zk]at hx;obtain⟨z,L,rfl⟩:=map_eq_some_iff.mp hx;have zm:=Z7 L;have i1:i<n.length:=(X7 L).1;show jE _ _ [!g,!d,!e,-z] H';refine aB λD4 k4 _=>?_
   lk;have get:=bJ.k (k:=Sum.inr z) (N _ _ a1);rw[nK zm]at get;have gk:u.map (·.1)=(grp r (n.take i)).map (·.1):=by rw[<-t,Yk];rfl
   have ai:(u.map (·.1)).Nodup:=by rw[gk];exact ja (nd.sublist (List.take_sublist _ _))
   have gl:u.length<=n.length:=by
    have:=STab.nodup_sub ai (m:=n) λy hy=>by rw[gk,i9]at hy;exact Yp hy.1
    rw[Z5]at this;exact this
   have zn:z∉n.take i:=λhm=>by
    have h:=nd;rw[<-X0 i n,Ys]at h;exact h.2.2 z hm z (Z7 (i:=0) (by rw[getElem?_drop];exact L)) rfl
   have tk:n.take (i+1)=n.take i++[z]:=by rw[Yz,L];rfl
   refine%[.inr (.inr (.inl (.inl %[_|b.at_]))),_,get,#[0]|λp O=>%[Sum.inr (r z),rfl,gD u,?_,?_,λv hv=>?_|λhv=>?_]]
   .rw[am (λc=>by rw[<-c,b.at_]at O;cases O)];exact b.at_
   .unfold gD;rw[Z5];exact az ⋯
   .obtain⟨q,B,e1,rfl⟩:=ii hv;have a3:q.1∈u.map (·.1):=Xb %[q,B|rfl];have aj:=a3;rw[gk,i9,e1]at aj;have rn:r z≠z:=λc=>zn (by exact c▸aj.1)
    have sp:=af.upd (o:= .lst []) O;have hl:=sp _ _ (b.la q B).2;have G:=(b.up sp).add ai B z;have ml:q.2.2.length<=n.length:=by
     have:(q.1,q.2.2)∈grp r (n.take i):=t▸Xb %[q,B|rfl];obtain⟨y,hy,c⟩:=Xa this;exact((Prod.mk.inj c).2)▸Y9 (Yb _ _) (by rw[Ye];lia)
    refine%[.inl %[_|SqL.of hl],_,rfl,_,hl,by rw[Z5];exact az ⋯|k4 _ _ %[%[_|rfl],af.set (N.trans sp) (b.la q B).1,_,G|?_]];rw[E3,t,tk,Cm rn,e1]
   .have nk:r z∉u.map (·.1):=λh=>by
     obtain⟨q,B,c⟩:=Xa h;have:=lq B;rw[c,hv]at this;exact this rfl
    have rz:r z=z:=Decidable.byContradiction λc=>nk (by rw[gk,i9];exact%[ig so L (C z zm).1 (ag z zm c)|r2 z zm])
    have de:e≠p:=λq=>by rw[<-q,b.at_]at O;cases O
    rw[rz]at hv nk ⊢;have gp:upd (upd H' p (.lst [])) e (.dK (cJ (gD u) (Sum.inr z) (.ref p))) p=some (.lst []):=by rw[am de.symm,aa]
    refine%[.inl %[_|SqL.of gp],[],gp,(show 0<sizeLine by decide)|k4 _ _ %[%[_|rfl],af.set (af.set (N.trans (af.upd O)) a0) (N.free O),_,b.new N O z z nk|?_]];rw[Zc,t,tk,Cl rz zn λx hx=>?_]
    .rfl
    .obtain⟨j,hj⟩:=List.mem_iff_getElem?.mp hx;have xm:=Yp hx;by_cases c:r x=x
     .rw[c];exact hx
     .have ji:j<i:=by have:=(X7 hj).1;rw[Ye]at this;lia
      rw[Y5 ji]at hj;exact List.take_subset_take_left _ (le_of_lt ji) (ig so hj (C x xm).1 (ag x xm c))
  rintro σ H' ⟨⟨o3,rfl⟩,N,u,b,t⟩;rw[lm,Zm (Zh _)]at t;refine k3 _ _ ?_;lk;have gk:u.map (·.1)=(grp r n).map (·.1):=by rw[<-t,Yk];rfl
  have gl:u.length<=n.length:=by
   have:=STab.nodup_sub (l:=u.map (·.1)) (gk▸ja nd) (m:=n) λy hy=>by rw[gk,i9]at hy;exact hy.1
   rw[Z5]at this;exact this
  refine%[.inr (.inr (.inl (.inl %[_|b.at_]))),%[_|b.at_]|λv fv=>%[e,aa,_,af.upd fv _ _ b.at_|λl fl=>?_]];have sv:=af.upd (o:=sF v e) fv;have sl:=af.upd (o:= .lst ((gD u).map (·.2))) fl;have a4:=N.trans (sv.trans sl);refine kk l _ (u.map (·.2)) (Y.trans a4) ((Y.trans (N.trans sv)).free fl) ?_ (λs hs=>?_) (λs hs=>?_) %[r,C|?_] (by rw[Z5];lia)
  .rw[aa];unfold gD;rw[Yk,Yk];rfl
  .obtain⟨q,B,rfl⟩:=Xa hs;exact sl _ _ (sv _ _ (b.la q B).2)
  .obtain⟨q,B,rfl⟩:=Xa hs;exact Y.free (b.la q B).1
  .rw[<-t,Yk,Yk];rfl
structure bv (S:Str->Str->Prop) (ks0 ks:List _):Prop where
 nd:ks.Nodup
 so:ks.Pairwise (λa b=>c8 b a=false)
 mem:∀k,k∈ks↔∃a b z a' b',[a,b,z]∈ks0/\dm S a a'/\dm S b b'/\k=[a',b',z]
theorem bv.one{S:Str->Str->Prop}(h:bv S c ks)(g:bv S c d):ks=d:=
 np c8 (λ_ _ a b=>kJ a b) h.so g.so h.nd g.nd λx=>(h.mem x).trans (g.mem x).symm
noncomputable def vb(r:Str->Str):ZB->ZB
 |[a,b,z]=>[r a,r b,z]
 | k=>k
theorem vc{S:Str->Str->Prop}{c:List _}{l:ZB}{r:Str->Str}(m:∀k∈c,du l k)(f:∀z∈l,dm S z (r z))(k:ZB):k∈c.map (vb r)↔∃a b z g h,[a,b,z]∈c/\dm S a g/\dm S b h/\k=[g,h,z]:=by
 rw[mem_map]
 constructor
 .rintro⟨t,d,rfl⟩;obtain⟨a,b,z,rfl,i,j⟩:=m t d;exact%[a,b,z,r a,r b,d,f a i,f b j|rfl]
 .rintro⟨a,b,z,g,h,d,n,o,rfl⟩;obtain⟨x,y,u,e,i,j⟩:=m _ d;simp only[List.cons.injEq,and_true]at e;obtain⟨rfl,rfl,rfl⟩:=e;exact%[_,d|by rw[<-(f a i).one n,<-(f b j).one o];rfl]
def Aw(mg:ZC):Sp:=λvs H Q _=>∃g e f h qs c ts,vs=[.ref g]/\GrF mg H g e f h qs c ts/\c.Nodup/\c.Pairwise (λa b=>bc b a=false)/\c.length<=5000/\ts.length<=62/\(∀k∈ts.map (·.2),du c k)/\
 ∀l d ss,af H d->H l=none->d l=some (.lst (ss.map λt=>V.ref t.1))->bd d ss->bv (bh qs) (ts.map (·.2)) (ss.map (·.2))->ss.length<=62->Q (.ref l) d
theorem rp(T:Txt K mg):↥4 "links" ["ground"] (Aw mg):=by
 refine T.aD.cal sV (λH vs Q E h=>?_)
 .obtain⟨g,c2,c3,c4,qs,ls,ts,rfl,hg,nd,so,ab,a2,h3,kk⟩:=h;refine%[rfl|λf a1 A outer s v=>?_];refine%[_,(QSs.h (ah (kC 1 sV.nd rfl Z1 Z0 rfl (aG (gB T) v rfl #[↑0]))
   (aq (aO (cbO (pI (P:=P) (w:=w) rfl rfl rfl) T.a7 boot_sorted rfl #[(ctO (zK (K:=K) (P:=P) (w:=w) rfl rfl rfl rfl v) T.a6 boot_set rfl #[(cZ (ay.of (show bq (ak mf) ["ground","names"] _ ["later","earlier","source","names"] [(3,1)]=true from by decide +kernel)) rfl rfl (bW (K:=K) rfl (sO (oC T) T.bA v rfl rfl ↑0)) (λ_ _ _=>(fP (K:=K) rfl rfl rfl (gsE rfl (aJ 0 (show(["later","earlier","source","names"]:ZB).Nodup from by decide +kernel) rfl) (gsE rfl (aJ 1 (show(["later","earlier","source","names"]:ZB).Nodup from by decide +kernel) rfl) (gsE rfl (aJ 2 (show(["later","earlier","source","names"]:ZB).Nodup from by decide +kernel) rfl) cL))))) (λ_ _ _=>jr) (λ_ _ _=>(jN #[(cb v (λ_ _=>rfl) (bP 3 rfl) ↑0),(cb v (λ_ _=>rfl) (bP 3 rfl) ↑1),↑2])))])])))))|?_]
  show aY _ _ _ [!g,none] H;refine ao λD1 k1 _=>?_
  lk;refine%[g,c2,c3,c4,qs,ls,ts,rfl,hg,nd,so,ab|λd H1 r s1 fd hd v=>k1 _ _ ?_];lk;refine aC λa0 hK=>?_
  lk;have B:=hg.up s1;refine nL B (.inr (.inr rfl)) %[g,c2,c3,c4,qs,ls,ts,rfl,B|λL ae=> .inl %[L,rfl,%[_|SqL.of aa]|hK _ _ λF hF=>?_]];have s2:=af.upd (o:= .lst (ts.map λt=>V.ref t.1)) ae;have u:upd H1 L (.lst (ts.map λt=>V.ref t.1)) L=_:=aa
  generalize upd H1 L (.lst (ts.map λt=>V.ref t.1))=H2 at s2 u hF
  have ag:=s2 _ _ hd;have ai:=(B.up s2).tu;refine aV (J:=Itl K L) (n:=ts.length) (D:=F) (λj vs σ M=>(∃o1 o2 o3,σ=[o1,o2,o3,!d])/\af H2 M/\M F=some (.lst vs)/\∃ps:ZG,vs=ps.map (λp=>V.ref p.1)/\bd M ps/\ps.map (·.2)=((ts.take j).map (·.2)).map (vb r))
   %[%[none,none,none|rfl],af.upd hF,aa,[],rfl,iP _|rfl] (λj _ _ M G C=>%[_,V.ref ts[j].1,SqL.of (C.2.1 _ _ u)|by simp[G]]) (λ_ _ M C=>%[_,SqL.of (C.2.1 _ _ u)|by simp]) ?_ ?_
  .rintro j vs σ H3 G ⟨⟨o1,o2,o3,rfl⟩,I,N,ps,hv,i,c⟩ x H4 ⟨e2,hx⟩;subst e2;have O:=hx _ (SqL.of (I _ _ u));rw[Zk,Z4 G]at O;obtain rfl:x=V.ref ts[j].1:=(Z9 O).symm;have tj:=Y7 G;obtain⟨a,b,z,e,ha,hb⟩:=h3 _ (Xb %[_,tj|rfl]);have st:=I _ _ (ai _ tj).2;rw[e]at st;have get:∀y∈ls,bJ H4 d (.str y) (some (.str (r y))):=λy hy=>by
    have:=bJ.k (k:=Sum.inr y) (I _ _ ag);rw[nK hy]at this;exact this
   refine%[_,SqT.of st,rfl,_,_,rfl,_,_,rfl,_,_,rfl,rfl|?_];show wA [-a,-b,-z,!d] _ _;lk;refine%[_,get a ha,_,get b hb,#[3]|λp hp=>?_];have sp:=af.upd (o:= .tup [V.str (r a),V.str (r b),V.str z]) hp;have gp:upd H4 p (.tup [V.str (r a),V.str (r b),V.str z]) p=_:=aa;have pl:=congrArg List.length c;rw[Z5,Z5,Z5,Ye]at pl;refine CK.mk G (sp _ _ N) (by rw[hv,Z5];exact az ⋯) %[%[_,_,_|rfl],af.set (I.trans sp) hF,aa,ps++[(p,[r a,r b,z])],by rw[hv,Zc];rfl,aW (i7 (aW i λb z e=>sp _ _ e) ∅ gp) (mh (ys:=vs++[V.ref p]) (sp _ _ N))|?_];rw[Zc,c,Yz,Z4 G,Zc,Zc];show _++[_]=_++[vb r ts[j].2];rw[e];rfl
  rintro vs σ H3 ⟨_,I,aj,ps,hv,i,c⟩;rw[Zm (Zh _)]at c;have pl:=congrArg List.length c;rw[Z5,Z5,Z5]at pl;have p3:∀q∈ps,q.2.length=3:=λq l=>by
   have:q.2∈ps.map (·.2):=Xb %[q,l|rfl];rw[c]at this;obtain⟨k,hk,e⟩:=Xa this;obtain⟨a,b,z,rfl,_⟩:=h3 k hk;rw[<-e];rfl
  refine%[F,rfl,ps,hv▸SqL.of aj,i,%[ps.map (·.2),by rw[Z5];lia|λq l=>Xb %[q,l|rfl]]|λl5 al=>?_];have s5:=af.upd (o:=m4 P w l5 (be ps)) al;have an:(be ps).length<=62:=by
   have:=STab.nodup_sub (dI ps) (m:=ps.map (·.2)) λk hk=>by
    obtain⟨q,l,rfl⟩:=Xa hk;exact Xb %[q,bo ps q l|rfl]
   rw[Z5,Z5]at this
   lia
  refine%[be ps,aa,λq l=>%[(i q (bo ps q l)).1|s5 _ _ (i q (bo ps q l)).2],3,λq l=>p3 q (bo ps q l),by decide,⋯|λl6 ss U pm as=>?_];have s6:=af.upd (o:= .lst (ss.map λq=>V.ref q.1)) U;have Y:=s1.trans (s2.trans (I.trans s5));have pk:(ss.map (·.2)).Perm ((be ps).map (·.2)):=pm.map _;refine kk l6 _ ss (Y.trans s6) (Y.free U) aa (λq l=>?_) %[pk.nodup_iff.mpr (dI ps),by rw[Yy];exact as|λk=>?_] (pm.length_eq▸an)
  .have:=i q (bo ps q (pm.mem_iff.mp l));exact%[this.1|s6 _ _ (s5 _ _ this.2)]
  .rw[pk.mem_iff,gQ,c];exact vc h3 (λz hz=>(v z hz).2) k
theorem tt{S:Str->Str->Prop}(d:c.Pairwise (λa b=>bc b a=false))(h:∀z∈c,r z∈c/\dm S z (r z))(i:p∈grp r c):p.2[0]? =some p.1:=by
 obtain⟨z,j,rfl⟩:=Xa i;obtain⟨l,m⟩:=List.mem_filter.mp j;have f:z∈c.filter (λx=>decide (r x=z)):=List.mem_filter.mpr %[l|m];have d:=d.sublist (List.filter_sublist (p:=λx=>decide (r x=z)));have all:∀x∈c.filter (λx=>decide (r x=z)),bc x z=false:=λx n=>by
  obtain⟨o,s⟩:=List.mem_filter.mp n;exact(Zn s)▸(h x o).2.2 x (.refl _)
 show(c.filter _)[0]? =some z
 generalize c.filter _=g at all f d
 cases g with
 | nil=>cases f
 | cons y g=>
   rw[List.getElem?_cons_zero];rcases mem_cons.mp f with e|e
   .rw[e]
   .have a:=(List.pairwise_cons.mp d).1 z e;by_cases q:y=z
    .rw[q]
    .have:=gc (all y Zl) q
     grind
structure jn (S:Str->Str->Prop) (ls ns:ZB):Prop where
 nd:ns.Nodup
 mem:∀x,x∈ns↔x∈ls/\dm S x x
def xU(mg:ZC):Sp:=λvs H Q _=>∃g f h i qs c ts,vs=[.ref g]/\GrF mg H g f h i qs c ts/\c.Nodup/\c.Pairwise (λa b=>bc b a=false)/\c.length<=5000/\
 ∀l d e,af H d->H l=none->d l=some (.lst (e.map V.str))->jn (bh qs) c e->Q (.ref l) d
theorem bN(T:Txt K mg):↥5 "deposit_names" ["ground"] (xU mg):=by
 refine T.aC.cal kP (λH vs Q E h=>?_)
 .obtain⟨g,C,G,I,qs,b,ts,rfl,hg,nd,L,q,kk⟩:=h;refine%[rfl|λf ab A outer s d=>?_];refine%[_,(QSs.h (aq (aO (cZ (ay.of (show bq (ak cT) ["ground"] _ ["group"] []=true from by decide +kernel)) rfl rfl (bW (K:=K) rfl (aG (nM T) d rfl #[↑0])) (λ_ _ _=>(aJ 0 (show(["group"]:ZB).Nodup from by simp) rfl)) (λ_ _ _=>jr) (λ_ _ _=>(↑0*>av))))))|?_];show jF _ _ [!g] H;lk;refine aC λM hK=>?_
  lk;refine%[g,C,G,I,qs,b,ts,rfl,hg,nd,L,q|λN H1 ss O f1 o la _ ⟨r,d,U⟩ ae=> .inl %[N,rfl,%[_|SqL.of o]|hK _ _ λF t=>?_]];have sg:ss.length=(grp r b).length:=by
   have:=congrArg List.length U;rwa[Z5,Z5]at this
  refine aV (J:=Itl K N) (n:=ss.length) (D:=F) (λj vs u p=>(∃Y,u=[Y])/\af H1 p/\p F=some (.lst vs)/\vs=(((grp r b).take j).map (·.1)).map V.str)
   %[%[none|rfl],af.upd t,aa|rfl] (λj _ _ p c a=>%[_,V.ref ss[j].1,SqL.of (a.2.1 _ _ o)|by simp[c]]) (λ_ _ p a=>%[_,SqL.of (a.2.1 _ _ o)|by simp]) ?_ ?_
  .rintro j vs u H3 c ⟨⟨Y,rfl⟩,e,v,i⟩ x H4 ⟨y,hx⟩;subst y;have l:=hx _ (SqL.of (e _ _ o));rw[Zk,Z4 c]at l;obtain rfl:x=V.ref ss[j].1:=(Z9 l).symm;have B:j<(grp r b).length:=by lia
   have y:ss[j].2=(grp r b)[j].2:=by
    have:=congrArg (λz=>z[j]?) U;simpa [c,B]using this
   lk;refine%[_,SqL.of (e _ _ (la _ (Y7 c))),_,(show atI (ss[j].2.map V.str) ((0:Nat):Int)=some _ from cF (by rw[Zk,y,(tt L d (Y7 B))];rfl))|?_];refine CK.mk c v (by rw[i,Z5,Z5,Ye];exact az ⋯) %[%[_|rfl],af.set e t,aa|?_];rw[i,Yz,Z4 B,Zc,Zc];rfl
  rintro vs u H3 ⟨_,e,m,i⟩;rw[Zm ⋯]at i;rw[i]at m;refine kk F H3 _ (O.trans e) (O.free t) m %[ja nd|λx=>?_];rw[i9];refine%[λh=>%[h.1|by have:=(d x h.1).2;rwa[h.2]at this]|λh=>%[h.1|(d x h.1).2.one h.2]]
def GrB(H:Hp)(d:Addr)(ss:ZG)(i:Nat):Prop:=∃a,H d=some (.dK a)/\∀n,(∃l,bz a (Sum.inr n)=some (.ref l)/\H l=some (.lst ((ss.filter λt=>decide (t.2[i]? =some n)).map λt=>V.ref t.1)))\/(bz a (Sum.inr n)=none/\∀t∈ss,t.2[i]? ≠some n)
theorem GrB.up(h:GrB H d ss i)(s:af H e):GrB e d ss i:=by
 obtain⟨c,f,g⟩:=h;exact%[c,s _ _ f|λn=>(g n).imp_left λ⟨l,a,b⟩=>%[l,a|s _ _ b]]
def c6(H:Hp)(a:ZB)(ss:ZG):Prop:=∀t∈ss,H t.1=some (.tup (t.2.map V.str))/\du a t.2
theorem c6.up(h:c6 H b ss)(s:af H c):c6 c b ss:=λt a=>%[s _ _ (h t a).1|(h t a).2]
theorem E4(h:du c k)(hi:i<2):∃n,k[i]? =some n/\n∈c:=by
 obtain⟨a,b,z,rfl,d,e⟩:=h
 match i,hi with
 | 0,_=>exact%[a,rfl|d]
 | 1,_=>exact%[b,rfl|e]
def vd:Sp:=λvs H Q _=>∃(l:Addr) (i:Nat) (b:ZB) (ss:List _),vs=[.ref l,.int i]/\i<2/\H l=some (.lst (ss.map λt=>V.ref t.1))/\c6 H b ss/\ss.length<=62/\∀d a,af H a->H d=none->GrB a d ss i->Q (.ref d) a
def C3(i:Nat):Sp:=λvs H Q _=>∃l b ss,vs=[.ref l]/\H l=some (.lst (ss.map λt=>V.ref t.1))/\c6 H b ss/\ss.length<=62/\∀d a,af H a->H d=none->GrB a d ss i->Q (.ref d) a
theorem pS(T:Txt K mg):↥1 "grouped" ["found","side"] vd:=by
 refine T.aH.cal jx (λH vs Q E h=>?_)
 .obtain⟨l,i,ns,ss,rfl,hi,U,Y,aj,kk⟩:=h;refine%[rfl|λf ai A outer s hr=>?_];have ab:(ss.map λt=>V.ref t.1).length=ss.length:=Z5 _;refine%[_,(QSs.h (ah (aI 2 jx.nd rfl fG)
   (ah (cq PassesOwn.never rfl rfl (bW (K:=K) rfl ↑0) (aJ 3 jx.nd rfl)
   (aq (bD rfl (FX (K:=K) rfl plainAttrs_list PySem.F.slot_list_append PySem.F.type_list_append aP rfl rfl rfl rfl (bmO (K:=K) plainAttrs_dict PySem.F.slot_dict_setdefault PySem.F.type_dict_setdefault jX rfl ↑2 #[(↑3>>↑1),cj ap]) #[↑3]))))
   (aq (aO ↑2)))))|?_]
  show aY _ _ _ [!l,some (.int i),none,none] H;refine ao λD1 k1 _=>?_
  lk;intro e fe;refine k1 _ _ (ao λD2 k2 _=>aw λag hK=>?_);lk;have se:=af.upd (o:= .dK []) fe;refine .inl %[%[_|SqL.of (se _ _ U)]|hK _ _ ?_];refine aX (xs:=ss.map λt=>V.ref t.1) (λj σ u=>(∃o3,σ=[!l,some (.int i),!e,o3])/\af H u/\∃m,iQ (λt:Addr×ZB=>V.ref t.1) H u e m/\(m.map (·.1)).Nodup/\(∀g∈m,g.2.2=(ss.take j).filter λt=>decide (t.2[i]? =some g.1))/\∀n,n∈m.map (·.1)↔∃t∈ss.take j,t.2[i]? =some n)
   %[%[_|rfl],se,[],%[aa,λg B=>(nomatch B)|Yu],Yu,λg B=>(nomatch B)|by simp] (λj σ u _ h=>SqL.of (h.2.1 _ _ U)) ?_ ?_
  .rintro j x σ u hx ⟨⟨o3,rfl⟩,G,m,d,gn,I,N⟩;rw[Zk]at hx;obtain⟨t,J,rfl⟩:=map_eq_some_iff.mp hx;have tm:=Z7 J;have j1:j<ss.length:=(X7 J).1;obtain⟨n,L,_⟩:=E4 (Y t tm).2 hi;have tk:ss.take (j+1)=ss.take j++[t]:=by rw[Yz,J];rfl
   show jE _ _ [!l,some (.int i),!e,some (.ref t.1)] u;refine aB λD4 k4 _=>?_
   lk;have gl:m.length<=ss.length:=by
    have:m.map (·.1) ⊆ ss.filterMap λt=>t.2[i]? :=λy hy=>by
     obtain⟨t,J,e⟩:=(N y).mp hy;exact mem_filterMap.mpr %[t,Yp J|e]
    have:=STab.nodup_sub gn λx hx=>this hx
    rw[Z5]at this;exact Y9 this (List.length_filterMap_le _ _)
   have st:=G _ _ (Y t tm).1;have keys:∀(M:Gs (Addr×ZB)),(∀y,y∈M.map (·.1)↔y∈m.map (·.1)\/y=n)->∀y,y∈M.map (·.1)↔∃t∈ss.take (j+1),t.2[i]? =some y:=λM h y=>by
    rw[h,N,tk]
    constructor
    .rintro(⟨t',h1,h2⟩|rfl)
     .exact%[t',Ym _ h1|h2]
     .exact%[t,Yn _ Zl|L]
    .rintro⟨t',h1,h2⟩;rcases X8 h1 with q|q
     .exact .inl %[t',q|h2]
     .rw[X9 q,L]at h2;exact .inr (Z9 h2).symm
   refine%[.inr (.inr (.inl (.inl %[_|d.at_]))),_,SqT.of st,_,cF (show(t.2.map V.str)[i]? =some (.str n) by rw[Zk,L];rfl),#[0]|λp C=>%[Sum.inr n,rfl,gD m,?_,?_,λv O=>?_|λO=>?_]]
   .rw[am (λc=>by rw[<-c,d.at_]at C;cases C)];exact d.at_
   .unfold gD;rw[Z5];exact az ⋯
   .obtain⟨q,r,e1,rfl⟩:=ii O;have sp:=af.upd (o:= .lst []) C;have U:=sp _ _ (d.la q r).2;have ml:q.2.2.length<=ss.length:=by
     rw[I q r];exact Y9 (Yb _ _) (by rw[Ye];lia)
    have ka:(oE q.1 t m).map (·.1)=m.map (·.1):=by
     unfold oE;rw[Yk];refine Yi λg _=>?_
     show(if g.1=q.1 then(g.1,g.2.1,g.2.2++[t])else g).1=_
     split<;> rfl
    refine%[.inl %[_|SqL.of U],_,rfl,_,U,by rw[Z5];exact az ⋯|k4 _ _ %[%[_|rfl],af.set (G.trans sp) (d.la q r).1,_,((d.up sp).add gn r t),ka▸gn,λg B=>?_|keys _ λy=>?_]]
    .unfold oE at B;obtain⟨g0,h0,rfl⟩:=Xa B;rw[tk,Zz];by_cases c:g0.1=q.1
     .rw[if_pos c];show g0.2.2++[t]=_++List.filter (λt=>decide (t.2[i]? =some g0.1)) [t];rw[I g0 h0,Y1 (by rw[L,c,e1];simp),Y2]
     .rw[if_neg c,I g0 h0,Y0 (by rw[L,<-e1];simpa using λz=>c z.symm),Y2,Zw]
    .rw[ka];exact%[.inl|λh=>h.elim id λh=>by rw[h,<-e1];exact Xb %[q,r|rfl]]
   .have nk:n∉m.map (·.1):=λh=>by
     obtain⟨q,r,c⟩:=Xa h;have:=lq r;rw[c,O]at this;exact this rfl
    have de:e≠p:=λq=>by rw[<-q,d.at_]at C;cases C
    have gp:upd (upd u p (.lst [])) e (.dK (cJ (gD m) (Sum.inr n) (.ref p))) p=some (.lst []):=by rw[am de.symm,aa]
    refine%[.inl %[_|SqL.of gp],[],gp,(show 0<sizeLine by decide)|k4 _ _ %[%[_|rfl],af.set (af.set (G.trans (af.upd C)) fe) (G.free C),_,d.new G C n t nk,?_,λg B=>?_|keys _ λy=>?_]]
    .rw[Zc,Ys];exact%[gn,by simp|λa ha b hb c=>nk (by rw[<-show b=n from X9 hb,<-c];exact ha)]
    .rw[tk,Zz];rcases X8 B with q|q
     .have c:g.1≠n:=λc=>nk (c▸Xb %[g,q|rfl])
      rw[I g q,Y0 (by rw[L];simpa using λz=>c z.symm),Y2,Zw]
     .rw[X9 q];show [t]=_++List.filter (λt=>decide (t.2[i]? =some n)) [t];rw[Y1 (by rw[L];simp),Y2,List.filter_eq_nil_iff.mpr λt' ae c=>nk ((N n).mpr %[t',ae|Zn c])];rfl
    .rw[Zc,Yl,Yj,map_nil,Yq]
  .rintro σ u ⟨⟨o3,rfl⟩,G,m,d,gn,I,N⟩;rw[ab,Zm (Zh _)]at I N;refine k2 _ _ ?_;lk;refine kk e u G fe %[_,d.at_|λn=>?_];cases O:bz (gD m) (Sum.inr n)with
   | none=>
     refine .inr %[rfl|λt J c=>?_];obtain⟨q,r,c⟩:=Xa ((N n).mpr %[t,J|c]);have:=lq r;rw[c,O]at this;exact this rfl
   | some v=>
     obtain⟨q,r,e1,rfl⟩:=ii O;refine .inl %[_,rfl|?_];rw[(d.la q r).2,I q r,e1]
theorem cH(T:Txt K mg):↥2 "links_by_later" ["found"] (C3 0):=by
 refine T.aE.cal j5 (λH vs Q E h=>?_)
 .obtain⟨l,c,ss,rfl,g,a,b,i⟩:=h;refine%[rfl|λf d A outer s e=>?_];exact%[_,(QSs.h (aq (aO (aG (pS T) e rfl #[↑0,gvE T.al rfl rfl])))),l,0,c,ss,rfl,by simp,g,a,b|i]
theorem jC(T:Txt K mg):↥2 "links_by_earlier" ["found"] (C3 1):=by
 refine T.aG.cal jc (λH vs Q E h=>?_)
 .obtain⟨l,c,ss,rfl,g,a,b,i⟩:=h;refine%[rfl|λf d A outer s e=>?_];exact%[_,(QSs.h (aq (aO (aG (pS T) e rfl #[↑0,gvE T.am rfl rfl])))),l,1,c,ss,rfl,by simp,g,a,b|i]
structure ReB (ss:ZG) (rs:Gs Str):Prop where
 nd:(rs.map (·.1)).Nodup
 sub:∀r∈rs,r.2∈ss/\r.2.2[1]? =some r.1
theorem ReB.len(h:ReB ss rs):rs.length<=ss.length:=by
 have:=STab.nodup_sub h.nd (m:=ss.filterMap λt=>t.2[1]?) λx a=>by
  obtain⟨r,b,rfl⟩:=Xa a;exact mem_filterMap.mpr %[r.2|h.sub r b]
 rw[Z5]at this;exact Y9 this (List.length_filterMap_le _ _)
theorem ReB.snoc(h:ReB ss rs)(d:(a,[p,y,z])∈ss)(e:y∉rs.map (·.1)):ReB ss (rs++[(y,a,[p,y,z])]):=by
 refine%[?_|λr f=>?_]
 .rw[Zc,Ys];exact%[h.nd,by simp|λa g b i c=>e (by rw[<-show b=y from X9 i,<-c];exact g)]
 .rcases X8 f with q|q
  .exact h.sub r q
  .rw[X9 q];exact%[d|rfl]
def cD(d:Addr)(H a:Hp):Prop:=∀b o,b≠d->H b=some o->a b=some o
theorem cD.trans(h:cD d H c)(g:cD d c a):cD d H a:=λb o n e=>g b o n (h b o n e)
theorem cD.of(h:af H a):cD d H a:=λb o _ e=>h b o e
theorem GrB.x(h:GrB H b ss i)(s:cD d H f)(n:b≠d)(m:H d=some (.dK o)):GrB f b ss i:=by
 obtain⟨e,g,j⟩:=h;exact%[e,s _ _ n g|λn=>(j n).imp_left λ⟨l,a,b⟩=>%[l,a|s _ _ (λc=>by lia) b]]
theorem c6.x(h:c6 H e ss)(s:cD d H f)(g:H d=some (.dK i)):c6 f e ss:=λt a=>%[s _ _ (λc=>by have b:=(h t a).1;grind) (h t a).1|(h t a).2]
theorem GrB.get(h:GrB f b ss i)(s:cD d f H)(nb:b≠d)(q:∀xs,f d≠some (.lst xs))(r:H p=none)(n:Str):∃e a,upd H p (.lst []) b=some (.dK e)/\(bz e (Sum.inr n)).getD (.ref p)= .ref a/\upd H p (.lst []) a=some (.lst ((ss.filter λt=>decide (t.2[i]? =some n)).map λt=>V.ref t.1))/\(a=p\/∃o,f a=some o):=by
 obtain⟨e,m,u⟩:=h;have sp:=af.upd (o:= .lst []) r;rcases u n with⟨l,g,j⟩|⟨g,v⟩
 .exact%[e,l,sp _ _ (s _ _ nb m),by rw[g];rfl,sp _ _ (s _ _ (λc=>q _ (c▸j)) j)|.inr %[_|j]]
 .refine%[e,p,sp _ _ (s _ _ nb m),by rw[g];rfl,?_|.inl rfl];rw[List.filter_eq_nil_iff.mpr λt y c=>v t y (Zn c)];exact aa
def Cp:Sp:=λvs H Q _=>∃(b e d:Addr) (c F:ZB) (ss:List _) (rs:Gs Str),vs=[.ref b,.ref e,.ref d]/\b≠d/\GrB H b ss 0/\c6 H c ss/\ss.length<=62/\H e=some (.lst (F.map V.str))/\H d=some (.dK (gD rs))/\ReB ss rs/\
 ∀g a new,cD d H a->H g=none->a g=some (.lst ((new.map (·.1)).map V.str))->a d=some (.dK (gD (rs++new)))->ReB ss (rs++new)->(∀r∈new,∃p∈F,r.2.2[0]? =some p)->(∀x∈F,∀y,Ed (ss.map (·.2)) x y->y∈(rs++new).map (·.1))->Q (.ref g) a
theorem tw(T:Txt K mg):↥1 "next_edge" ["beneath","edge","reached"] Cp:=by
 refine T.aK.cal eE (λH vs Q E h=>?_)
 .obtain⟨b,e,d,ns,F,ss,rs,rfl,aj,hb,al,bl,he,hd,a5,kk⟩:=h;refine%[rfl|λf bf A outer s hr=>?_];have Fm:(F.map V.str).length=F.length:=Z5 _;have ed:e≠d:=λc=>by rw[c,hd]at he;cases he
  refine%[_,(QSs.h (ah (aI 3 eE.nd rfl (cj ap))
   (ah (cq PassesOwn.never rfl rfl (bW (K:=K) rfl ↑1) (aJ 4 eE.nd rfl)
   (aq (cq PassesOwn.never rfl rfl (bW (K:=K) rfl (bmO (K:=K) plainAttrs_dict slot_dict_get type_dict_get sH rfl ↑0 #[↑4,cj ap])) (aJ 5 eE.nd rfl)
    (aq (ifS (eD hr rfl (↑5>>(gvE T.am rfl rfl)) ↑2)
     (ah (eY hr rfl ↑5 ↑2 (↑5>>(gvE T.am rfl rfl)))
      (aq (bD rfl (bmO (K:=K) plainAttrs_list PySem.F.slot_list_append PySem.F.type_list_append aP rfl ↑3 #[(↑5>>(gvE T.am rfl rfl))]))))
     bw)))))
   (aq (aO ↑3)))))|?_]
  show aY _ _ _ [!b,!e,!d,none,none,none] H;refine ao λD1 k1 _=>?_
  lk;refine%[#[0]|λg fg=>k1 _ _ (ao λD2 k2 _=>aw λan hK=>?_)];have gd:g≠d:=λc=>by rw[c,hd]at fg;cases fg
  have s1:=af.upd (o:= .lst []) fg;have gg:upd H g (.lst []) g=some (.lst ((([]:Gs Str).map (·.1)).map V.str)):=aa
  generalize upd H g (.lst [])=H1 at s1 gg
  lk;refine .inl %[%[_|SqL.of (s1 _ _ he)]|hK _ _ ?_];refine aX (xs:=F.map V.str) (λi Y H'=>(∃o4 o5,Y=[!b,!e,!d,!g,o4,o5])/\cD d H H'/\∃new:Gs Str,H' g=some (.lst ((new.map (·.1)).map V.str))/\H' d=some (.dK (gD (rs++new)))/\ReB ss (rs++new)/\(∀r∈new,∃p∈F,r.2.2[0]? =some p)/\∀x∈F.take i,∀y,Ed (ss.map (·.2)) x y->y∈(rs++new).map (·.1))
   %[%[_,_|rfl],cD.of s1,[],gg,by rw[Zw];exact s1 _ _ hd,by rw[Zw];exact a5,λr hr=>(nomatch hr)|λx C=>(nomatch C)] (λi Y H' _ h=>SqL.of (h.2.1 _ _ ed he)) ?_ ?_
  .rintro i x Y H' C ⟨⟨o4,o5,rfl⟩,sm,new,hg,l,L,ai,m⟩;rw[Zk]at C;obtain⟨n,hn,rfl⟩:=map_eq_some_iff.mp C;have tk:F.take (i+1)=F.take i++[n]:=by rw[Yz,hn];rfl
   show yA _ _ _ _ [!b,!e,!d,!g,-n,o5] H';refine aB λD3 k3 _=>aw λan hK=>?_
   lk;refine%[.inr (.inr (.inl (.inl %[_|sm _ _ aj hb.choose_spec.1]))),#[0]|λp hp=>?_];obtain⟨a6,a,as,a7,M,a8⟩:=hb.get sm aj (λxs c=>by rw[hd]at c;cases c) hp n;have ag:a≠g:=by
    rcases a8 with rfl|⟨o,ho⟩
    .exact λc=>by rw[c,hg]at hp;cases hp
    .exact λc=>by rw[c,fg]at ho;cases ho
   have ad:a≠d:=λc=>by
    have:=M;rw[c,am (λc=>by rw[c,hp]at l;cases l),l]at this;cases this
   have sp:=af.upd (o:= .lst []) hp;have hg:=sp _ _ hg;have l:=sp _ _ l;have sm:=sm.trans (cD.of sp)
   generalize upd H' p (.lst [])=H2 at as M sp hg l sm ⊢
   generalize a0:(ss.filter λt=>decide (t.2[0]? =some n))=ts at M
   have tm:(ts.map λt=>V.ref t.1).length=ts.length:=Z5 _;have a9:∀t∈ts,t∈ss/\∃y z,t.2=[n,y,z]:=λt ht=>by
    rw[<-a0]at ht;obtain⟨h1,h2⟩:=List.mem_filter.mp ht;obtain⟨x,y,z,e,_⟩:=(al t h1).2;have h2:=Zn h2;rw[e]at h2;exact%[h1,y,z|by rw[e,show x=n from Z9 h2]]
   refine%[Sum.inr n,rfl,a6,as|.inl %[a,a7,%[_|SqL.of M]|hK _ _ ?_]];refine aX (xs:=ts.map λt=>V.ref t.1) (λj Y U=>(∃o5,Y=[!b,!e,!d,!g,-n,o5])/\cD d H U/\U a=some (.lst (ts.map λt=>V.ref t.1))/\∃new:Gs Str,U g=some (.lst ((new.map (·.1)).map V.str))/\U d=some (.dK (gD (rs++new)))/\ReB ss (rs++new)/\(∀r∈new,∃p∈F,r.2.2[0]? =some p)/\(∀x∈F.take i,∀y,Ed (ss.map (·.2)) x y->y∈(rs++new).map (·.1))/\∀t∈ts.take j,∀y,t.2[1]? =some y->y∈(rs++new).map (·.1))
    %[%[_|rfl],sm,M,new,hg,l,L,ai,m|λt ht=>(nomatch ht)] (λj Y U _ h=>SqL.of h.2.2.1) ?_ ?_
   .rintro j x Y U C ⟨⟨o5,rfl⟩,N,O,new,ab,I,B,G,u,ae⟩;rw[Zk]at C;obtain⟨t,ht,rfl⟩:=map_eq_some_iff.mp C;obtain⟨a1,y,z,et⟩:=a9 t (Z7 ht);have J:=(al.x N hd t a1).1;rw[et]at J;have bb:ts.take (j+1)=ts.take j++[t]:=by rw[Yz,ht];rfl
    show jG _ _ _ _ [!b,!e,!d,!g,-n,some (.ref t.1)] U;refine aB λD4 k4 _=>?_
    lk;refine%[_,SqT.of J,_,rfl,_,bJ.k (k:=Sum.inr y) I|?_];have a2:∀(nw:Gs Str),(∀x∈(rs++new).map (·.1),x∈(rs++nw).map (·.1))->y∈(rs++nw).map (·.1)->(∀x∈F.take i,∀y,Ed (ss.map (·.2)) x y->y∈(rs++nw).map (·.1))/\∀t∈ts.take (j+1),∀y,t.2[1]? =some y->y∈(rs++nw).map (·.1):=λnw mono hy=>by
     refine%[λx C y h=>mono y (u x C y h)|λt' a3 y' h=>?_];rw[bb]at a3;rcases X8 a3 with q|q
     .exact mono y' (ae t' q y' h)
     .rw[X9 q,et]at h;rw[<-show y=y' from Z9 h];exact hy
    cases hv:bz (gD (rs++new)) (Sum.inr y)with
    | some v=>
      rw[if_neg ∅];obtain⟨q,hq,e1,_⟩:=ii hv;obtain⟨n1,n2⟩:=a2 new (λ_ h=>h) (by rw[<-e1];exact Xb %[q,hq|rfl]);exact k4 _ _ %[%[_|rfl],N,O,new,ab,I,B,G,n1|n2]
    | none=>
      rw[if_pos (by rfl)];have hy:y∉(rs++new).map (·.1):=λh=>by
       obtain⟨q,hq,c⟩:=Xa h;have:=lq hq;rw[c,hv]at this;exact this rfl
      have ln:=B.len;have nl:new.length<=62:=by rw[Z8]at ln;lia
      refine%[_,SqT.of J,_,rfl,_,gE.k (k:=Sum.inr y) I (by unfold gD;rw[Z5];exact az ⋯)|?_];rw[dP _ hv];have e1:gD (rs++new) ++[(Sum.inr y,V.ref t.1)]=gD (rs++(new++[(y,t.1,[n,y,z])])):=by
       unfold gD;rw[<-Zd,Zc (l₂:=[_])];rfl
      rw[e1];have u1:∀c o,c≠d->U c=some o->upd U d (.dK (gD (rs++(new++[(y,t.1,[n,y,z])])))) c=some o:=λc o h e=>(am h)▸e
      have a4:=u1 _ _ gd ab;have R:=B.snoc (p:=n) (y:=y) (z:=z) (a:=t.1) (et▸a1) hy;rw[Zd]at R;obtain⟨n1,n2⟩:=a2 (new++[(y,t.1,[n,y,z])]) (λx C=>by rw[<-Zd,Zc];exact Ym _ C) (by rw[<-Zd,Zc];exact Yn _ Zl);refine%[.inl %[_|SqL.of a4],_,SqT.of (u1 _ _ (λc=>by rw[c,I]at J;cases J) J),_,rfl,_,a4,by rw[Z5,Z5];exact az ⋯|k4 _ _ %[%[_|rfl],λc o h e=>?_,(am ag).trans (u1 _ _ ad O),_,?_,(am gd.symm).trans aa,R,?_,n1|n2]]
      .rw[am (ar e fg)];exact u1 _ _ h (N _ _ h e)
      .rw[aa,Zc,Zc];rfl
      .intro r hr;rcases X8 hr with q|q
       .exact G r q
       .rw[X9 q];exact%[n,Z7 hn|rfl]
   .rintro Y U ⟨⟨o5,rfl⟩,N,O,new,ab,I,B,G,u,ae⟩;rw[tm,Zm (Zh _)]at ae;refine k3 _ _ %[%[_,_|rfl],N,new,ab,I,B,G|λx C y ⟨z,hy⟩=>?_];rw[tk]at C;rcases X8 C with q|q
    .exact u x q y %[z|hy]
    .rw[X9 q]at hy;obtain⟨t,ht,et⟩:=Xa hy;exact ae t (a0▸List.mem_filter.mpr %[ht|by rw[et];simp]) y (by rw[et];rfl)
  .rintro Y H' ⟨⟨o4,o5,rfl⟩,sm,new,hg,l,L,ai,m⟩;rw[Fm,Zm (Zh _)]at m;refine k2 _ _ ?_;lk;exact kk g H' new sm fg hg l L ai m
theorem pT{b:Bool}(h: ¬ (not b)=true):b=true:=by
 cases b
 .exact absurd rfl h
 .rfl
theorem lr{rs:Gs Str}{y:Str}(h:y∈rs.map (·.1)):∃r∈rs,r.1=y/\bz (gD rs) (Sum.inr y)=some (.ref r.2.1):=by
 cases b:bz (gD rs) _ with
 | none=>
   obtain⟨q,a,c⟩:=Xa h;have:=lq a;rw[c,b]at this;exact(this rfl).elim
 | some v=>
   obtain⟨q,a,e,rfl⟩:=ii b;exact%[q,a,e|rfl]
def E5:Sp:=λvs H Q _=>∃d st a e F ss rs c k,vs=[.ref d,.str st,.str a]/\H d=some (.dK (gD rs))/\ReB ss rs/\Lev (ss.map (·.2)) st rs c k F/\k<=100/\c6 H e ss/\a∈rs.map (·.1)/\
 ∀l b (ws:List _),af H b->H l=none->b l=some (.lst (ws.map λt=>V.ref t.1))->(∀t∈ws,t∈ss)->Wal (ws.map (·.2)) st a->ws.length=c a->Q (.ref l) b
theorem Ax(T:Txt K mg):↥1 "way_to" ["reached","start","goal"] E5:=by
 refine T.aL.cal pO (λH vs Q E h=>?_)
 .obtain⟨d,st,a,ns,F,ss,rs,i,k,rfl,hd,C,l,hk,G,n,kk⟩:=h;refine%[rfl|λf ab A outer s j=>?_];refine%[_,(QSs.h (ah (aI 3 pO.nd rfl (cj #[(cb j (λ_ _=>rfl) ↑0 ↑2)]))
   (ah (gT PassesOwn.never (bA im rfl ((↑3*>(nX av))>>(gvE T.al rfl rfl)) ↑1)
   (aq (bD rfl (bmO (K:=K) plainAttrs_list PySem.F.slot_list_append PySem.F.type_list_append aP rfl ↑3 #[(cb j (λ_ _=>rfl) ↑0 ((↑3*>(nX av))>>(gvE T.al rfl rfl)))]))))
   (aq (aO (zW rfl rfl T.a9 rfl T.a5 rfl ↑3))))))|?_]
  show aY _ _ _ [!d,-st,-a,none] H;refine ao λD1 k1 _=>?_
  lk;obtain⟨r,I,e1,hv⟩:=lr n;have get:=bJ.k (k:=Sum.inr a) hd;rw[hv]at get;refine%[_,get,#[1]|λb fw=>k1 _ _ (ao λD2 k2 _=>?_)];have s1:=af.upd (o:= .lst [V.ref r.2.1]) fw;have gw:upd H b (.lst [V.ref r.2.1]) b=some (.lst (([]:ZG).reverse.map (λt=>V.ref t.1) ++[V.ref r.2.1])):=aa
  generalize upd H b (.lst [V.ref r.2.1])=H1 at s1 gw
  refine⟨λm σ u=>σ=[!d,-st,-a,!b]/\af H u/\∃(us:ZG) (r:Str×Addr×ZB),r∈rs/\m=i r.1/\u b=some (.lst (us.reverse.map (λt=>V.ref t.1) ++[.ref r.2.1]))/\(∀t∈us,t∈ss)/\Wal (us.map (·.2)) r.1 a/\us.length+m=i a,%[_,rfl,s1,[],r,I,rfl,gw,λt h=>(nomatch h),e1|by rw[e1];simp],?_⟩;rintro m σ H2 ⟨rfl,v,us,r,j,rfl,hw,y,B,hl⟩;obtain⟨ae,p,z,J,hp⟩:=l.by_ r j;have e:=(C.sub r j).1;have g:=v _ _ (G _ e).1;rw[J]at g;have gl:=l.le a n;lk;refine%[_,SqL.of hw,_,iA _ _,_,rfl,_,SqT.of g,_,rfl,rfl|bi (λh=>?_) λh=>?_]
  .have h:p≠st:=by simpa using h
   obtain⟨_,L,ag⟩:=hp.resolve_left λc=>h c.1
   obtain⟨r',M,N,O⟩:=lr L;have get:=bJ.k (k:=Sum.inr p) (v _ _ hd);rw[O]at get;refine⟨λU u=>∃Y,Y<i r.1/\U=[!d,-st,-a,!b]/\af H u/\∃(us:ZG) (r:Str×Addr×ZB),r∈rs/\Y=i r.1/\u b=some _/\(∀t∈us,t∈ss)/\Wal (us.map (·.2)) r.1 a/\us.length+Y=i a,λ_ _ h=>h,.inl %[_|SqL.of hw],_,SqL.of hw,_,iA _ _,_,rfl,_,SqT.of g,_,rfl,_,get,_,hw,by rw[Z8,Z5,List.length_reverse,Yd];exact az ⋯,_,?_,rfl,af.set v fw,r.2::us,r',M,rfl,?_,?_,?_,?_⟩
   .rw[N];lia
   .rw[aa,List.reverse_cons,Zc];rfl
   .intro t ht;rcases mem_cons.mp ht with q|q
    .exact q▸e
    .exact y t q
   .exact%[r.1,z,J.trans (by rw[N])|B]
   .rw[Zq,N];lia
  .have h:p=st:=by simpa using h
   refine k2 _ _ ?_;lk;refine%[_,hw|λq fq=>kk q _ (r.2::us) (v.trans (af.upd fq)) (v.free fq) ?_ (λt ht=>?_) %[r.1,z,J.trans (by rw[h])|B] (by rw[Zq];lia)]
   .rw[aa,List.reverse_append,<-List.map_reverse,List.reverse_reverse];rfl
   .rcases mem_cons.mp ht with q|q
    .exact q▸e
    .exact y t q
def Ay:Sp:=λvs H Q _=>∃b st a d ss,vs=[.ref b,.str st,.str a]/\GrB H b ss 0/\c6 H d ss/\ss.length<=62/\(∀c,af H c-> ¬ Rch (ss.map (·.2)) st a->Q .non c)/\∀l c (ws:List _),af H c->H l=none->c l=some (.lst (ws.map λt=>V.ref t.1))->(∀t∈ws,t∈ss)->Sho (ss.map (·.2)) st a (ws.map (·.2))->ws.length<=100->Q (.ref l) c
def FY(H:Hp)(b d:Addr)(st a:Str)(ss:ZG)(m:Nat)(f:L2.St)(c:Hp):Prop:=∃e F rs g k,f=[!b,-st,-a,!d,!e]/\af H c/\c e=some (.lst (F.map V.str))/\c d=some (.dK (gD rs))/\ReB ss rs/\Lev (ss.map (·.2)) st rs g k F/\k<=rs.length+1/\(F≠[]->k<=rs.length)/\m=2*(62-rs.length) +F.length.min 1
theorem nN(T:Txt K mg):↥2 "shortest_way" ["beneath","start","goal"] Ay:=by
 refine T.aJ.cal cU (λH vs Q E h=>?_)
 .obtain⟨b,st,i,ns,ss,rfl,hb,G,ae,kn,ky⟩:=h;refine%[rfl|λf a0 A outer s C=>?_];refine%[_,(QSs.h (ah (aI 3 cU.nd rfl fG)
   (ah (aI 4 cU.nd rfl (cj #[↑1]))
   (ah (gT PassesOwn.never (wT (mK (bA qq rfl ↑↑4 av) (jO (eD C rfl ↑2 ↑3))))
   (aq (aI 4 cU.nd rfl (aG (tw T) C rfl #[↑0,↑4,↑3]))))
   (ah (ifS (eD C rfl ↑2 ↑3)
   (aq (aO uh))
   bw)
   (aq (aO (aG (Ax T) C rfl #[↑3,↑1,↑2]))))))))|?_]
  show aY _ _ _ [!b,-st,-i,none,none] H;refine ao λD1 k1 _=>?_
  lk;intro d fd;refine k1 _ _ (ao λD2 k2 _=>?_);have ag:b≠d:=λc=>by
   obtain⟨a1,N,_⟩:=hb;rw[c,fd]at N;cases N
  have s1:=af.upd (o:= .dK []) fd;have B:upd H d (.dK []) d=some (.dK (gD ([]:Gs Str))):=aa
  generalize upd H d (.dK [])=H1 at s1 B
  lk;refine%[#[1]|λe fe=>k2 _ _ (ao λD3 k3 _=>?_)];have s2:=af.upd (o:= .lst [V.str st]) fe;have O:upd H1 e (.lst [V.str st]) e=some (.lst ([st].map V.str)):=aa;have B:=s2 _ _ B;have U:=s1.trans s2
  generalize upd H1 e (.lst [V.str st])=H2 at U O B
  refine%[FY H b d st i ss,%[_,e,[st],[],_,_,rfl,U,O,B,%[Yu|λ_ h=>(nomatch h)],.nil,by simp,λ_=>Zh _|rfl]|?_];rintro m σ H3 ⟨e,F,rs,dd,k,rfl,I,O,B,J,j,hk,ai,rfl⟩;have fm:(F.map V.str).length=F.length:=Z5 _;have get:=bJ.k (k:=Sum.inr i) B;have rl:=J.len;have L:i∈rs.map (·.1)↔(bz (gD rs) (Sum.inr i)).isSome=true:=by
   refine%[λh=>?_|λh=>?_]
   .obtain⟨r,_,_,e⟩:=lr h;rw[e];rfl
   .obtain⟨v,hv⟩:=isSome_iff_exists.mp h;obtain⟨q,hq,c,_⟩:=ii hv;exact c▸Xb %[q,hq|rfl]
  lk;have fin:(i∉rs.map (·.1)->F=[])->D3.nx [!b,-st,-i,!d,!e] H3:=λh=>by
   refine k3 _ _ (ao λD4 k4 r4=>?_);lk;refine%[_,get|bi (λq=>?_) λq=>?_]
   .have q:i∉rs.map (·.1):=λc=>by rw[L.mp c]at q;cases q
    refine r4 _ _ (kn H3 I λr=>q ?_);obtain⟨n,hn⟩:=r.dst;rw[h q]at j;exact j.stop hn
   .have q:i∈rs.map (·.1):=L.mpr (pT q);refine k4 _ _ ?_;lk;refine%[d,st,i,ns,F,ss,rs,dd,k,rfl,B,J,j,⋯,G.up I,q|λl H' ws s' fl hl Y aj wl=>ky l H' ws (I.trans s') (I.free fl) hl Y %[λk hk=>?_,aj,?_|λn hn=>?_] (by rw[wl];have:=j.le _ q;lia)]
    .obtain⟨t,ht,rfl⟩:=Xa hk;exact Xb %[t,Y t ht|rfl]
    .rw[Z5,wl];exact(j.dst q).1
    .rw[Z5,wl];exact j.min q hn
  refine%[_,.inl %[_,SqL.of O|rfl]|bi (λh=>?_) λh=>fin λ_=>?_]
  .have h:0<F.length:=by
    rw[fm]at h;have:=Zn h
    lia
   refine%[_,get|bi (λq=>⟨λal H'=>∃m',m'<2*(62-rs.length) +F.length.min 1/\FY H b d st i ss m' al H',λ_ _ h=>h,b,e,d,ns,F,ss,rs,rfl,ag,hb.up I,G.up I,ae,O,B,J,λg H4 new sx fg hg an u as M=>?_⟩) λq=>fin λc=>absurd (L.mpr (pT q)) c];have ln:=u.len;rw[Z8]at ln;have ab:F.length.min 1=1:=Nat.min_eq_right h;have kF:=ai λc=>by rw[c]at h;cases h
   refine%[_,?_,g,new.map (·.1),rs++new,_,_,rfl,(λc o ec=>sx c o (λz=>by rw[z,fd]at ec;cases ec) (I _ _ ec)),hg,an,u,j.step u.nd (λr C=>?_) M,?_,λnn=>?_|rfl]
   .rw[ab,Z8,Z5];cases new with
    | nil=>simp
    | cons a r=>
      rw[Zq]at ln ⊢;have:(r.length+1).min 1<=1:=Nat.min_le_right _ _
      lia
   .obtain⟨N,h2⟩:=u.sub r (Yn _ C);obtain⟨p,hp,h3⟩:=as r C;obtain⟨x,y,z,e,_⟩:=(G r.2 N).2;rw[e]at h2 h3;exact%[Xb %[_,N|rfl],p,z,hp|by rw[e,show x=p from Z9 h3,show y=r.1 from Z9 h2]]
   .rw[Z8];lia
   .cases new with
    | nil=>exact absurd rfl nn
    | cons a r=>rw[Z8,Zq];lia
  .cases F with
   | nil=>rfl
   | cons x F=>exact absurd (Ze (by rw[fm,Zq];lia)) h
noncomputable def VD(a:ZB)(g:Str->V):List (Key×V):=a.map λz=>(Sum.inr z,g z)
theorem cY:∀{a:ZB},z∈a->bz (VD a g) (Sum.inr z)=some (g z)
 | x::a,h=>by
   by_cases e:x=z
   .subst e;exact eR rfl
   .rw[show VD _ g=(Sum.inr x,g x)::VD a g from rfl,c9 (λq=>e (Sum.inr.inj q))];exact cY ((mem_cons.mp h).resolve_left λq=>e q.symm)
theorem dO:∀{a:ZB},z∉a->bz (VD a g) (Sum.inr z)=none
 |[],_=>rfl
 | x::a,h=>by
   rw[Yo,not_or]at h;rw[show VD _ g=(Sum.inr x,g x)::VD a g from rfl,c9 (λq=>h.1 (Sum.inr.inj q).symm)];exact dO h.2
theorem ve(h:z∈a):cJ (VD a g) (Sum.inr z) v=VD a (λx=>if x=z then v else g x):=by
 unfold cJ;rw[if_pos (by rw[iC,cY h];rfl)];unfold VD;rw[Yk];refine Yi λx _=>?_
 show(if(Sum.inr x)=Sum.inr z then((Sum.inr x),v)else(Sum.inr x,g x))=(Sum.inr x,if x=z then v else g x)
 by_cases e:x=z
 .rw[if_pos (congrArg _ e),if_pos e]
 .rw[if_neg (λq=>e (Sum.inr.inj q)),if_neg e]
noncomputable def cnt(ss:ZG)(L:ZB)(n:Str):Nat:=ss.countP λt=>decide (t.2[0]? =some n)&&t.2[1]?.all λy=>decide (y∉L)
theorem Cq(ss:List _)(n:Str):cnt ss [] n=(ss.filter λt=>decide (t.2[0]? =some n)).length:=by
 unfold cnt;rw[<-List.countP_eq_length_filter]
 simp_all
theorem Az(h:cnt ss L m=0)(e:Ed (ss.map (·.2)) m y):y∈L:=by
 obtain⟨z,a⟩:=e;obtain⟨t,b,c⟩:=Xa a;have:=List.countP_eq_zero.mp h t b
 simp_all
theorem tz(b:m∉L):∀ss:ZG,cnt ss L n=cnt ss (L++[m]) n+(ss.filter λt=>decide (t.2[1]? =some m)).countP λt=>decide (t.2[0]? =some n)
 |[]=>rfl
 | t::ss=>by
   have c:=tz (n:=n) b ss;unfold cnt at c ⊢;rw[countP_cons,countP_cons,c];cases d:t.2[1]? with
   | none=>rw[Y0 ⋯];simp only[Option.all_none];lia
   | some y=>
     by_cases e:y=m
     .subst e;rw[Y1 (by rw[d];simp),countP_cons];by_cases a:t.2[0]? =some n
      .simp[a,b];lia
      .simp[a]
     .rw[Y0 (by rw[d];simpa using e)];by_cases a:t.2[0]? =some n
      .by_cases f:y∈L
       .simp[f]
       .simp[a,f,e];lia
      .simp[a]
structure FZ (ss:ZG) (ns L R:ZB):Prop where
 nd:(L++R).Nodup
 mem:∀x,x∈L++R↔x∈ns/\cnt ss L x=0
 ord:∀i x,L[i]? =some x->∀y,Ed (ss.map (·.2)) x y->y∈L.take i
def F0(f:Hp)(l m b a w e ld:Addr)(d:ZB)(ss:ZG)(k:Nat)(g:L2.St)(c:Hp):Prop:=∃h i j L R,g=[!l,!m,!b,!a,!w,h,!e,!ld,i,j]/\af f c/\c w=some (.dK (VD d λn=> .int (cnt ss L n)))/\c e=some (.lst (R.map V.str))/\c ld=some (.lst (L.map V.str))/\FZ ss d L R/\k=d.length-L.length
def Cr:Sp:=λvs H Q _=>∃l m a ss,vs=[.ref l,.ref m]/\H l=some (.lst (a.map V.str))/\a.Nodup/\a.length<=60/\H m=some (.lst (ss.map λt=>V.ref t.1))/\c6 H a ss/\ss.length<=62/\
 ∀r b (L:ZB),af H b->b r=some (.lst (L.map V.str))->L.Nodup->(∀x∈L,x∈a)->(∀i x,L[i]? =some x->∀y,Ed (ss.map (·.2)) x y->y∈L.take i)->(∀x∈a,x∉L->∃y,Ed (ss.map (·.2)) x y/\y∈a/\y∉L)->Q (.ref r) b
theorem fB(T:Txt K mg):↥3 "laid_in_turn" ["names","found"] Cr:=by
 refine T.aI.cal aZ (λH vs Q E h=>?_)
 .obtain⟨l,m,d,ss,rfl,hl,nn,nl,hm,as,b5,kk⟩:=h;refine%[rfl|λf da A outer s hr=>?_];have nm:(d.map V.str).length=d.length:=Z5 _;refine%[_,(QSs.h (ah (aI 2 aZ.nd rfl (aG (cH T) hr rfl #[↑1]))
   (ah (aI 3 aZ.nd rfl (aG (jC T) hr rfl #[↑1]))
   (ah (kC 4 aZ.nd rfl Z1 Z0 rfl fG)
   (ah (cq PassesOwn.never rfl rfl (bW (K:=K) rfl ↑0) (aJ 5 aZ.nd rfl)
   (aq (eY hr rfl ↑((bmO (K:=K) plainAttrs_dict slot_dict_get type_dict_get sH rfl ↑2 #[↑5,cj ap])) (bP 4 rfl) ↑5)))
   (ah (fX 6 aZ.nd rfl Z0 Z1 rfl (ay.of (show bq (ak df) ["names","found","beneath","above","waits","name","ready","laid","least","link"] _ ["name","waits"] [(1,4)]=true from by decide +kernel)) rfl rfl (bW (K:=K) rfl ↑0) (λ_ _ _=>(aJ 0 (show(["name","waits"]:ZB).Nodup from by decide +kernel) rfl)) (λ_ _ _=>(iE (bA dQ rfl (cb hr (λ_ _=>rfl) (bP 1 rfl) ↑0) av))) (λ_ _ _=>↑0))
   (ah (aI 7 aZ.nd rfl (cj ap))
   (ah (gT PassesOwn.never (bA qq rfl ↑↑6 av)
   (ah (aI 8 aZ.nd rfl (cbO (Ez (K:=K) rfl rfl) T.a0 boot_min rfl #[↑6]))
    (ah (bD rfl (bmO (K:=K) plainAttrs_list PySem.F.slot_list_remove PySem.F.type_list_remove zU rfl ↑6 #[↑8]))
    (ah (bD rfl (bmO (K:=K) plainAttrs_list PySem.F.slot_list_append PySem.F.type_list_append aP rfl ↑7 #[↑8]))
    (aq (cq PassesOwn.never rfl rfl (bW (K:=K) rfl (bmO (K:=K) plainAttrs_dict slot_dict_get type_dict_get sH rfl ↑3 #[↑8,cj ap])) (aJ 9 aZ.nd rfl)
    (ah (eY hr rfl (opE ph (cb hr (λ_ _=>rfl) (bP 4 rfl) (↑9>>(gvE T.al rfl rfl))) av) (bP 4 rfl) (↑9>>(gvE T.al rfl rfl)))
     (aq (ifS (bA dQ rfl (cb hr (λ_ _=>rfl) (bP 4 rfl) (↑9>>(gvE T.al rfl rfl))) av)
     (aq (bD rfl (bmO (K:=K) plainAttrs_list PySem.F.slot_list_append PySem.F.type_list_append aP rfl ↑6 #[(↑9>>(gvE T.al rfl rfl))])))
     bw)))))))))
   (aq (aO ↑7))))))))))|?_]
  show aY _ _ _ [!l,!m,none,none,none,none,none,none,none,none] H;refine ao λD1 k1 _=>?_
  lk;refine%[m,d,ss,rfl,hm,as,b5|λb H1 s1 fb hb=>k1 _ _ (ao λD2 k2 _=>?_)];lk;refine%[m,d,ss,rfl,s1 _ _ hm,as.up s1,b5|λa H2 s2 fa ha=>k2 _ _ (ao λD3 k3 _=>?_)];have ag:=s1.trans s2;have hb:=hb.up s2;lk;intro w fw;refine k3 _ _ (ao λD4 k4 _=>aw λa9 hK=>?_);have s3:=af.upd (o:= .dK []) fw;have gw:upd H2 w (.dK []) w=some (.dK (VD (d.take 0) λn=> .int (cnt ss [] n))):=aa
  generalize upd H2 w (.dK [])=H3 at s3 gw
  have ct:=ag.trans s3;lk;refine .inl %[%[_|SqL.of (ct _ _ hl)]|hK _ _ ?_];have cx:b≠w:=λc=>by
   obtain⟨ai,h1,_⟩:=hb;rw[c,fw]at h1;cases h1
  have cy:a≠w:=λc=>by
   obtain⟨ai,h1,_⟩:=ha;rw[c,fw]at h1;cases h1
  have b6:∀xs,H2 w≠some (.lst xs):=λxs c=>by rw[fw]at c;cases c
  refine aX (xs:=d.map V.str) (λi O u=>(∃o5,O=[!l,!m,!b,!a,!w,o5,none,none,none,none])/\af H2 u/\u w=some (.dK (VD (d.take i) λn=> .int (cnt ss [] n))))
   %[%[_|rfl],s3|gw] (λi O u _ h=>SqL.of (h.2.1 _ _ (ag _ _ hl))) ?_ ?_
  .rintro i x O u U ⟨⟨o5,rfl⟩,sm,hw⟩;rw[Zk]at U;obtain⟨n,hn,rfl⟩:=map_eq_some_iff.mp U;have i1:i<d.length:=(X7 hn).1;show jJ _ _ _ _ [!l,!m,!b,!a,!w,-n,none,none,none,none] u;refine aB λD5 k5 _=>?_
   lk;refine%[.inr (.inr (.inl (.inl %[_|sm _ _ hb.choose_spec.1]))),#[0]|λp hp=>?_];obtain⟨ai,al,cM,a0,Y,b7⟩:=hb.get (cD.of sm) cx b6 hp n;have sp:=af.upd (o:= .lst []) hp;refine%[Sum.inr n,rfl,ai,cM,_,by rw[a0];exact .inl %[_,SqL.of Y|rfl],_,gE.k (k:=Sum.inr n) (sp _ _ hw) (by unfold VD;rw[Z5,Ye];exact az ⋯)|k5 _ _ %[%[_|rfl],af.set (sm.trans sp) fw|?_]];have zn:n∉d.take i:=λhm=>by
    have h:=nn;rw[<-X0 i d,Ys]at h;exact h.2.2 n hm n (Z7 (i:=0) (by rw[getElem?_drop];exact hn)) rfl
   rw[aa,dP _ (dO zn),Z5,<-Cq,Yz,hn];unfold VD;rw[Zc];rfl
  .rintro O u ⟨⟨o5,rfl⟩,sm,hw⟩;rw[nm,Zm (Zh _)]at hw;refine k4 _ _ (ao λD5 k5 _=>aC λa9 hK=>?_);lk;have a1:=sm _ _ (ag _ _ hl);refine .inl %[%[_|SqL.of a1]|hK _ _ λM aj=>?_];refine aV (J:=Itl K l) (n:=d.length) (D:=M) (λj vs O H3=>(∃o1,O=[o1,!w])/\af u H3/\H3 M=some (.lst vs)/\vs=((d.take j).filter λn=>decide (cnt ss [] n=0)).map V.str)
    %[%[none|rfl],af.upd aj,aa|rfl] (λj _ _ H3 hj bf=>%[_,V.str d[j],SqL.of (bf.2.1 _ _ a1)|by simp[hj]]) (λ_ _ H3 bf=>%[_,SqL.of (bf.2.1 _ _ a1)|by simp]) ?_ ?_
   .rintro j vs O H3 hj ⟨⟨o1,rfl⟩,C,b9,hv⟩ x H4 ⟨e2,U⟩;subst e2;have ca:=U _ (SqL.of (C _ _ a1));rw[Zk,Z4 hj]at ca;obtain rfl:x=V.str d[j]:=(Z9 ca).symm;have get:=bJ.k (k:=Sum.inr d[j]) (C _ _ hw);rw[cY (Y7 hj)]at get;lk;refine%[_,get,rfl|bi (λh=>?_) λh=>?_]
    .have h:cnt ss [] d[j]=0:=by simpa using h
     refine CK.mk hj b9 (by rw[hv,Z5];have:=Yb (λn=>decide (cnt ss [] n=0)) (d.take j);rw[Ye]at this;exact az ⋯) %[%[_|rfl],af.set C aj,aa|?_];rw[hv,Yz,Z4 hj,Zz,Zc];show _=_++(List.filter _ [d[j]]).map V.str;rw[Y1 (by simpa using h)];rfl
    .have h:cnt ss [] d[j]≠0:=by simpa using h
     refine CN.mk hj %[%[_|rfl],C,b9|?_];rw[hv,Yz,Z4 hj,Zz,Zc];show _=_++(List.filter _ [d[j]]).map V.str;rw[Y0 (by simpa using h)];simp
   rintro vs O H3 ⟨_,C,a2,hv⟩;rw[Zm (Zh _)]at hv;rw[hv]at a2;refine k5 _ _ (ao λD6 k6 _=>?_);have ab:=C _ _ hw;have bl:=sm.trans C;have bm:w≠M:=λc=>by rw[<-c,hw]at aj;cases aj
   have bn:=sm.free aj;lk;refine%[#[0]|λld fld=>k6 _ _ (ao λD7 k7 _=>?_)];have s4:=af.upd (o:= .lst []) fld;have bp:upd H3 ld (.lst []) ld=some (.lst (([]:ZB).map V.str)):=aa;have cd:w≠ld:=λc=>by rw[<-c,ab]at fld;cases fld
   have bt:M≠ld:=λc=>by rw[<-c,a2]at fld;cases fld
   have bU:=s4 _ _ ab;have b0:=s4 _ _ a2;have b1:=bl.trans s4;have fld:=bl.free fld
   generalize upd H3 ld (.lst [])=H4 at s4 bp bU b0 b1
   refine%[F0 H2 l m b a w M ld d ss,%[_,o5,none,none,[],_,rfl,b1,bU,b0,bp,%[nn.filter _,λx=>by simp|λi x e=>by simp at e]|rfl]|?_];clear b1 bU b0 bp a2 ab hw hv C bl sm;rintro k O H5 ⟨o5,o8,o9,L,R,rfl,sm,hw,hR,hL,B,rfl⟩;have Rm:(R.map V.str).length=R.length:=Z5 _;have dc:L.length+R.length<=d.length:=by
    rw[<-Z8];exact STab.nodup_sub B.nd λx U=>((B.mem x).mp U).1
   lk;refine%[R.length,.inl %[_,SqL.of hR|Rm.symm]|bi (λh=>?_) λh=>?_]
   .have h:0<R.length:=by have:=Zn h;lia
    refine⟨λc0 u=>∃m',m'<d.length-L.length/\F0 H2 l m b a w M ld d ss m' c0 u,λ_ _ h=>h,R,SqL.of hR,h,λx U _=>%[.inl %[_|SqL.of hR],R,hR,U|λR1 pm=>?_]⟩;have u1:=af.set (o:= .lst (R1.map V.str)) sm bn;have b2:upd H5 M (.lst (R1.map V.str)) M=_:=aa;have b3:upd H5 M (.lst (R1.map V.str)) w=_:=(am bm).trans hw;have a3:upd H5 M (.lst (R1.map V.str)) ld=_:=(am bt.symm).trans hL
    generalize upd H5 M (.lst (R1.map V.str))=H6 at u1 b2 b3 a3 ⊢
    refine%[.inl %[_|SqL.of a3],_,a3,by rw[Z5];exact az ⋯|aB λdd c1 _=>aw λa9 hK=>?_];have u2:=af.set (o:= .lst (L.map V.str++[.str x])) u1 fld;have a4:upd H6 ld (.lst (L.map V.str++[.str x])) ld=some (.lst ((L++[x]).map V.str)):=by rw[aa,Zc];rfl
    have a5:upd H6 ld (.lst (L.map V.str++[.str x])) w=_:=(am cd).trans b3;have a6:upd H6 ld (.lst (L.map V.str++[.str x])) M=_:=(am bt).trans b2
    generalize upd H6 ld (.lst (L.map V.str++[.str x]))=H7 at u2 a4 a5 a6 ⊢
    lk;refine%[.inr (.inr (.inl (.inl %[_|u2 _ _ ha.choose_spec.1]))),#[0]|λp hp=>?_];obtain⟨ai,al,a0,c2,Y,b7⟩:=ha.get (cD.of u2) cy b6 hp x;have b4:∀{c:Addr} {o:HO},H7 c=some o->H2 c=none->al≠c:=λ{c o} h1 h2=>by
     rcases b7 with rfl|⟨o',ho⟩
     .exact λz=>by rw[z,h1]at hp;cases hp
     .exact λz=>by rw[z,h2]at ho;cases ho
    have c3:=b4 a5 fw;have c4:=b4 a6 bn;have all:=b4 a4 fld;have sp:=af.upd (o:= .lst []) hp;have ab:=sp _ _ a5;have ch:=sp _ _ a6;have cl:=sp _ _ a4;have u3:=u2.trans sp
    generalize upd H7 p (.lst [])=H8 at a0 Y ab ch cl u3 ⊢
    clear u1 u2 a5 a6 a4 b3 b2 a3 hp sp
    generalize co:(ss.filter λt=>decide (t.2[1]? =some x))=ts at Y
    have tm:(ts.map λt=>V.ref t.1).length=ts.length:=Z5 _;have xL:x∉L:=λc=>(nodup_append.mp B.nd).2.2 x c x U rfl
    have pr:(L++[x] ++R1).Perm (L++R):=by
     rw[Zd];exact pm.append_left L
    have f0:∀n,cnt ss L n=cnt ss (L++[x]) n+(ts.drop 0).countP λt=>decide (t.2[0]? =some n):=λn=>by rw[List.drop_zero,<-co];exact tz xL ss
    have c5:∀t∈ts,∃n z,t.2=[n,x,z]/\n∈d/\H t.1=some (.tup ([n,x,z].map V.str)):=λt ht=>by
     rw[<-co]at ht;obtain⟨h1,h2⟩:=List.mem_filter.mp ht;obtain⟨h3,n,y,z,e,hn,_⟩:=as t h1;have h2:=Zn h2;rw[e]at h2 h3;obtain rfl:y=x:=Z9 h2;exact%[n,z,e,hn|h3]
    refine%[Sum.inr x,rfl,ai,a0|.inl %[al,c2,%[_|SqL.of Y]|hK _ _ ?_]];refine aX (xs:=ts.map λt=>V.ref t.1) (λj O u=>(∃o9,O=[!l,!m,!b,!a,!w,o5,!M,!ld,-x,o9])/\af H2 u/\u al=some (.lst (ts.map λt=>V.ref t.1))/\u w=some (.dK (VD d λn=> .int ((cnt ss (L++[x]) n+(ts.drop j).countP λt=>decide (t.2[0]? =some n):Nat):Int)))/\u ld=some (.lst ((L++[x]).map V.str))/\∃Rj:ZB,u M=some (.lst (Rj.map V.str))/\(L++[x] ++Rj).Nodup/\∀y,y∈L++[x] ++Rj↔y∈d/\cnt ss (L++[x]) y+((ts.drop j).countP λt=>decide (t.2[0]? =some y))=0)
     %[%[_|rfl],u3,Y,by rw[ab];exact congrArg (λg=>some (HO.dK (VD d g))) (funext λn=>by rw[f0 n]),cl,R1,ch,pr.nodup_iff.mpr B.nd|λy=>by rw[<-f0,pr.mem_iff];exact B.mem y] (λj O u _ h=>SqL.of h.2.2.1) ?_ ?_
    .rintro j v O u hv ⟨⟨o9,rfl⟩,a7,G,N,ae,Rj,I,rn,rz⟩;rw[Zk]at hv;obtain⟨t,ht,rfl⟩:=map_eq_some_iff.mp hv;have jl:=(X7 ht).1;obtain⟨n,z,et,hn,r⟩:=c5 t (Z7 ht);have r:=a7 _ _ (ag _ _ r);have dr:ts.drop j=t::ts.drop (j+1):=by rw[List.drop_eq_getElem_cons jl,(X7 ht).2]
     rw[dr]at N rz;have get:=bJ.k (k:=Sum.inr n) N;rw[cY hn]at get;have de:=(nodup_append.mp rn)
     have rl:Rj.length<=d.length:=by
      have:=STab.nodup_sub rn λy hy=>((rz y).mp hy).1
      rw[Z8]at this
      lia
     show aY _ _ _ [!l,!m,!b,!a,!w,o5,!M,!ld,-x,some (.ref t.1)] u;refine ao λdk c7 _=>?_
     lk;have one:∀y,(t::ts.drop (j+1)).countP (λt=>decide (t.2[0]? =some y))=((ts.drop (j+1)).countP λt=>decide (t.2[0]? =some y)) +if y=n then 1 else 0:=λy=>by
      rw[countP_cons,et];by_cases c:y=n
      .rw[if_pos c,if_pos (by rw[c];simp)]
      .rw[if_neg c,if_neg (by simpa using λq=>c q.symm)]
     refine%[_,SqT.of r,_,rfl,_,get,_,rfl,_,SqT.of r,_,rfl,_,gE.k (k:=Sum.inr n) N (by unfold VD;rw[Z5];exact az ⋯)|c7 _ _ (aB λdn cp _=>?_)];rw[ve hn];have e1:(λy=>if y=n then V.int (((cnt ss (L++[x]) n+(t::ts.drop (j+1)).countP λt=>decide (t.2[0]? =some n):Nat):Int) -1)else V.int ((cnt ss (L++[x]) y+(t::ts.drop (j+1)).countP λt=>decide (t.2[0]? =some y):Nat):Int))=λy=>V.int ((cnt ss (L++[x]) y+(ts.drop (j+1)).countP λt=>decide (t.2[0]? =some y):Nat):Int):=funext λy=>by
      rw[one,one];by_cases c:y=n
      .rw[if_pos c,c,if_pos rfl]
       congr 1
       lia
      .rw[if_neg c,if_neg c];rfl
     rw[e1];have v1:=af.set (o:= .dK (VD d λy=>V.int ((cnt ss (L++[x]) y+(ts.drop (j+1)).countP λt=>decide (t.2[0]? =some y):Nat):Int))) a7 fw;have a8:upd u w (.dK (VD d λy=>V.int ((cnt ss (L++[x]) y+(ts.drop (j+1)).countP λt=>decide (t.2[0]? =some y):Nat):Int))) w=_:=aa;have an:∀c o,c≠w->u c=some o->upd u w (.dK (VD d λy=>V.int ((cnt ss (L++[x]) y+(ts.drop (j+1)).countP λt=>decide (t.2[0]? =some y):Nat):Int))) c=some o:=λc o h e=>(am h)▸e
     generalize upd u w (.dK (VD d λy=>V.int ((cnt ss (L++[x]) y+(ts.drop (j+1)).countP λt=>decide (t.2[0]? =some y):Nat):Int)))=H9 at v1 a8 an
     have r:=an _ _ (λc=>by rw[c,N]at r;cases r) r;have G:=an _ _ c3 G;have ae:=an _ _ cd.symm ae;have I:=an _ _ bm.symm I;have get:=bJ.k (k:=Sum.inr n) a8;rw[cY hn]at get;have cs:n∉L++[x] ++Rj:=λc=>by
      have:=((rz n).mp c).2;rw[one,if_pos rfl]at this
      lia
     have bb:∀y,y≠n->(y∈L++[x] ++Rj↔y∈d/\cnt ss (L++[x]) y+((ts.drop (j+1)).countP λt=>decide (t.2[0]? =some y))=0):=λy c=>by
      rw[rz y,one,if_neg c];rfl
     lk;refine%[_,SqT.of r,_,rfl,_,get,rfl|bi (λh=>?_) λh=>?_]
     .have h:cnt ss (L++[x]) n+((ts.drop (j+1)).countP λt=>decide (t.2[0]? =some n))=0:=by
       have:=V.int.inj (Zn h)
       lia
      have tr:t.1≠M:=λc=>by rw[c,I]at r;cases r
      refine%[.inl %[_|SqL.of I],_,SqT.of r,_,rfl,_,I,by rw[Z5];exact az ⋯|cp _ _ %[%[_|rfl],af.set v1 bn,(am c4).trans G,(am bm).trans a8,(am bt.symm).trans ae,Rj++[n],by rw[aa,Zc];rfl,?_|λy=>?_]]
      .rw[<-Zd,Ys];exact%[rn,by simp|λa ha b hb c=>cs (by rw[<-X9 hb,<-c];exact ha)]
      .rw[<-Zd,Yl,Yq];by_cases c:y=n
       .rw[c];exact%[λ_=>%[hn|h]|λ_=> .inr rfl]
       .rw[<-bb y c];exact%[λq=>q.resolve_right c|.inl]
     .refine cp _ _ %[%[_|rfl],v1,G,a8,ae,Rj,I,rn|λy=>?_];by_cases c:y=n
      .rw[c];exact%[λq=>absurd q cs|λq=>absurd (Ze (congrArg (λi:Nat=>V.int i) q.2)) h]
      .exact bb y c
    .rintro O u ⟨⟨o9,rfl⟩,a7,G,N,ae,Rj,I,rn,rz⟩;rw[tm,List.drop_length]at N rz;refine c1 _ _ %[_,?_,o5,_,o9,L++[x],Rj,rfl,a7,N,I,ae,%[rn,rz|λi y hi y' e=>?_]|rfl]
     .rw[Z8,Yd]
      lia
     .by_cases il:i<L.length
      .rw[Y3 il]at hi;rw[List.take_append_of_le_length (le_of_lt il)];exact B.ord i y hi y' e
      .have ie:i=L.length:=by
        have:=(X7 hi).1;rw[Z8,Yd]at this
        lia
       subst ie;rw[Y4 (Zh _),sub_self,List.getElem?_cons_zero]at hi;obtain rfl:=Z9 hi;rw[List.take_append_of_le_length (Zh _),List.take_length];exact Az ((B.mem x).mp (Yn _ U)).2 e
   .refine k7 _ _ ?_;lk;have R0:R=[]:=by
     cases R with
     | nil=>rfl
     | cons x R=>exact absurd (Ze (by rw[Zq];lia)) h
    subst R0;have mem:=B.mem;have nd:=B.nd;rw[Zw]at mem nd;refine kk ld H5 L (ag.trans sm) hL nd (λx U=>((mem x).mp U).1) B.ord λx U nx=>?_
    have:cnt ss L x≠0:=λc=>nx ((mem x).mpr %[U|c])
    obtain⟨t,ht,q⟩:=List.countP_pos_iff.mp (Nat.pos_of_ne_zero this);obtain⟨a,b,z,e,_,hb⟩:=(as t ht).2;rw[e]at q;simp only[Zu]at q;exact%[b,%[z|by rw[<-(Z9 (Zn q.1)),<-e];exact Xb %[t,ht|rfl]],hb|Zn q.2]
def AA:Sp:=λvs H Q _=>∃l m a ss,vs=[.ref l,.ref m]/\H l=some (.lst (a.map V.str))/\a.Nodup/\a.length<=60/\H m=some (.lst (ss.map λt=>V.ref t.1))/\c6 H a ss/\ss.length<=62/\
 ∀r b (us:ZB),af H b->b r=some (.lst (us.map V.str))->(∀x∈a,Rch (ss.map (·.2)) x x->x∈us)->Q (.ref r) b
structure nO (H:Hp) (ks:List ZB) (ss:ZG) (r:Addr) (ws:ZG) (x:Str):Prop where
 at_:H r=some (.lst (ws.map λt=>V.ref t.1))
 sub:∀t∈ws,t∈ss
 sho:Sho ks x x (ws.map (·.2))
 len:ws.length<=100
theorem nO.up(h:nO H ks ss r ws x)(s:af H a):nO a ks ss r ws x:=%[s _ _ h.at_,h.sub,h.sho|h.len]
def AB:Sp:=λvs H Q _=>∃l m b ss,vs=[.ref l,.ref m]/\H l=some (.lst (b.map V.str))/\b.Nodup/\b.length<=60/\H m=some (.lst (ss.map λt=>V.ref t.1))/\c6 H b ss/\ss.length<=62/\
 (∀a,af H a->(∀x,¬ Rch (ss.map (·.2)) x x)->Q .non a)/\∀r a ws x,af H a->nO a (ss.map (·.2)) ss r ws x->(∀y n,Dst (ss.map (·.2)) y (n+1) y->ws.length<=n+1)->Q (.ref r) a
theorem rq(T:Txt K mg):↥4 "never_laid" ["names","found"] AA:=by
 refine T.aU.cal om (λH vs Q E h=>?_)
 .obtain⟨l,m,a,ss,rfl,n,G,nl,I,g,i,J⟩:=h;refine%[rfl|λf B A outer s C=>?_];refine%[_,(QSs.h (aq (aO (cbO (pE (w:=w) rfl rfl) T.a7 boot_sorted rfl #[(opE (EF (w:=w) rfl) (ctO (zv (K:=K) (w:=w) rfl rfl rfl) T.a6 boot_set rfl #[↑0]) (ctO (zv (K:=K) (w:=w) rfl rfl rfl) T.a6 boot_set rfl #[aG (fB T) C rfl #[↑0,↑1]]))]))))|?_];show jF _ _ [!l,!m] H;lk;refine%[a,SqL.of n,⋯|λp M=>?_];have b:=af.upd (o:=jR w p (aL a)) M;have t:upd H p (jR w p (aL a)) p=_:=aa
  generalize upd H p (jR w p (aL a))=H1 at b t ⊢
  refine%[l,m,a,ss,rfl,b _ _ n,G,nl,b _ _ I,g.up b,i|λr H2 L y N O U j _=>?_];have Ll:=STab.nodup_sub O U;refine%[r,rfl,L,SqL.of N,⋯|λq Y=>?_];have z:=af.upd (o:=jR w q (aL L)) Y;have fl:=STab.nodup_sub (eT a) λx d=>br.mp d
  refine%[_,(z _ _ (y _ _ t)),_,aa,⋯|λu ms fu e mn=>%[ms,aa,?_|λv us fv pu _=>?_]]
  .have:=STab.nodup_sub mn λx d=>br.mp ((e x).mp d).1
   lia
  .refine J v _ us (b.trans (y.trans (z.trans ((af.upd fu).trans (af.upd fv))))) aa λx d rx=>?_
   rw[pu.mem_iff,e];exact%[br.mpr d|λc=>B8 j (br.mp c) rx]
theorem tD{d:ZB}{ss:ZG}(h:∀t∈ss,du d t.2){x y:Str}(r:Rch (ss.map (·.2)) x y):x∈d:=by
 induction r with
 | one e=>
   obtain⟨z,g⟩:=e;obtain⟨t,i,f⟩:=Xa g;obtain⟨a,b,c,e,j,_⟩:=h t i;rw[e]at f;exact((List.cons.inj f).1)▸j
 | more _ _ l=>exact l
theorem ir(T:Txt K mg):↥5 "shortest_ring" ["names","found"] AB:=by
 refine T.aT.cal bG (λH vs Q E h=>?_)
 .obtain⟨l,m,O,ss,rfl,hl,nn,nl,hm,c,u,kn,ky⟩:=h;refine%[rfl|λf ag A outer s hr=>?_];refine%[_,(QSs.h (ah (aI 2 bG.nd rfl (aG (cH T) hr rfl #[↑1]))
   (ah (aI 3 bG.nd rfl uh)
   (ah (cq PassesOwn.never rfl rfl (bW (K:=K) rfl (aG (rq T) hr rfl #[↑0,↑1])) (aJ 4 bG.nd rfl)
   (ah (aI 5 bG.nd rfl (aG (nN T) hr rfl #[↑2,↑4,↑4]))
    (aq (ifS (wT (mK (bA qr rfl ↑5 uh) (jO (wT (orW (bA FJ rfl ↑3 uh) (nY (bA uo rfl ↑↑5 ↑↑3)))))))
    (aq (aI 3 bG.nd rfl ↑5))
    bw))))
   (aq (aO ↑3))))))|?_]
  show aY _ _ _ [!l,!m,none,none,none,none] H;refine ao λD1 k1 _=>?_
  lk;refine%[m,O,ss,rfl,hm,c,u|λb H1 U fb hb=>k1 _ _ (ao λD2 k2 _=>?_)];lk;refine k2 _ _ (ao λD3 k3 _=>aw λae hK=>?_);lk;refine%[l,m,O,ss,rfl,U _ _ hl,nn,nl,U _ _ hm,c.up U,u|λr H2 us s2 I J=> .inl %[r,rfl,%[_|SqL.of I]|hK _ _ ?_]];have z:=U.trans s2;refine aX (xs:=us.map V.str) (λi Y g=>(∃v o4 o5,Y=[!l,!m,!b,some v,o4,o5]/\((v= .non/\∀x∈us.take i,¬ Rch (ss.map (·.2)) x x)\/∃q ws x,v= .ref q/\nO g (ss.map (·.2)) ss q ws x/\∀y∈us.take i,∀n,Dst (ss.map (·.2)) y (n+1) y->ws.length<=n+1))/\af H2 g)
   %[%[_,_,_,rfl|.inl %[rfl|λx B=>(nomatch B)]]|λ_ _ e=>e] (λi Y g _ h=>SqL.of (h.2 _ _ I)) ?_ ?_
  .rintro i x Y g B ⟨⟨v,o4,o5,rfl,L⟩,j⟩;rw[Zk]at B;obtain⟨n,hn,rfl⟩:=map_eq_some_iff.mp B;have tk:us.take (i+1)=us.take i++[n]:=by rw[Yz,hn];rfl
   show aY _ _ _ [!l,!m,!b,some v,-n,o5] g;refine ao λD4 k4 _=>?_
   lk;refine%[b,n,n,O,ss,rfl,hb.up (s2.trans j),c.up (z.trans j),u,λH3 C nr=>k4 _ _ (aB λD5 k5 _=>?_)|λq H3 ws C _ G sub rr rl=>k4 _ _ (aB λD5 k5 _=>?_)]
   .lk;rw[if_neg ∅];refine k5 _ _ %[%[v,_,_,rfl|L.imp (λh=>%[h.1|λx B=>?_]) λ⟨q,ws,x,e,G,o⟩=>%[q,ws,x,e,G.up C|λy a m d=>?_]]|j.trans C]
    .rw[tk]at B;rcases X8 B with h'|h'
     .exact h.2 x h'
     .rw[X9 h'];exact nr
    .rw[tk]at a;rcases X8 a with h'|h'
     .exact o y h' m d
     .rw[X9 h']at d;exact(nr d.rch).elim
   .lk;rw[if_pos ∅];have wl:∀zs:ZG,(zs.map λt=>V.ref t.1).length=zs.length:=λzs=>Z5 _
    have p:=λm d=>by
     have:=rr.min m d;rwa[Z5]at this
    have put:(∀y∈us.take i,∀m,Dst (ss.map (·.2)) y (m+1) y->ws.length<=m+1)->D5.nx [!l,!m,!b,!q,-n,!q] H3:=λo=>k5 _ _ ⟨%[_,_,_,rfl|.inr ⟨q,ws,n,rfl,%[G,sub,rr|rl],λy a m d=>by
     rw[tk]at a;rcases X8 a with h'|h'
     .exact o y h' m d
     .rw[X9 h']at d;exact p m d⟩],j.trans C⟩
    rcases L with⟨rfl,ab⟩|⟨q',M,x',rfl,N,o⟩
    .rw[if_pos ∅];exact put λy a m d=>(ab y a d.rch).elim
    .rw[if_neg ∅];refine%[_,.inl %[_,SqL.of G|(wl ws).symm],_,.inl %[_,SqL.of (C _ _ N.at_)|(wl M).symm]|bi (λlt=>put λy a m d=>?_) λlt=>k5 _ _ %[%[_,_,_,rfl|.inr %[q',M,x',rfl,N.up C|λy a m d=>?_]]|j.trans C]]
     .have:=o y a m d;have:=Zn lt
      lia
     .rw[tk]at a;rcases X8 a with h'|h'
      .exact o y h' m d
      .rw[X9 h']at d;have:=p m d
       lia
  .rintro Y g ⟨⟨v,o4,o5,rfl,L⟩,j⟩;rw[(Z5 _),Zm (Zh _)]at L;refine k3 _ _ ?_;lk;rcases L with⟨rfl,h⟩|⟨q,ws,x,rfl,G,o⟩
   .exact kn g (z.trans j) λx rx=>h x (J x (tD (λt ht=>(c t ht).2) rx) rx) rx
   .exact ky q g ws x (z.trans j) G λy n d=>o y (J y (tD (λt ht=>(c t ht).2) d.rch) d.rch) n d
theorem nP{S:Str->Str->Prop}(h:dm S z m)(c:dS S z x):dm S x m:=%[c.symm.trans h.1|λy d=>h.2 y (c.trans d)]
theorem lN(h:cX H c qs)(a b:Str)(s:bh qs a b):a∈c/\b∈c:=by
 obtain⟨q,d,e⟩:=s;rcases(h q d).2 with⟨wd,x,y,f,_,g,i,_⟩|⟨wd,x,y,f,_⟩
 .lia
 grind
structure ik (mg:ZC) (H:Hp) (g:Addr) (qs:ZM) (ls:ZB) (ts:ZG):Prop where
 gr:∃c2 c3 c4,GrF mg H g c2 c3 c4 qs ls ts
 nd:ls.Nodup
 so:ls.Pairwise (λa b=>bc b a=false)
 ll:ls.length<=60
 tl:ts.length<=62
 t3:∀k∈ts.map (·.2),du ls k
 sm:∀k∈ts.map (·.2),∀z∈k,Sml z
 lm:∀z∈ls,Sml z
theorem ik.up(h:ik mg H g qs a ts)(s:af H b):ik mg b g qs a ts:=by
 obtain⟨c,d,e,f⟩:=h.gr;exact%[%[c,d,e|f.up s],h.nd,h.so,h.ll,h.tl,h.t3,h.sm|h.lm]
theorem ik.ends(h:ik mg H g qs f ts)(i:bv (bh qs) (ts.map (·.2)) lk)(j:k∈lk):∃a b z,k=[a,b,z]/\(a∈f/\dm (bh qs) a a)/\b∈f/\dm (bh qs) b b:=by
 obtain⟨r,s,t,l⟩:=h.gr;obtain⟨a,b,z,m,n,o,c,d,rfl⟩:=(i.mem k).mp j;obtain⟨x,y,u,e,p,q⟩:=h.t3 _ o;simp only[List.cons.injEq,and_true]at e;obtain⟨rfl,rfl,rfl⟩:=e;have ws:=lN l.sa;exact%[m,n,z,rfl,%[c.1.within ws p|nP c c.1],d.1.within ws q|nP d d.1]
theorem ik.short(h:ik mg H g qs o ts)(d:bv (bh qs) (ts.map (·.2)) lk)(f:k∈lk):k.length<=3/\∀z∈k,Sml z:=by
 obtain⟨p,q,r,i⟩:=h.gr;obtain⟨a,b,z,s,t,c,j,l,rfl⟩:=(d.mem k).mp f;obtain⟨x,y,u,e,m,n⟩:=h.t3 _ c;simp only[List.cons.injEq,and_true]at e;obtain⟨rfl,rfl,rfl⟩:=e;have ws:=lN i.sa;exact%[Zh _|ET (h.lm _ (j.1.within ws m)) (h.lm _ (l.1.within ws n)) (h.sm _ c z ∅)]
theorem ik.names(h:ik mg H g qs d ts)(f:bv (bh qs) (ts.map (·.2)) lk)(c:jn (bh qs) d i):∀k∈lk,du i k:=λk j=>by
 obtain⟨a,b,z,e,l,m⟩:=h.ends f j;exact%[a,b,z,e,(c.mem a).mpr l|(c.mem b).mpr m]
theorem ik.ties(h:ik mg H g qs c ts)(d:bv (bh qs) (ts.map (·.2)) lk):∀k∈lk,du c k:=λk f=>by
 obtain⟨a,b,z,e,i,j⟩:=h.ends d f;exact%[a,b,z,e,i.1|j.1]
theorem nQ(a:bd H ss)(h:∀k∈ss.map (·.2),du b k):c6 H b ss:=λt q=>%[(a t q).2|h _ (Xb %[t,q|rfl])]
def Cs(mg:ZC):Sp:=λvs H Q _=>∃g qs b ts,vs=[.ref g]/\ik mg H g qs b ts/\∀a lk,af H a->bv (bh qs) (ts.map (·.2)) lk->((∀x,¬ Rch lk x x)->Q .non a)/\∀r x,Rch lk x x->Q (.ref r) a
def xV(mg:ZC):Sp:=λvs H Q _=>∃g qs b ts,vs=[.ref g]/\ik mg H g qs b ts/\(∀lk,bv (bh qs) (ts.map (·.2)) lk->∀x,¬ Rch lk x x)/\∀l a c ss,af H a->a l=some (.lst (ss.map λt=>V.ref t.1))->c6 a c ss->ss.length<=62->bv (bh qs) (ts.map (·.2)) (ss.map (·.2))->Q (.ref l) a
theorem E6(T:Txt K mg):↥6 "ring" ["ground"] (Cs mg):=by
 refine T.aS.cal Ca (λH vs Q E h=>?_)
 .obtain⟨g,qs,e,ts,rfl,a,n⟩:=h;refine%[rfl|λf y A outer s d=>?_];obtain⟨o,p,q,t⟩:=a.gr;have N:=a.ll;refine%[_,(QSs.h (aq (aO (aG (ir T) d rfl #[aG (bN T) d rfl #[↑0],aG (rp T) d rfl #[↑0]])))),g,o,p,q,qs,e,ts,rfl,t,a.nd,a.so,⋯|λl O z u U B c=>%[g,o,p,q,qs,e,ts,rfl,t.up u,a.nd,a.so,⋯,a.tl,a.t3|λm Y ss v fm C G lk I=>?_]];have b:=u.trans v;refine%[l,m,z,ss,rfl,v _ _ B,c.nd,?_,C,nQ G (a.names lk c),I,λi j J=>(n i _ (b.trans j) lk).1 J|λr i ws x j L _=>(n i _ (b.trans j) lk).2 r x L.sho.rch];have:=STab.nodup_sub c.nd λx M=>((c.mem x).mp M).1
  lia
theorem iR(T:Txt K mg):↥6 "untorn_links" ["ground"] (xV mg):=by
 refine T.aV.cal dZ (λH vs Q E h=>?_)
 .obtain⟨g,qs,e,ts,rfl,a,G,I⟩:=h;refine%[rfl|λf C A outer s d=>?_];obtain⟨j,n,o,p⟩:=a.gr;have ll:=a.ll;refine%[_,(QSs.h (ah (aI 1 dZ.nd rfl (aG (rp T) d rfl #[↑0]))
   (ah (aI 2 dZ.nd rfl (aG (ir T) d rfl #[aG (bN T) d rfl #[↑0],↑1]))
   (ah (ifS (bA qr rfl ↑2 uh)
   (aq gK)
   bw)
   (aq (aO ↑1))))))|?_]
  show aY _ _ _ [!g,none,none] H;refine ao λD1 J _=>?_
  lk;refine%[g,j,n,o,qs,e,ts,rfl,p,a.nd,a.so,⋯,a.tl,a.t3|λm H1 ss q fm t L lk u=>J _ _ (ao λD2 M _=>?_)];lk;refine%[g,j,n,o,qs,e,ts,rfl,p.up q,a.nd,a.so,⋯|λl H2 v i fl N c=>?_];have y:=nQ L (a.names lk c);refine%[l,m,v,ss,rfl,N,c.nd,?_,i _ _ t,y.up i,u,λz B _=>M _ _ (ao λD3 O _=>?_)|λr z ws x B U _=>(G _ lk x U.sho.rch).elim]
  .have:=STab.nodup_sub c.nd λx Y=>((c.mem x).mp Y).1
   lia
  .lk;refine O _ _ ?_;have b:=i.trans B;exact I m z v ss (q.trans b) (b _ _ t) (y.up b) u lk
noncomputable def SD(M:ZB):List (Key×V):=VD M λ_=> .bl true
theorem AC:∃M2,cJ (SD M) (Sum.inr x) (.bl true)=SD M2/\(M.Nodup->M2.Nodup)/\∀y,y∈M2↔y∈M\/y=x:=by
 by_cases c:x∈M
 .refine%[M,?_,λh=>h|λy=>%[.inl|λh=>h.elim (λh=>h) λe=>e▸c]];unfold SD;rw[ve c]
  simp_all
 .refine%[M++[x],?_,λh=>nodup_append.mpr %[h,by simp|λa d b f e=>c (by rw[<-X9 f,<-e];exact d)]|λy=>by simp];unfold SD;rw[dP _ (dO c)];unfold VD;rw[Zc];rfl
theorem tE:∀{R M:ZB},∃M2,kr (SD M) (SD R)=SD M2/\(M.Nodup->M2.Nodup)/\∀y,y∈M2↔y∈M\/y∈R
 |[],M=>%[M,rfl,λh=>h|λy=>by simp]
 | x::R,M=>by
   obtain⟨M1,a,b,c⟩:=AC;obtain⟨M2,d,e,m2⟩:=tE (R:=R);refine%[M2,?_,λh=>e (b h)|λy=>by rw[m2,c,Yo,or_assoc]];show kr (cJ _ (Sum.inr x) (.bl true)) (SD R)=_;rw[a,d]
theorem xW(r:Rch ks a c):∃y,Ed ks a y/\(y=c\/Rch ks y c):=by
 induction r with
 | one e=>exact%[_,e|.inl rfl]
 | more _ e b=>
   obtain⟨y,h,q⟩:=b;exact%[y,h|.inr (q.elim (λq=>q▸ .one e) λq=> .more q e)]
theorem E7{b:ZB}{ss:ZG}(h:∀t∈ss,du b t.2){x y:Str}(r:Rch (ss.map (·.2)) x y):y∈b:=by
 have:∃a,Ed (ss.map (·.2)) a y:=by
  cases r with
  | one e=>exact%[_|e]
  | more _ e=>exact%[_|e]
 obtain⟨a,z,d⟩:=this;obtain⟨t,f,c⟩:=Xa d;obtain⟨u,v,w,e,_,g⟩:=h t f;rw[e]at c;exact((List.cons.inj (List.cons.inj c).2).1)▸g
structure Rea (H:Hp) (ks:List ZB) (rs:Gs Str):Prop where
 nd:(rs.map (·.1)).Nodup
 ad:(rs.map (·.2.1)).Nodup
 at_:∀r∈rs,H r.2.1=some (.dK (SD r.2.2))/\r.2.2.Nodup/\∀y,y∈r.2.2↔Rch ks r.1 y
def Ct:Sp:=λvs H Q _=>∃l m a ss,vs=[.ref l,.ref m]/\H l=some (.lst (a.map V.str))/\a.Nodup/\a.length<=60/\H m=some (.lst (ss.map λt=>V.ref t.1))/\c6 H a ss/\ss.length<=62/\(∀x,¬ Rch (ss.map (·.2)) x x)/\
 ∀d b rs,af H b->H d=none->b d=some (.dK (gD rs))->Rea b (ss.map (·.2)) rs->(∀r∈rs,r.2.1≠d/\H r.2.1=none)->(∀x,x∈rs.map (·.1)↔x∈a)->Q (.ref d) b
theorem nR(T:Txt K mg):↥4 "all_beneath" ["names","found"] Ct:=by
 refine T.aM.cal cA (λH vs Q E h=>?_)
 .obtain⟨l,m,ns,ss,rfl,hl,nn,nl,hm,Y,bb,nr,kk⟩:=h;refine%[rfl|λf cs A outer s u=>?_];refine%[_,(QSs.h (ah (aI 2 cA.nd rfl (aG (cH T) u rfl #[↑1]))
   (ah (aI 3 cA.nd rfl fG)
   (ah (cq PassesOwn.never rfl rfl (bW (K:=K) rfl (aG (fB T) u rfl #[↑0,↑1])) (aJ 4 cA.nd rfl)
   (ah (eY u rfl fG ↑3 ↑4)
    (aq (cq PassesOwn.never rfl rfl (bW (K:=K) rfl (bmO (K:=K) plainAttrs_dict slot_dict_get type_dict_get sH rfl ↑2 #[↑4,cj ap])) (aJ 5 cA.nd rfl)
    (ah (eY u rfl eBl (cb u (λ_ _=>rfl) ↑3 ↑4) (↑5>>(gvE T.am rfl rfl)))
     (aq (bD rfl (bmO (K:=K) plainAttrs_dict PySem.F.slot_dict_update PySem.F.type_dict_update z5 rfl (cb u (λ_ _=>rfl) ↑3 ↑4) #[(cb u (λ_ _=>rfl) ↑3 (↑5>>(gvE T.am rfl rfl)))]))))))))
   (aq (aO ↑3))))))|?_]
  show aY _ _ _ [!l,!m,none,none,none,none] H;refine ao λD1 k1 _=>?_
  lk;refine%[m,ns,ss,rfl,hm,Y,bb|λb H1 s1 fb hb=>k1 _ _ (ao λD2 k2 _=>?_)];lk;intro d fd;refine k2 _ _ (ao λD3 k3 _=>aw λbf hK=>?_);have s2:=af.upd (o:= .dK []) fd;have hd:upd H1 d (.dK []) d=some (.dK (gD ([]:Gs Str))):=aa;have ab:=s1.trans s2;have bl:b≠d:=λc=>by
   obtain⟨bm,I,_⟩:=hb;rw[c,fd]at I;cases I
  have bn:=s1.free fd;have bp:=hb.up s2
  generalize upd H1 d (.dK [])=H2 at s2 hd ab bp
  lk;refine%[l,m,ns,ss,rfl,ab _ _ hl,nn,nl,ab _ _ hm,Y.up ab,bb|λr H3 L s3 an Ln Ls ca rest=> .inl %[r,rfl,%[_|SqL.of an]|hK _ _ ?_]];have ct:=s2.trans s3;have bt:∀x∈ns,x∈L:=λx hx=>Decidable.byContradiction λc=>Aa (ks:=ss.map (·.2)) (U:=ns.filter λx=>decide (x∉L)) (λx hx=>by
   obtain⟨I,N⟩:=List.mem_filter.mp hx;obtain⟨y,e,yn,yl⟩:=rest x I (Zn N);exact%[y,List.mem_filter.mpr %[yn|Ze yl]|e]) nr (List.mem_filter.mpr %[hx|Ze c])
  have Lm:(L.map V.str).length=L.length:=Z5 _;have Ll:=STab.nodup_sub Ln Ls;have bU:=bp.up s3;have as:=ab.trans s3;refine aX (xs:=L.map V.str) (λi σ G=>(∃o4 o5,σ=[!l,!m,!b,!d,o4,o5])/\cD d H3 G/\∃rs:Gs Str,G d=some (.dK (gD rs))/\Rea G (ss.map (·.2)) rs/\(∀r∈rs,r.2.1≠d/\H3 r.2.1=none)/\rs.map (·.1)=L.take i)
   %[%[_,_|rfl],λ_ _ _ e=>e,[],s3 _ _ hd,%[Yu,Yu|λ_ h=>(nomatch h)],λ_ h=>(nomatch h)|rfl] (λi σ G _ h=>SqL.of (h.2.1 _ _ (λc=>by have:=s3 _ _ hd;rw[<-c,an]at this;cases this) an)) ?_ ?_
  .rintro i v σ G hv ⟨⟨o4,o5,rfl⟩,sm,rs,ai,g,rn,rk⟩;rw[Zk]at hv;obtain⟨n,hn,rfl⟩:=map_eq_some_iff.mp hv;have tk:L.take (i+1)=L.take i++[n]:=by rw[Yz,hn];rfl
   show aY _ _ _ [!l,!m,!b,!d,-n,o5] G;refine ao λD4 k4 _=>?_
   lk;intro e fe;have C:e≠d:=λc=>by rw[c,ai]at fe;cases fe
   have a0:n∉rs.map (·.1):=by
    rw[rk];intro c;obtain⟨j,hj⟩:=X2 c;have jl:=(X7 hj).1;rw[Ye]at jl;rw[Y5 ⋯]at hj;have:=cv Ln hj hn
    lia
   have rl:rs.length<=60:=by
    have:(rs.map (·.1)).length<=L.length:=by rw[rk,Ye];lia
    rw[Z5]at this
    lia
   have e3:H3 e=none:=by
    cases q:H3 e with
    | none=>rfl
    | some o=>rw[sm e o C q]at fe;cases fe
   refine%[_,gE.k (k:=Sum.inr n) (af.upd fe _ _ ai) (by unfold gD;rw[Z5];exact az ⋯)|k4 _ _ ?_];rw[dP _ (rj a0),show gD rs++[(Sum.inr n,V.ref e)]=gD (rs++[(n,e,[])]) by unfold gD;rw[Zc];rfl];have he:upd (upd G e (.dK [])) d (.dK (gD (rs++[(n,e,[])]))) e=some (.dK (SD [])):=by rw[am C,aa];rfl
   have b0:upd (upd G e (.dK [])) d (.dK (gD (rs++[(n,e,[])]))) d=_:=aa;have o4:∀c o,c≠d->G c=some o->upd (upd G e (.dK [])) d (.dK (gD (rs++[(n,e,[])]))) c=some o:=λc o h q=>by rw[am h,am (ar q fe)];exact q
   generalize upd (upd G e (.dK [])) d (.dK (gD (rs++[(n,e,[])])))=H4 at he b0 o4
   have a1:cD d H3 H4:=λc o h q=>o4 c o h (sm c o h q)
   refine aB λD5 k5 _=>aw λbf hK=>?_
   lk;refine%[.inr (.inr (.inl (.inl %[_|a1 _ _ bl bU.choose_spec.1]))),#[0]|λp hp=>?_];obtain⟨bm,a,b1,cd,aj,ch⟩:=bU.get a1 bl (λxs c=>by rw[s3 _ _ hd]at c;cases c) hp n;have sp:=af.upd (o:= .lst []) hp;have he:=sp _ _ he;have a2:=sp _ _ b0;have a3:=a1.trans (cD.of sp);have a4:∀c o,c≠d->G c=some o->upd H4 p (.lst []) c=some o:=λc o h q=>sp _ _ (o4 c o h q)
   have ae:a≠e:=by
    rcases ch with rfl|⟨o,ho⟩
    .exact λc=>by rw[c]at hp;have:=he;rw[c,aa]at this;cases this
    .exact λc=>by rw[c,e3]at ho;cases ho
   generalize upd H4 p (.lst [])=H5 at b1 aj he a2 a3 a4 ⊢
   generalize b2:(ss.filter λt=>decide (t.2[0]? =some n))=ts at aj
   have tm:(ts.map λt=>V.ref t.1).length=ts.length:=Z5 _;have cl:∀t∈ts,t∈ss/\∃y z,t.2=[n,y,z]:=λt ht=>by
    rw[<-b2]at ht;obtain⟨I,N⟩:=List.mem_filter.mp ht;obtain⟨x,y,z,e,_⟩:=(Y t I).2;have N:=Zn N;rw[e]at N;exact%[I,y,z|by rw[e,show x=n from Z9 N]]
   refine%[Sum.inr n,rfl,bm,b1|.inl %[a,cd,%[_|SqL.of aj]|hK _ _ ?_]];refine aX (xs:=ts.map λt=>V.ref t.1) (λj σ O=>(∃o5,σ=[!l,!m,!b,!d,-n,o5])/\cD e H5 O/\∃M:ZB,O e=some (.dK (SD M))/\M.Nodup/\(∀y∈M,Rch (ss.map (·.2)) n y)/\∀t∈ts.take j,∀y,t.2[1]? =some y->y∈M/\∀z,Rch (ss.map (·.2)) y z->z∈M)
    %[%[_|rfl],λ_ _ _ q=>q,[],he,Yu,λ_ h=>(nomatch h)|λ_ h=>(nomatch h)] (λj σ O _ h=>SqL.of (h.2.1 _ _ ae aj)) ?_ ?_
   .rintro j v σ O hv ⟨⟨o5,rfl⟩,B,M,hM,Mn,Mr,Md⟩;rw[Zk]at hv;obtain⟨t,ht,rfl⟩:=map_eq_some_iff.mp hv;obtain⟨b3,y,z,et⟩:=cl t (Z7 ht);show aY _ _ _ [!l,!m,!b,!d,-n,some (.ref t.1)] O;refine ao λD6 k6 _=>?_
    lk;have a5:∀c o,c≠d->c≠e->H3 c=some o->O c=some o:=λc o I N q=>B c o N (a3 c o I q)
    have te:∀c zs,H3 c=some (.tup zs)->O c=some (.tup zs):=λc zs q=>a5 c _ (λz=>by rw[z,s3 _ _ hd]at q;cases q) (λz=>by rw[z,e3]at q;cases q) q
    have t6:=te _ _ (as _ _ (Y t b3).1);rw[et]at t6;have a6:=B d _ C.symm a2;have al:bz (gD (rs++[(n,e,([]:ZB))])) (Sum.inr n)=some (.ref e):=by
     obtain⟨r,co,e1,hv⟩:=lr (rs:=rs++[(n,e,[])]) (y:=n) ∅;rcases X8 co with q|q
     .exact(a0 (by exact e1▸Xb %[r,q|rfl])).elim
     .rw[X9 q]at hv;exact hv
    have gn:=bJ.k (k:=Sum.inr n) a6;rw[al]at gn;have ed:Ed (ss.map (·.2)) n y:=%[z|et▸Xb %[t,b3|rfl]]
    have yt:=ca i n hn y ed;rw[<-rk]at yt;obtain⟨M1,e1,n1,m1⟩:=AC (M:=M) (x:=y);have a7:∀U:ZB,U.Nodup->(∀x∈U,Rch (ss.map (·.2)) n x)->U.length<=60:=λU I N=>Y9 (STab.nodup_sub I λx hx=>E7 (λt ht=>(Y t ht).2) (N x hx)) nl
    have Ml:=a7 M Mn Mr;refine%[_,gn,_,SqT.of t6,_,rfl,e,rfl,_,gE.k (k:=Sum.inr y) hM (by unfold SD VD;rw[Z5];exact az ⋯)|k6 _ _ (aB λD7 k7 _=>?_)];rw[e1];have b4:∀x∈M1,Rch (ss.map (·.2)) n x:=λx hx=>((m1 x).mp hx).elim (Mr x) λq=>q▸ .one ed
    have a8:upd O e (.dK (SD M1)) e=some (.dK (SD M1)):=aa;have u7:∀c o,c≠e->O c=some o->upd O e (.dK (SD M1)) c=some o:=λc o h q=>(am h)▸q
    generalize upd O e (.dK (SD M1))=H7 at a8 u7
    have b5:=bJ.k (k:=Sum.inr n) (u7 _ _ C.symm a6);rw[al]at b5;obtain⟨ry,J,ey,gy⟩:=lr (rs:=rs++[(n,e,[])]) (y:=y) (Zc▸Ym _ yt);have J:ry∈rs:=by
     rcases X8 J with q|q
     .exact q
     .rw[X9 q]at ey;exact(nr n (.one (by rw[<-show n=y from ey]at ed;exact ed))).elim
    have b6:=bJ.k (k:=Sum.inr y) (u7 _ _ C.symm a6);rw[gy]at b6;have a9:ry.2.1≠e:=ar (g.at_ ry J).1 fe;have cp:=u7 _ _ a9 (B _ _ a9 (a4 _ _ (rn ry J).1 (g.at_ ry J).1));lk;obtain⟨M2,e2,n2,m2⟩:=tE (R:=ry.2.2) (M:=M1);have ag:=(g.at_ ry J).2;rw[ey]at ag;have cx:=a7 M1 (n1 Mn) b4;have Rl:=a7 ry.2.2 ag.1 λx hx=>(Rch.one ed).trans ((ag.2 x).mp hx)
    refine%[_,b5,.inr (.inr (.inl (.inl %[_|a8]))),_,SqT.of (u7 _ _ (λc=>by rw[c,hM]at t6;cases t6) t6),_,rfl,_,b6,ry.2.1,rfl,_,_,a9.symm,a8,cp,by unfold SD VD;rw[Z5,Z5,PySem.sizeLine_eq];lia|?_];rw[e2];refine k7 _ _ %[%[_|rfl],λc o h q=>(am h)▸u7 c o h (B c o h q),M2,aa,n2 (n1 Mn),λx hx=>?_|λt' b7 x ex=>?_]
    .rcases(m2 x).mp hx with q|q
     .exact b4 x q
     .exact(Rch.one ed).trans ((ag.2 x).mp q)
    .rw[Yz,ht]at b7;rcases X8 b7 with q|q
     .obtain⟨I,N⟩:=Md t' q x ex;exact%[(m2 x).mpr (.inl ((m1 x).mpr (.inl I)))|λz hz=>(m2 z).mpr (.inl ((m1 z).mpr (.inl (N z hz))))]
     .rw[show t'=t from X9 q,et]at ex;obtain rfl:y=x:=Z9 ex;exact%[(m2 y).mpr (.inl ((m1 y).mpr (.inr rfl)))|λz hz=>(m2 z).mpr (.inr ((ag.2 z).mpr hz))]
   .rintro σ O ⟨⟨o5,rfl⟩,B,M,hM,Mn,Mr,Md⟩;rw[tm,Zm (Zh _)]at Md;have all:∀y,y∈M↔Rch (ss.map (·.2)) n y:=λy=>%[Mr y|λr=>by
     obtain⟨x,⟨z,hz⟩,q⟩:=xW r;obtain⟨t,ht,et⟩:=Xa hz;have h:=Md t (b2▸List.mem_filter.mpr %[ht|by rw[et];simp]) x (by rw[et];rfl);exact q.elim (λq=>q▸h.1) λq=>h.2 y q]
    have b9:∀r∈rs,r.2.1≠e:=λr u=>ar (g.at_ r u).1 fe
    refine k5 _ _ %[%[_,_|rfl],λc o h q=>B c o (ar q e3) (a3 c o h q),rs++[(n,e,M)],?_,%[?_,?_|λr u=>?_],λr u=>?_|by rw[Zc,rk,tk];rfl]
    .rw[B d _ C.symm a2];unfold gD;rw[Zc,Zc];rfl
    .rw[Zc,Ys];exact%[g.nd,by simp|λa ha b hb c=>a0 (by rw[<-show b=n from X9 hb,<-c];exact ha)]
    .rw[Zc,Ys];refine%[g.ad,by simp|λa ha b hb c=>?_];obtain⟨r,u,rfl⟩:=Xa ha;exact b9 r u (c.trans (X9 hb))
    .rcases X8 u with q|q
     .exact%[B _ _ (b9 r q) (a4 _ _ (rn r q).1 (g.at_ r q).1)|(g.at_ r q).2]
     .rw[X9 q];exact%[hM,Mn|all]
    .rcases X8 u with q|q
     .exact rn r q
     .rw[X9 q];exact%[C|e3]
  .rintro σ G ⟨⟨o4,o5,rfl⟩,sm,rs,ai,g,rn,rk⟩;rw[Lm,Zm (Zh _)]at rk;refine k3 _ _ ?_;lk;exact kk d G rs (λc o e=>sm c o (ar e bn) (as _ _ e)) bn ai g (λr u=>%[(rn r u).1|as.free (rn r u).2]) λx=>rk▸%[Ls x|bt x]
structure ReF (H:Hp) (ks:List ZB) (d:Addr) (rs:Gs Str):Prop where
 at_:∃o,H d=some (.frz o (.dK (gD rs)))
 nd:(rs.map (·.1)).Nodup
 in_:∀r∈rs,(∃o,H r.2.1=some (.frz o (.dK (SD r.2.2))))/\r.2.2.Nodup/\∀y,y∈r.2.2↔Rch ks r.1 y
theorem ReF.up(h:ReF H ks d rs)(s:af H b):ReF b ks d rs:=
 %[h.at_.imp λo e=>s _ _ e,h.nd|λr a=>%[(h.in_ r a).1.imp λo e=>s _ _ e|(h.in_ r a).2]]
def Cu:Sp:=λvs H Q _=>∃l m a ss,vs=[.ref l,.ref m]/\H l=some (.lst (a.map V.str))/\a.Nodup/\a.length<=60/\H m=some (.lst (ss.map λt=>V.ref t.1))/\c6 H a ss/\ss.length<=62/\(∀x,¬ Rch (ss.map (·.2)) x x)/\
 ∀d b rs,af H b->ReF b (ss.map (·.2)) d rs->(∀x,x∈rs.map (·.1)↔x∈a)->Q (.ref d) b
theorem oF(T:Txt K mg):↥4 "all_beneath" ["names","found"] Cu:=by
 refine(nR T).freeze.imp λvs H Q E zqw=>?_;obtain⟨l,m,f,ss,g,h,i,j,n,p,s,t,u⟩:=zqw;refine %[l,m,f,ss,g,h,i,j,n,p,s,t|λd B rs v C y a z A=>%[d::rs.map _|λG=>u d _ rs (λc o e=>?_) %[%[_|jZ Zl y],a.nd|λr b=>%[%[_|jZ (Zj _ (Xb %[r,b|rfl])) (a.at_ r b).1]|(a.at_ r b).2]] A]]
 rw[iI]
 .exact v c o e
 .intro q;rcases mem_cons.mp q with rfl|q
  .lia
  .obtain⟨r,b,rfl⟩:=Xa q;rw[(z r b).2]at e;cases e
def Cv(mg:ZC):Sp:=λvs H Q _=>∃g qs b ts,vs=[.ref g]/\ik mg H g qs b ts/\(∀lk,bv (bh qs) (ts.map (·.2)) lk->∀x,¬ Rch lk x x)/\
 ∀d a rs lk c,af H a->bv (bh qs) (ts.map (·.2)) lk->jn (bh qs) b c->ReF a lk d rs->(∀x,x∈rs.map (·.1)↔x∈c)->Q (.ref d) a
theorem iS(T:Txt K mg):↥7 "earlier_ones" ["ground"] (Cv mg):=by
 refine T.aW.cal iq (λH vs Q E h=>?_)
 .obtain⟨g,qs,e,ts,rfl,a,n,r⟩:=h;refine%[rfl|λf q A outer s c=>?_];obtain⟨u,v,y,z⟩:=a.gr;have ll:=a.ll;refine%[_,(QSs.h (ah (aI 1 iq.nd rfl (aG (iR T) c rfl #[↑0]))
   (aq (aO (aG (oF T) c rfl #[aG (bN T) c rfl #[↑0],↑1])))))|?_]
  show aY _ _ _ [some _,none] H;refine ao λD1 B _=>?_
  lk;refine%[g,qs,e,ts,rfl,a,n|λl H1 C ss o G I J lk=>B _ _ ?_];lk;refine%[g,u,v,y,qs,e,ts,rfl,z.up o,a.nd,a.so,⋯|λm H2 i j fm L b=>?_];have nl:i.length<=60:=by
   have:=STab.nodup_sub b.nd λx M=>((b.mem x).mp M).1
   lia
  refine%[m,l,i,ss,rfl,L,b.nd,nl,j _ _ G,λt p=>%[j _ _ (I t p).1|a.names lk b _ (Xb %[t,p|rfl])],J,n _ lk|λd N rs O U Y=>r d N rs _ i (o.trans (j.trans O)) lk b U Y]
noncomputable def TD(L:ZB)(m:Str->Str):List (Key×V):=VD L λx=> .str (m x)
structure F2 (ks:List _) (ns L:ZB) (m:Str->Str) (A0 Q:ZB) (g:Str->Str) (W:ZB):Prop where
 ask:Ask (Rch ks) L m A0 Q g
 ql:∀x∈Q,x∈L
 qn:∀x∈Q,x∈ns
 wn:∀b∈W,b∈ns/\(b∈A0\/∃y∈Q,y∈L/\m y=b)
 cl:∀b,(b∈A0\/∃y∈Q,y∈L/\m y=b)->b∈W\/∀p,Rch ks b p->p∈Q
structure Cw (ks:List _) (ns L:ZB) (m:Str->Str) (A0 Q:ZB) (g:Str->Str) (W:ZB) (b:Str):Prop where
 ask:Ask (Rch ks) L m A0 Q g
 ql:∀x∈Q,x∈L
 qn:∀x∈Q,x∈ns
 wn:∀b∈W,b∈ns/\(b∈A0\/∃y∈Q,y∈L/\m y=b)
 cl:∀c,(c∈A0\/∃y∈Q,y∈L/\m y=c)->c∈W\/c=b\/∀p,Rch ks c p->p∈Q
 by_:b∈A0\/∃y∈Q,y∈L/\m y=b
theorem vV(a:Ask E L m h Q g)(j:p∉Q)(e:E b p)(f:b∈h\/∃y∈Q,y∈L/\m y=b):Ask E L m h (Q++[p]) (λx=>if x=p then b else g x):=by
 refine%[nodup_append.mpr %[a.nd,by simp|λx d y o c=>j (by rw[<-X9 o,<-c];exact d)]|λi x d=>?_];by_cases c:i<Q.length
 .rw[Y3 c]at d;have n:x≠p:=λz=>j (z▸Z7 d)
  rw[if_neg n,List.take_append_of_le_length (le_of_lt c)];exact a.by_ i x d
 .have l:=(X7 d).1;rw[Z8,Yd]at l;obtain rfl:i=Q.length:=by lia
  rw[Y4 (Zh _),sub_self]at d;obtain rfl:p=x:=Z9 d;rw[if_pos rfl,List.take_left];exact%[e|f]
theorem Cw.add{i L d Q W:ZB}(a:Cw ks i L m d Q g W b)(n:p∉Q)(e:Rch ks b p)(pl:p∈L)(pn:p∈i)(o:m p∈i):Cw ks i L m d (Q++[p]) (λx=>if x=p then b else g x) (W++[m p]) b:=by
 have up:∀{c},(c∈d\/∃y∈Q,y∈L/\m y=c)->c∈d\/∃y∈Q++[p],y∈L/\m y=c:=λh=>h.imp_right λ⟨y,h,q⟩=>%[y,Ym _ h|q]
 refine%[vV a.ask n e a.by_,λx j=>?_,λx j=>?_,λc l=>?_,λc l=>?_|up a.by_]
 .exact(X8 j).elim (a.ql x) λh=>X9 h▸pl
 .exact(X8 j).elim (a.qn x) λh=>X9 h▸pn
 .rcases X8 l with h|h
  .exact%[(a.wn c h).1|up (a.wn c h).2]
  .rw[X9 h];exact%[o|.inr %[p,Yn _ Zl,pl|rfl]]
 .have f:(c∈d\/∃y∈Q,y∈L/\m y=c)->c∈W++[m p]\/c=b\/∀q,Rch ks c q->q∈Q++[p]:=λh=>(a.cl c h).imp (Ym _) λh=>h.imp_right λh q r=>Ym _ (h q r)
  rcases l with h|⟨y,s,t,rfl⟩
  .exact f (.inl h)
  .rcases X8 s with h|h
   .exact f (.inr %[y,h,t|rfl])
   .rw[X9 h];exact .inl (Yn _ Zl)
theorem cE:((bz (TD L m) (Sum.inr x)).isSome=true↔x∈L)/\(x∈L->bz (TD L m) (Sum.inr x)=some (.str (m x))):=by
 refine%[?_|λh=>cY h];unfold TD;by_cases c:x∈L
 .rw[cY c];exact%[λ_=>c|λ_=>rfl]
 .rw[dO c];simp_all
theorem vf(h:x∉L):cJ (TD L m) (Sum.inr x) (.str y)=TD (L++[x]) (λz=>if z=x then y else m z):=by
 unfold TD;rw[dP _ (dO h)];unfold VD;rw[Zc];refine congr (congrArg _ (Yi λa b=>?_)) ∅;show(Sum.inr a,V.str _)=((Sum.inr a),V.str (if a=x then y else m a))
 rw[if_neg (λc:a=x=>h (c▸b))]
def Cy:Sp:=λvs H Q _=>∃(d h i:Addr) (ks:List _) (rs:Gs Str) (a L c:ZB) (m:Str->Str),vs=[.ref d,.ref h,.ref i]/\ReF H ks d rs/\(∀x,x∈rs.map (·.1)↔x∈a)/\(∀x y,Rch ks x y->y∈a)/\a.length<=60/\a.Nodup/\Rd H h (.dK (TD L m))/\(∀x∈L,m x∈a)/\H i=some (.lst (c.map V.str))/\(∀x∈c,x∈a)/\c.length<=60/\
 ∀q e U g,af H e->H q=none->e q=some (.dK (TD U g))->Ask (Rch ks) L m c U g->(∀x∈U,x∈a)->((∃f∈U,f∉L)\/((∀x∈U,x∈L)/\∀b,(b∈c\/∃y∈U,y∈L/\m y=b)->∀p,Rch ks b p->p∈U))->Q (.ref q) e
theorem oG(T:Txt K mg):↥1 "ask_around" ["partners","held_by","askers"] Cy:=by
 refine T.aO.cal cO (λH vs Q E h=>?_)
 .obtain⟨d,u,al,ks,rs,ns,L,A0,m,rfl,re,rk,rn,nl,nn,hh,mn,ha,an,a9,kk⟩:=h;refine%[rfl|λf bf A outer s hr=>?_];refine%[_,(QSs.h (ah (aI 3 cO.nd rfl fG)
   (ah (aI 4 cO.nd rfl ↥↑2)
   (ah (gT PassesOwn.never (bA qq rfl ↑↑4 av)
   (ah (aI 5 cO.nd rfl (FI (K:=K) rfl plainAttrs_list PySem.F.slot_list_pop PySem.F.type_list_pop FS rfl rfl ↑4))
    (aq (cq PassesOwn.never rfl rfl (pM (cb hr (λ_ _=>rfl) ↑0 ↑5)) (aJ 6 cO.nd rfl)
    (aq (ifS (eD hr rfl ↑6 ↑3)
     (ah (eY hr rfl ↑5 ↑3 ↑6)
      (ah (ifS (eD hr rfl ↑6 ↑1)
      (aq (aO ↑3))
      bw)
      (aq (bD rfl (bmO (K:=K) plainAttrs_list PySem.F.slot_list_append PySem.F.type_list_append aP rfl ↑4 #[(cb hr (λ_ _=>rfl) ↑1 ↑6)])))))
     bw))))))
   (aq (aO ↑3))))))|?_]
  show aY _ _ _ [!d,!u,!al,none,none,none,none] H;refine ao λD1 k1 _=>?_
  lk;intro q fq;refine k1 _ _ (ao λD2 k2 _=>?_);have s1:=af.upd (o:= .dK []) fq;have M:upd H q (.dK []) q=some (.dK (TD [] id)):=aa
  generalize upd H q (.dK [])=H1 at s1 M
  lk;refine%[_,.inl (SqL.of (s1 _ _ ha))|λj fw=>k2 _ _ (ao λD3 k3 r3=>?_)];have ae:j≠q:=λc=>by rw[c,M]at fw;cases fw
  have s2:=af.upd (o:= .lst (A0.map V.str)) fw;have hw:upd H1 j (.lst (A0.map V.str)) j=_:=aa;have M:=s2 _ _ M;have a0:=s1.trans s2;have a1:=s1.free fw
  generalize upd H1 j (.lst (A0.map V.str))=H2 at hw M a0
  refine⟨λn σ a=>∃(o5 J:Option V) (U W:ZB) (g:Str->Str),σ=[!d,!u,!al,!q,!j,o5,J]/\af H a/\a q=some (.dK (TD U g))/\a j=some (.lst (W.map V.str))/\F2 ks ns L m A0 U g W/\n=2*(61-U.length) +W.length/\n<=200,%[_,none,none,[],A0,id,rfl,a0,M,hw,%[%[Yu|λi x e=>(nomatch e)],λ_ h=>(nomatch h),λ_ h=>(nomatch h),λb u=>%[an b u|.inl u]|λb u=> .inl (u.elim (λh=>h) λ⟨_,h,_⟩=>(nomatch h))],rfl|by rw[length_nil];lia],?_⟩;rintro n σ H3 ⟨o5,J,U,W,g,rfl,sm,M,hw,B,rfl,ab⟩;have wm:(W.map V.str).length=W.length:=Z5 _;lk;have Ul:=STab.nodup_sub B.ask.nd B.qn;refine%[W.length,.inl %[_,SqL.of hw|wm.symm]|bi (λc=>?_) λc=>?_]
  .have c:=Zn c;obtain⟨W1,b,rfl⟩:∃W1 b,W=W1++[b]:=%[W.dropLast,W.getLast (λe=>by rw[e]at c;simp at c)|(List.dropLast_concat_getLast _).symm]
   refine⟨λa2 a=>∃n',n'<2*(61-U.length) +(W1++[b]).length/\∃(o5 J:Option V) (U W:ZB) (g:Str->Str),a2=[!d,!u,!al,!q,!j,o5,J]/\af H a/\a q=some (.dK (TD U g))/\a j=some (.lst (W.map V.str))/\F2 ks ns L m A0 U g W/\n'=2*(61-U.length) +W.length/\n'<=200,λa2 a ⟨n',h1,o5,J,U,W,g,h2,h3,h4,h5,h6,h7⟩=>%[n',h1,%[o5,J|h2],h3,U,W,g,h4,h5,h6|h7],.inl %[_|SqL.of hw],j,_,.str b,rfl,rfl,hw,by simp,aw λbb hK=>?_⟩;have dl:((W1++[b]).map V.str).dropLast=W1.map V.str:=Zc▸List.dropLast_concat;rw[dl];have a3:upd H3 j (.lst (W1.map V.str)) j=_:=aa;have a4:upd H3 j (.lst (W1.map V.str)) q=some (.dK (TD U g)):=(am ae.symm)▸M;have N:af H (upd H3 j (.lst (W1.map V.str))):=af.set sm a1
   generalize upd H3 j (.lst (W1.map V.str))=H4 at a3 a4 N ⊢
   obtain⟨bn,a6⟩:=B.wn b ∅;obtain⟨o,ed⟩:=re.at_;obtain⟨r,a7,er,gv⟩:=lr (rs:=rs) (y:=b) ((rk b).mpr bn);obtain⟨⟨ro,a5⟩,bl,C⟩:=re.in_ r a7;rw[er]at C;unfold lJ;lk;have kl:(SD r.2.2).length=r.2.2.length:=Z5 _;refine%[_,(.inl %[_,Sum.inr b,.inr %[o|N _ _ ed],rfl|gv.symm]),_,rfl,_,_,N _ _ a5|hK _ _ (ng (λi σ a=>(∃J,σ=[!d,!u,!al,!q,!j,-b,J])/\af H a/\∃(l W2:ZB) (g1:Str->Str),a q=some (.dK (TD l g1))/\a j=some (.lst (W2.map V.str))/\Cw ks ns L m A0 l g1 W2 b/\(∀x∈r.2.2.take i,x∈l)/\2*(61-l.length) +W2.length<=2*(61-U.length) +W1.length)
    %[%[_|rfl],N,U,W1,g,a4,a3,%[B.ask,B.ql,B.qn,λc hc=>B.wn c (Ym _ hc),λc hc=>(B.cl c hc).elim (λh=>(X8 h).imp_right λh=> .inl (X9 h)) λh=> .inr (.inr h)|a6],λ_ h=>(nomatch h)|Zh _] (λi σ a _ h=>h.2.1 _ _ a5) ?_ ?_)]
   .rintro i k v σ a hv ⟨⟨J,rfl⟩,O,l,W2,g1,G,Y,t,dn,le⟩;unfold SD VD at hv;rw[Zk]at hv;obtain⟨p,hp,ep⟩:=map_eq_some_iff.mp hv;obtain⟨rfl,rfl⟩:Sum.inr p=k/\V.bl true=v:=%[congrArg (·.1) ep|congrArg (·.2) ep]
    have tk:r.2.2.take (i+1)=r.2.2.take i++[p]:=by rw[Yz,hp];rfl
    have bp:=(C p).mp (Z7 hp);have bm:=STab.nodup_sub t.ask.nd t.qn;show jG _ _ _ _ [!d,!u,!al,!q,!j,-b,-p] a;refine aB λD4 k4 r4=>?_
    lk;refine%[_,bJ.k (k:=Sum.inr p) G|bi (λc=>?_) λc=>?_]
    .have pn:p∉l:=λh=>by rw[cE.1.mpr h]at c;cases c
     refine%[_,gE.k (k:=Sum.inr p) G (by unfold TD VD;rw[Z5];exact az ⋯)|?_];rw[vf pn];have I:=af.set (o:= .dK (TD (l++[p]) λz=>if z=p then b else g1 z)) O fq;have ag:upd a q (.dK (TD (l++[p]) λz=>if z=p then b else g1 z)) q=_:=aa;have as:upd a q (.dK (TD (l++[p]) λz=>if z=p then b else g1 z)) j=some (.lst (W2.map V.str)):=(am ae)▸Y
     generalize upd a q (.dK (TD (l++[p]) λz=>if z=p then b else g1 z))=H6 at I ag as ⊢
     have gh:bJ H6 u (.str p) (bz (TD L m) (Sum.inr p)):= .inl %[_,Sum.inr p,hh.imp (I _ _) λ⟨o,e⟩=>%[o|I _ _ e],rfl|rfl];refine%[_,gh|bi (λe=>?_) λe=>?_]
     .have pl:p∉L:=λh=>by rw[cE.1.mpr h]at e;cases e
      exact r4 _ _ (r3 _ _ (kk q H6 _ _ I fq ag (vV t.ask pn bp t.by_) (λx hx=>(X8 hx).elim (t.qn x) λh=>X9 h▸rn _ _ bp) (.inl %[p,Yn _ Zl|pl])))
     .have pl:p∈L:=cE.1.mp (by cases h:(bz (TD L m) (Sum.inr p)).isSome with
       | true=>rfl
       | false=>rw[h]at e;exact absurd rfl e)
      rw[cE.2 pl]at gh;have bt:W2.length<=200:=by rw[Z8]at ab;lia
      refine%[.inl %[_|SqL.of as],_,gh,_,as,by rw[Z5];exact az ⋯|k4 _ _ %[%[_|rfl],af.set I a1,l++[p],W2++[m p],_,(am ae.symm).trans ag,by rw[aa,Zc];rfl,t.add pn bp pl (rn _ _ bp) (mn p pl),λx hx=>?_|?_]]
      .rw[tk]at hx;exact(X8 hx).elim (λh=>Ym _ (dn x h)) λh=>Yn _ h
      .have a8:=STab.nodup_sub (t.add pn bp pl (rn _ _ bp) (mn p pl)).ask.nd (t.add pn bp pl (rn _ _ bp) (mn p pl)).qn;rw[Z8,Yd]at a8 ⊢;rw[Z8,Yd]
       lia
    .have pu:p∈l:=cE.1.mp (by cases h:(bz (TD l g1) (Sum.inr p)).isSome with
      | true=>rfl
      | false=>rw[h]at c;exact absurd rfl c)
     refine k4 _ _ %[%[_|rfl],O,l,W2,g1,G,Y,t,λx hx=>?_|le];rw[tk]at hx;exact(X8 hx).elim (dn x) λh=>X9 h▸pu
   .rintro σ a ⟨⟨J,rfl⟩,O,l,W2,g1,G,Y,t,dn,le⟩;rw[kl,Zm (Zh _)]at dn;rw[Z8,Yd]at ab;refine%[_,?_,_,_,l,W2,g1,rfl,O,G,Y,%[t.ask,t.ql,t.qn,t.wn|λc hc=>?_],rfl|⋯]
    .rw[Z8,Yd];lia
    .rcases t.cl c hc with h|rfl|h
     .exact .inl h
     .exact .inr λp hp=>dn p ((C p).mpr hp)
     .exact .inr h
  .refine k3 _ _ ?_;have e:W=[]:=by
    cases W with
    | nil=>rfl
    | cons x W=>exact absurd (Ze (by rw[Zq];lia)) c
   subst e;lk;exact kk q H3 U g sm fq M B.ask B.qn (.inr %[B.ql|λb u=>(B.cl b u).resolve_left λh=>(nomatch h)])
def E8:Sp:=λvs H Q _=>∃(d h i:Addr) (ks:List _) (rs:Gs Str) (a L c:ZB) (m:Str->Str),vs=[.ref d,.ref h,.ref i]/\ReF H ks d rs/\(∀x,x∈rs.map (·.1)↔x∈a)/\(∀x y,Rch ks x y->y∈a)/\a.length<=60/\a.Nodup/\Rd H h (.dK (TD L m))/\(∀x∈L,m x∈a)/\H i=some (.lst (c.map V.str))/\(∀x∈c,x∈a)/\c.length<=60/\
 ∀q o e U g,af H e->e q=some (.frz o (.dK (TD U g)))->Ask (Rch ks) L m c U g->(∀x∈U,x∈a)->((∃f∈U,f∉L)\/((∀x∈U,x∈L)/\∀b,(b∈c\/∃y∈U,y∈L/\m y=b)->∀p,Rch ks b p->p∈U))->Q (.ref q) e
def Cz:Sp:=λvs H Q _=>∃d o L m,vs=[.ref d]/\H d=some (.frz o (.dK (TD L m)))/\L.length<=60/\L.Nodup/\(∀x∈L,∀y∈L,m x=m y->x=y)/\∀t a i,af H a->H t=none->a t=some (.dK (TD (L.map m) i))->(∀x∈L,i (m x)=x)->Q (.ref t) a
def E9:Sp:=λvs H Q _=>∃d L m,vs=[.ref d]/\Rd H d (.dK (TD L m))/\L.length<=60/\L.Nodup/\(∀x∈L,∀y∈L,m x=m y->x=y)/\∀t a i,af H a->H t=none->a t=some (.dK (TD (L.map m) i))->(∀x∈L,i (m x)=x)->Q (.ref t) a
theorem kf(T:Txt K mg):↥1 "ask_around" ["partners","held_by","askers"] E8:=by
 refine(oG T).freeze.imp λvs H Q E zqw=>?_;obtain⟨d,i,j,ks,rs,l,L,n,m,p,r,s,t,u,v,y,z,A,f,h,B⟩:=zqw;refine %[d,i,j,ks,rs,l,L,n,m,p,r,s,t,u,v,y,z,A,f,h|λq I U g C J G a b c=>%[[q]|λM=>B q _ _ U g (λx o e=>?_) (jZ Zl G) a b c]]
 rw[iI]
 .exact C x o e
 grind
theorem lu(T:Txt K mg):↥1 "keys_by_value" ["some"] Cz:=by
 refine T.aQ.cal cG (λH vs Q E h=>?_)
 .obtain⟨d,o,L,m,rfl,hd,l60,nd,inj,kk⟩:=h;refine%[rfl|λf ae A outer s hr=>?_];refine%[_,(QSs.h (ah (aI 1 cG.nd rfl fG)
   (ah (cq PassesOwn.never rfl rfl (z4 rfl rfl ↑0) (fP (K:=K) rfl rfl rfl (gsE rfl (aJ 2 cG.nd rfl) (gsE rfl (aJ 3 cG.nd rfl) cL)))
   (aq (eY hr rfl ↑2 ↑1 ↑3)))
   (aq (aO ↑1)))))|?_]
  show aY _ _ _ [!d,none,none,none] H;refine ao λD1 k1 _=>?_
  lk;intro t G;refine k1 _ _ (ao λD2 k2 _=>aw λab hK=>?_);have I:=af.upd (o:= .dK []) G;have ht:upd H t (.dK []) t=some (.dK (TD (([]:ZB).map m) id)):=aa
  generalize upd H t (.dK [])=H1 at I ht
  unfold uO;lk;have ll:(TD L m).length=L.length:=Z5 _;refine%[_,_,I _ _ hd|hK _ _ (xk (λi u a=>(∃J M,u=[!d,!t,J,M])/\af H a/\∃l:Str->Str,a t=some (.dK (TD ((L.take i).map m) l))/\∀x∈L.take i,l (m x)=x)
   %[%[_,_|rfl],I,id,ht|λ_ h=>(nomatch h)] (λi u a _ h=>h.2.1 _ _ hd) ?_ ?_)]
  .rintro i k v B u a N ⟨⟨J,M,rfl⟩,O,l,b,g⟩ U;unfold TD VD at N;rw[Zk]at N;obtain⟨x,Y,ex⟩:=map_eq_some_iff.mp N;obtain⟨rfl,rfl⟩:Sum.inr x=k/\V.str (m x)=v:=%[congrArg (·.1) ex|congrArg (·.2) ex]
   have s2:=af.upd (o:= .tup [.str x,.str (m x)]) U;have n:upd a B (.tup [.str x,.str (m x)]) B=_:=aa;have p:=s2 _ _ b;have q:=O.trans s2;show yr _ _ _ _ _ (upd a B (.tup [.str x,.str (m x)])) _
   generalize upd a B (.tup [.str x,.str (m x)])=H2 at n p q ⊢
   have tk:L.take (i+1)=L.take i++[x]:=by rw[Yz,Y];rfl
   have xn:m x∉(L.take i).map m:=λc=>by
    obtain⟨y,C,e⟩:=Xa c;obtain⟨j,r⟩:=X2 C;have jl:=(X7 r).1;rw[Ye]at jl;rw[Y5 ⋯]at r;rw[inj y (Z7 r) x (Z7 Y) e]at r;have:=cv nd r Y
    lia
   refine%[_,SqT.of n,rfl,_,_,rfl,_,_,rfl,rfl|?_];show jJ _ _ _ _ [!d,!t,-x,some (.str (m x))] H2;refine aB λD3 k3 _=>?_
   lk;have tl:(L.take i).length<=60:=by rw[Ye];lia
   refine%[_,gE.k (k:=Sum.inr (m x)) p (by unfold TD VD;rw[Z5,Z5];exact az ⋯)|k3 _ _ %[%[_,_|rfl],af.set q G,λz=>if z=m x then x else l z,?_|λy C=>?_]]
   .rw[aa,vf xn,tk,Zc];rfl
   .rw[tk]at C;rcases X8 C with h|h
    .show(if m y=m x then x else l (m y))=y;rw[if_neg (λe:m y=m x=>xn (e▸Xb %[y,h|rfl]))];exact g y h
    .rw[X9 h];show(if m x=m x then x else l (m x))=x;rw[if_pos rfl]
  .rintro u a ⟨⟨J,M,rfl⟩,O,l,b,g⟩;rw[ll,Zm (Zh _)]at b g;refine k2 _ _ ?_;lk;exact kk t a l O G b g
theorem ef(T:Txt K mg):↥1 "keys_by_value" ["some"] E9:=by
 refine(lu T).frozen.imp λvs H Q E zqw=>?_;obtain⟨d,L,m,f,a,g,h,j,l⟩:=zqw;refine a.elim (λa=> .inr %[d,_,by rw[f];rfl,a|λo=>%[d,o,L,m,f,aa,g,h,j|λt r i p b q hi=>?_]]) λ⟨o,a⟩=> .inl %[d,o,L,m,f,a,g,h,j|l]
 have n:t≠d:=λc=>by rw[c,aa]at b;cases b
 rw[am n]at b;refine l t _ i (λc o e=>?_) b ((am n)▸q) hi;by_cases z:c=d
 .rw[z]at e ⊢;rw[a]at e;rw[aa];exact e
 .rw[am z];exact p c o ((am z)▸e)
def CA:Sp:=λvs H Q _=>∃d q o f e ks L U m g S T,vs=[.ref d,.ref q,.str f]/\H d=some (.dK (TD L m))/\H q=some (.frz o (.dK (TD U g)))/\L.length<60/\Mat (Rch ks) L m/\Ask (Rch ks) L m [e] U g/\(∀x∈L,m x≠e)/\j2 (Rch ks) L m S T/\f∈U/\f∉L/\
 ∀h a b,(∀c o,c≠d->H c=some o->h c=some o)->h d=some (.dK (TD a b))->Mat (Rch ks) a b->j2 (Rch ks) a b S T->(∀x,x∈a↔x∈L\/x=f)->(∀x∈a,b x=e\/∃y∈L,m y=b x)->(∀y,y=e\/(∃x∈L,m x=y)->∃x∈a,b x=y)->Q .non h
def F3(s:Hp)(d q t:Addr)(f l:Str)(ks:List ZB)(L U:ZB)(m g:Str->Str)(S T:Str->Prop)(n:Nat)(r:L2.St)(e:Hp):Prop:=(∀c o,c≠d->s c=some o->e c=some o)/\∃C h,((∃p j i,r=[!d,!q,-f,!t,-p,i]/\nh (Rch ks) L U m g T f C j p/\e d=some (.dK (TD h λx=>if x∈C then g x else m x))/\((C=[]/\h=L)\/(f∈C/\h=L++[f]))/\n=j+1)\/(∃i,r=[!d,!q,-f,!t,some .non,i])/\n=0/\∃a b,e d=some (.dK (TD a b))/\Mat (Rch ks) a b/\j2 (Rch ks) a b S T/\(∀x,x∈a↔x∈L\/x=f)/\(∀x∈a,b x=l\/∃y∈L,m y=b x)/\∀y,y=l\/(∃x∈L,m x=y)->∃x∈a,b x=y)
theorem xX(T:Txt K mg):↥2 "pass_on" ["held_by","asked_by","free"] CA:=by
 refine T.aP.cal e8 (λH vs Q E h=>?_)
 .obtain⟨b,q,o,f,J,ks,L,U,m,g,S,N,rfl,B,O,l60,M,a,h0,Y,fU,G,kk⟩:=h;refine%[rfl|λ_ as A outer s I=>?_];refine%[_,(QSs.h (ah (aI 3 e8.nd rfl (aG (ef T) I rfl #[↑0]))
   (ah (aI 4 e8.nd rfl ↑2)
   (aq (gT PassesOwn.never (bA qr rfl ↑4 uh)
   (ah (aI 5 e8.nd rfl (cb I (λ_ _=>rfl) ↑1 ↑4))
    (ah (eY I rfl ↑5 ↑0 ↑4)
    (aq (aI 4 e8.nd rfl (bmO (K:=K) plainAttrs_dict slot_dict_get type_dict_get EJ rfl ↑3 #[↑5]))))))))))|?_]
  show aY _ _ _ [!b,!q,-f,none,none,none] H;refine ao λD1 k1 _=>?_
  lk;refine%[b,L,m,rfl,.inl B,⋯,M.nd,M.inj|λt H1 i s1 ft ht hi=>k1 _ _ (ao λD2 k2 _=>?_)];lk;refine k2 _ _ ?_;have ab:t≠b:=λc=>by rw[c,B]at ft;cases ft
  have ae:q≠b:=λc=>by rw[c,B]at O;cases O
  obtain⟨i0,ag⟩:=X2 fU;refine%[F3 H1 b q t f J ks L U m g S N,
   %[_,λ_ _ _ e=>e,[],L|.inl %[f,i0,none,rfl,nh.start Y G ag,by rw[s1 _ _ B];rfl,.inl %[rfl|rfl]|rfl]]|?_]
  rintro n σ H2 ⟨sm,C,L1,⟨p,j,o5,rfl,bk,ai,r,rfl⟩|⟨⟨o5,rfl⟩,rfl,L',m',e1,e2,e3,e4,e5,e6⟩⟩
  .lk;rw[if_pos ∅];refine⟨λaj H'=>∃n',n'<j+1/\F3 H1 b q t f J ks L U m g S N n' aj H',λ_ _ h=>h,?_⟩;have pU:p∈U:=Z7 bk.at_;have a1:L1.length<=60:=by
    rcases r with⟨_,rfl⟩|⟨_,rfl⟩
    .lia
    .rw[Z8,Yd];lia
   have pC:p∉C:=λc=>by
    obtain⟨k,kl,hk⟩:=bk.far p c;have:=cv a.nd bk.at_ hk
    lia
   have put:cJ (TD L1 λx=>if x∈C then g x else m x) (Sum.inr p) (.str (g p))=TD (L++[f]) λx=>if x∈C++[p]then g x else m x:=by
    have fe:(λz=>if z=p then g p else if z∈C then g z else m z)=λx=>if x∈C++[p]then g x else m x:=funext λz=>by
     by_cases e:z=p
     .rw[if_pos e,if_pos (by rw[e];simp),e]
     .have:z∈C++[p]↔z∈C:=by rw[Yl,Yq];exact or_iff_left e
      rw[if_neg e];simp only[this]
    rcases r with⟨rfl,rfl⟩|⟨fc,rfl⟩
    .obtain rfl:p=f:=bk.hf.resolve_left λh=>(nomatch h)
     rw[vf G,fe]
    .unfold TD;rw[ve (Ym _ (bk.own.resolve_left λe=>pC (e▸fc))),<-fe];exact congrArg (VD _) (funext λz=>by by_cases e:z=p<;> simp[e])
   refine%[_,(.inl %[_,Sum.inr p,.inr %[o|sm _ _ ae (s1 _ _ O)],rfl|(cE.2 pU).symm]),_,gE.k (k:=Sum.inr p) ai (by unfold TD VD;rw[Z5];exact az ⋯)|?_];rw[put];have u:upd H2 b (.dK (TD (L++[f]) λx=>if x∈C++[p]then g x else m x)) b=_:=aa;have d:∀c o,c≠b->H1 c=some o->upd H2 b (.dK (TD (L++[f]) λx=>if x∈C++[p]then g x else m x)) c=some o:=λc o n e=>(am n)▸sm c o n e
   have v:=d _ _ ab ht;have al:f∈C++[p]:=by rw[Yl,Yq];exact bk.hf.imp_right Eq.symm
   refine%[.inr (.inr (.inl (.inl %[_|v]))),Sum.inr (g p),rfl,_,v|?_];by_cases c:∃y∈L,m y=g p
   .obtain⟨y,l,ym⟩:=c;obtain⟨k,kl,an⟩:=bk.step M a h0 Y l ym;have iy:i (g p)=y:=ym▸hi y l;rw[cE.2 (Xb %[y,l|ym]),iy];exact%[k+1,⋯,d,C++[p],L++[f]|.inl %[y,k,_,rfl,an,u,.inr %[al|rfl]|rfl]]
   .have no:∀y∈L,m y≠g p:=λy l e=>c %[y,l|e]
    have nn:bz (TD (L.map m) i) (Sum.inr (g p))=none:=dO λh=>by
     obtain⟨y,l,e⟩:=Xa h;exact no y l e
    rw[nn];have nd:(L++[f]).Nodup:=nodup_append.mpr %[M.nd,by simp|λx hx y hy e=>G (by rw[<-X9 hy,<-e];exact hx)];obtain⟨e2,e3,_,e5,e6⟩:=bk.fin M a Y G no nd λx=>by rw[Yl,Yq]
    exact%[0,⋯,d,[],[]|.inr %[%[_|rfl],rfl,L++[f],_,u,e2,e3,λx=>by rw[Yl,Yq],e5|e6]]
  .lk;rw[if_neg ∅];exact kk H2 L' m' (λc o n e=>sm c o n (s1 _ _ e)) e1 e2 e3 e4 e5 e6
structure gC (ks:List _) (ns L:ZB) (m:Str->Str) (N:ZB):Prop where
 mat:Mat (Rch ks) L m
 mn:∀x∈L,m x∈N
 ln:∀x∈L,x∈ns
 sh:∃S T,j2 (Rch ks) L m S T/\∀a∈N,(∃x∈L,m x=a)\/S a
def CB:Sp:=λvs H Q _=>∃d ks rs a,vs=[.ref d]/\ReF H ks d rs/\(∀x,x∈rs.map (·.1)↔x∈a)/\(∀x y,Rch ks x y->y∈a)/\a.length<=60/\a.Nodup/\
 ∀b c L m,af H c->H b=none->c b=some (.dK (TD L m))->gC ks a L m a->Q (.ref b) c
theorem xY{L:ZB}{m:Str->Str}(nd:L.Nodup)(inj:∀x∈L,∀y∈L,m x=m y->x=y):(L.map m).Nodup:=by
 rw[Yt,Yy];exact X3 (λ{x y} a b n e=>n (inj x a y b e)) (nodup_iff_pairwise_ne.mp nd)
theorem kg(T:Txt K mg):↥3 "most_pairs" ["partners"] CB:=by
 refine T.aN.cal cN (λH vs Q E h=>?_)
 .obtain⟨d,ks,rs,ns,rfl,re,Y,rn,nl,nn,kk⟩:=h;refine%[rfl|λf bf A outer s hr=>?_];obtain⟨o,hd⟩:=re.at_;have rl:rs.length<=60:=by
   have:=STab.nodup_sub re.nd λx b=>(Y x).mp b
   rw[Z5]at this
   lia
  refine%[_,(QSs.h (ah (kC 1 cN.nd rfl Z1 Z0 rfl fG)
   (ah (cq PassesOwn.never rfl rfl (pM ↑0) (aJ 2 cN.nd rfl)
   (ah (aI 3 cN.nd rfl (aG (kf T) hr rfl #[↑0,bP 1 rfl,cj #[↑2]]))
    (ah (fX 4 cN.nd rfl Z0 Z1 rfl (ay.of (show bq (ak eF) ["partners","held_by","asker","asked_by","free"] _ ["partner","held_by"] [(1,1)]=true from by decide +kernel)) rfl rfl (pM ↑3) (λ_ _ _=>(aJ 0 (show(["partner","held_by"]:ZB).Nodup from by decide +kernel) rfl)) (λ_ _ _=>(iE (eD hr rfl ↑0 (bP 1 rfl)))) (λ_ _ _=>↑0))
    (aq (ifS (bA qq rfl ↑↑4 av)
    (aq (bD rfl (aG (xX T) hr rfl #[bP 1 rfl,↑3,(↑4*>av)])))
    bw)))))
   (aq (aO (bP 1 rfl))))))|?_]
  show aY _ _ _ [!d,none,none,none,none] H;refine ao λD1 k1 _=>?_
  lk;intro z fb;refine k1 _ _ (ao λD2 k2 _=>aw λab hK=>?_);have s1:=af.upd (o:= .dK []) fb;have hh:upd H z (.dK []) z=some (.dK (TD [] id)):=aa
  generalize upd H z (.dK [])=H1 at s1 hh
  unfold lJ;lk;have gl:(gD rs).length=rs.length:=Z5 _;refine%[_,_,s1 _ _ hd|hK _ _ (ng (λi G B=>(∃o2 o3 o4,G=[!d,!z,o2,o3,o4])/\af H B/\∃(L:ZB) (m:Str->Str),B z=some (.dK (TD L m))/\gC ks ns L m ((rs.map (·.1)).take i))
   %[%[_,_,_|rfl],s1,[],id,hh,%[Yu,λ_ h=>(nomatch h)|λ_ h=>(nomatch h)],λ_ h=>(nomatch h),λ_ h=>(nomatch h),λ_=>False,λ_=>False,%[λ_ h=>h.elim|λ_ h=>h.elim]|λ_ h=>(nomatch h)] (λi G B _ h=>h.2.1 _ _ hd) ?_ ?_)]
  .rintro i k v G B hv ⟨⟨o2,o3,o4,rfl⟩,sm,L,m,hh,l⟩;unfold gD at hv;rw[Zk]at hv;obtain⟨r,ae,er⟩:=map_eq_some_iff.mp hv;obtain⟨rfl,rfl⟩:Sum.inr r.1=k/\V.ref r.2.1=v:=%[congrArg (·.1) er|congrArg (·.2) er]
   generalize ea:r.1=t at*
   have hN:(rs.map (·.1))[i]? =some t:=by rw[Zk,ae,<-ea];rfl
   have tk:(rs.map (·.1)).take (i+1)=(rs.map (·.1)).take i++[t]:=by rw[Yz,hN];rfl
   have a3:t∉(rs.map (·.1)).take i:=λc=>by
    obtain⟨j,u⟩:=X2 c;have jl:=(X7 u).1;rw[Ye]at jl;rw[Y5 ⋯]at u;have:=cv re.nd u hN
    lia
   have a4:t∈ns:=(Y t).mp (Z7 hN);have ag:∀x∈(rs.map (·.1)).take i,x∈ns:=λx b=>(Y x).mp (Yp b)
   have Ll:L.length<=i:=by
    have:=STab.nodup_sub (xY l.mat.nd l.mat.inj) (m:=(rs.map (·.1)).take i) λy hy=>by
     obtain⟨x,b,rfl⟩:=Xa hy;exact l.mn x b
    rw[Z5,Ye]at this
    lia
   have il:i<rs.length:=(X7 ae).1;show aY _ _ _ [!d,!z,-t,o3,o4] B;refine ao λD3 k3 _=>?_
   lk;refine%[#[1]|λal a5=>?_];have s2:=af.upd (o:= .lst [V.str t]) a5;have ai:upd B al (.lst [V.str t]) al=some (.lst ([t].map V.str)):=aa;have M:=s2 _ _ hh;have N:=sm.trans s2
   generalize upd B al (.lst [V.str t])=H2 at ai M N ⊢
   refine%[d,z,al,ks,rs,ns,L,[t],m,rfl,re.up N,Y,rn,nl,nn,.inl M,λx b=>ag _ (l.mn x b),ai,λx b=>X9 b▸a4,(show 1<=60 by decide)|λq oq H3 U g s3 hq ask un a6=>k3 _ _ (ao λD4 k4 _=>aC λab hK=>?_)];have a7:=N.trans s3;have aj:=s3 _ _ M;have Ul:=STab.nodup_sub ask.nd un;unfold lJ;lk;refine%[_,_,hq|hK _ _ λF hF=>?_];have ql:(TD U g).length=U.length:=Z5 _;refine aV (J:=Itk q oq (TD U g)) (n:=U.length) (D:=F) (λj vs G H4=>(∃o1,G=[o1,!z])/\af H3 H4/\H4 F=some (.lst vs)/\vs=((U.take j).filter λx=>decide (x∉L)).map V.str)
    %[%[none|rfl],af.upd hF,aa|rfl] (λj _ _ H4 u O=>%[O.2.1 _ _ hq|by rw[ql];exact u]) (λ_ _ H4 O=>%[O.2.1 _ _ hq|by exact ql▸Zh _]) ?_ ?_
   .rintro j vs G H4 u ⟨⟨o1,rfl⟩,p,an,rfl⟩ x H5 ⟨e2,kx,vx,b,rfl⟩;subst e2;unfold TD VD at b;rw[Zk,Z4 u]at b;obtain rfl:Sum.inr U[j]=kx:=congrArg (·.1) (Z9 b);lk;refine%[_,bJ.k (k:=Sum.inr U[j]) (p _ _ aj)|bi (λc=>?_) λc=>?_]
    .have n:U[j]∉L:=λh=>by rw[cE.1.mpr h]at c;cases c
     refine CK.mk u an (by rw[Z5];have:=Yb (λx=>decide (x∉L)) (U.take j);rw[Ye]at this;exact az ⋯) %[%[_|rfl],af.set p hF,aa|?_];rw[Yz,Z4 u,Zz,Zc];show _=_++(List.filter _ [U[j]]).map V.str;rw[Y1 (by simpa using n)];rfl
    .have n:U[j]∈L:=cE.1.mp (by cases h:(bz (TD L m) (Sum.inr U[j])).isSome with
      | true=>rfl
      | false=>rw[h]at c;exact absurd rfl c)
     refine CN.mk u %[%[_|rfl],p,an|?_];rw[Yz,Z4 u,Zz,Zc];show _=_++(List.filter _ [U[j]]).map V.str;rw[Y0 (by simpa using n)];simp
   rintro vs G H4 ⟨_,p,C,rfl⟩;rw[Zm (Zh _)]at C;refine k4 _ _ (aB λD5 k5 _=>?_);have I:=a7.trans p;have a1:=p _ _ aj;obtain⟨S,T',sh,all⟩:=l.sh;lk;have h0:∀x∈L,m x≠t:=λx b e=>a3 (e▸l.mn x b)
   have mt:∀{a},a∈(rs.map (·.1)).take (i+1)↔a∈(rs.map (·.1)).take i\/a=t:=λ{a}=>by rw[tk,Yl,Yq]
   have fl:∀{x},x∈U.filter (λx=>decide (x∉L))↔x∈U/\x∉L:=λ{x}=>by rw[List.mem_filter,decide_eq_true_iff]
   generalize U.filter (λx=>decide (x∉L))=Fr at C fl
   have vl:(Fr.map V.str).length=Fr.length:=Z5 _;refine%[Fr.length,.inl %[_,SqL.of C|vl.symm]|bi (λc=>?_) λc=>?_]
   .have c:0<Fr.length:=by have:=Zn c;lia
    obtain⟨fU,fL⟩:=fl.mp (Y7 c);refine%[_,SqL.of C,.str Fr[0],cF (by rw[Zk,Z4 c];rfl),z,q,oq,Fr[0],t,ks,L,U,m,g,S,T',rfl,a1,p _ _ hq,⋯,l.mat,ask,h0,sh,fU,fL|λH5 L' m' keep a8 a2 a9 bb e5 e6=>k5 _ _ %[%[_,_,_|rfl],λc o e=>keep c o (ar e fb) (I _ _ e),L',m',a8,a2,λx b=>?_,λx b=>?_,S,T',a9|λa ha=>?_]]
    .rcases e5 x b with e|⟨y,yl,e⟩
     .exact mt.mpr (.inr e)
     .exact mt.mpr (.inl (e▸l.mn y yl))
    .exact((bb x).mp b).elim (l.ln x) λe=>e▸un _ fU
    .rcases mt.mp ha with h|h
     .exact(all a h).imp_left λh=>e6 a (.inr h)
     .exact .inl (e6 a (.inl h))
   .have e:∀x∈U,x∈L:=λx b=>Decidable.byContradiction λn=>by
     have:=fl.mpr %[b|n];cases Fr with
     | nil=>cases this
     | cons y Fr=>exact c (Ze (by rw[Zq];lia))
    refine k5 _ _ %[%[_,_,_|rfl],I,L,m,a1,l.mat,λx b=>mt.mpr (.inl (l.mn x b)),l.ln,_,_,sh.or (Ask.closed e ((a6.resolve_left λ⟨f,h1,h2⟩=>h2 (e f h1)).2))|λa ha=>?_];rcases mt.mp ha with h|h
    .exact(all a h).imp_right .inl
    .exact .inr (.inr (.inl (h▸Zl)))
  .rintro G B ⟨⟨o2,o3,o4,rfl⟩,sm,L,m,hh,l⟩;rw[gl,<-Z5 (f:=(·.1)) (as:=rs),Zm (Zh _)]at l;refine k2 _ _ ?_;lk;obtain⟨S,T',sh,all⟩:=l.sh;exact kk z B L m sm fb hh %[l.mat,λx b=>(Y _).mp (l.mn x b),l.ln,S,T',sh|λa ha=>all a ((Y a).mpr ha)]
def CC:Sp:=λvs H Q _=>∃d f o ks rs c L m,vs=[.ref d,.ref f]/\ReF H ks d rs/\(∀x,x∈rs.map (·.1)↔x∈c)/\(∀x y,Rch ks x y->y∈c)/\c.length<=60/\c.Nodup/\H f=some (.frz o (.dK (TD L m)))/\gC ks c L m c/\
 ∀l e (lf:ZB),af H e->e l=some (.lst (lf.map V.str))->lf.length=L.length->(∀a b,a∈c->Rch ks a b->a∈lf\/b∈lf)->Q (.ref l) e
theorem je(T:Txt K mg):↥2 "one_of_each_pair" ["partners","held_by"] CC:=by
 refine T.aR.cal cK (λH vs Q E h=>?_)
 .obtain⟨d,hb,o,ks,rs,ns,L,m,rfl,re,rk,rn,nl,nn,hh,pr,kk⟩:=h;refine%[rfl|λf a9 A outer s hr=>?_];obtain⟨od,hd⟩:=re.at_;have rl:rs.length<=60:=by
   have:=STab.nodup_sub re.nd λx l=>(rk x).mp l
   rw[Z5]at this
   lia
  have Ll:=STab.nodup_sub pr.mat.nd pr.ln;refine%[_,(QSs.h (ah (kC 2 cK.nd rfl Z1 Z0 rfl (aG (ef T) hr rfl #[↑1]))
   (ah (kC 3 cK.nd rfl Z1 Z0 rfl (aG (kf T) hr rfl #[↑0,↑1,(cZ (ay.of (show bq (ak bH) ["partners","held_by","holds","asked_by"] _ ["asker","holds"] [(1,2)]=true from by decide +kernel)) rfl rfl (pM ↑0) (λ_ _ _=>(aJ 0 (show(["asker","holds"]:ZB).Nodup from by decide +kernel) rfl)) (λ_ _ _=>(iE (eD hr rfl ↑0 (bP 1 rfl)))) (λ_ _ _=>↑0))]))
   (aq (aO (cZ (ay.of (show bq (ak bH) ["partners","held_by","holds","asked_by"] _ ["partner","asker","asked_by"] [(2,3)]=true from by decide +kernel)) rfl rfl (z4 rfl rfl ↑1) (λ_ _ _=>(fP (K:=K) rfl rfl rfl (gsE rfl (aJ 0 (show(["partner","asker","asked_by"]:ZB).Nodup from by decide +kernel) rfl) (gsE rfl (aJ 1 (show(["partner","asker","asked_by"]:ZB).Nodup from by decide +kernel) rfl) cL)))) (λ_ _ _=>jr) (λ_ _ _=>(ifE (w6 hr rfl ↑0 (bP 2 rfl)) ↑0 ↑1))))))))|?_]
  show aY _ _ _ [!d,!hb,none,none] H;refine ao λD1 k1 _=>?_
  lk;refine%[hb,L,m,rfl,.inr %[o|hh],⋯,pr.mat.nd,pr.mat.inj|λt H1 i s1 ft ht hi=>k1 _ _ (ao λD2 k2 _=>?_)];lk;refine aC λaj hK=>?_
  unfold lJ;lk;have M:=s1 _ _ hd;refine%[_,_,M|hK _ _ λF hF=>?_]
  generalize eN:rs.map (·.1)=N at rk
  have Nl:N.length=rs.length:=by rw[<-eN,Z5]
  have gl:(gD rs).length=N.length:=by rw[Nl];exact Z5 _
  have kN:∀(j:Nat) k v,(gD rs)[j]? =some (k,v)->∃x,N[j]? =some x/\k=Sum.inr x:=λj k v h=>by
   unfold gD at h;rw[Zk]at h;obtain⟨r,h1,h2⟩:=map_eq_some_iff.mp h;exact%[r.1,by rw[<-eN,Zk,h1];rfl|(congrArg (·.1) h2).symm]
  refine aV (J:=Itk d od (gD rs)) (n:=N.length) (D:=F) (λj vs I H2=>(∃O,I=[O,!t])/\af H1 H2/\H2 F=some (.lst vs)/\vs=((N.take j).filter λx=>decide (x∉L.map m)).map V.str)
   %[%[none|rfl],af.upd hF,aa|rfl] (λj _ _ H2 C p=>%[p.2.1 _ _ M|by rw[gl];exact C]) (λ_ _ H2 p=>%[p.2.1 _ _ M|by exact gl▸Zh _]) ?_ ?_
  .rintro j vs I H2 C ⟨⟨O,rfl⟩,B,al,rfl⟩ x H3 ⟨e2,kx,vx,l,rfl⟩;subst e2;obtain⟨z,hz,rfl⟩:=kN j kx vx l;have tk:N.take (j+1)=N.take j++[z]:=by rw[Yz,hz];rfl
   lk;refine%[_,bJ.k (k:=Sum.inr z) (B _ _ ht)|bi (λc=>?_) λc=>?_]
   .have n:z∉L.map m:=λh=>by rw[cE.1.mpr h]at c;cases c
    refine CK.mk C al (by rw[Z5];have:=Yb (λx=>decide (x∉L.map m)) (N.take j);rw[Ye]at this;exact az ⋯) %[%[_|rfl],af.set B hF,aa|?_];rw[tk,Zz,Zc,Y1 (by simpa using n)];rfl
   .have n:z∈L.map m:=cE.1.mp (by cases h:(bz (TD (L.map m) i) (Sum.inr z)).isSome with
     | true=>rfl
     | false=>rw[h]at c;exact absurd rfl c)
    refine CN.mk C %[%[_|rfl],B,al|?_];rw[tk,Zz,Zc,Y0 (by simpa using n)];simp
  rintro vs I H2 ⟨_,B,Y,rfl⟩;rw[Zm (Zh _)]at Y;have fl:∀{x},x∈N.filter (λx=>decide (x∉L.map m))↔x∈N/\x∉L.map m:=λ{x}=>by rw[List.mem_filter,decide_eq_true_iff]
  have a3:=Yb (λx=>decide (x∉L.map m)) N
  generalize N.filter (λx=>decide (x∉L.map m))=A0 at Y fl a3
  have ab:=s1.trans B;obtain⟨S,T',sh,all⟩:=pr.sh;have a4:∀x∈A0,S x:=λx l=>(all x ((rk x).mp (fl.mp l).1)).resolve_left λ⟨y,yl,e⟩=>(fl.mp l).2 (Xb %[y,yl|e])
  refine%[d,hb,F,ks,rs,ns,L,A0,m,rfl,re.up ab,eN▸rk,rn,nl,nn,.inr %[o|ab _ _ hh],pr.mn,Y,λx l=>(rk x).mp (fl.mp l).1,⋯|λq oq H3 U g s3 hq ask un a5=>k2 _ _ ?_];have a6:=ask.shut sh a4;have cl:=(a5.resolve_left λ⟨f,h1,h2⟩=>h2 (sh.mt f (a6 f h1)).1)
  have as:=ab.trans s3;have ae:=as _ _ hh;refine aC λaj hK=>?_
  unfold uO;lk;refine%[_,_,ae|hK _ _ λG hG=>?_];have tl:(TD L m).length=L.length:=Z5 _;refine aV (J:=Iti hb o (TD L m)) (n:=L.length) (D:=G) (λj vs I u=>(∃O o2,I=[O,o2,!q])/\af H3 u/\u G=some (.lst vs)/\vs=((L.take j).map λx=>if x∈U then x else m x).map V.str)
   %[%[none,none|rfl],af.upd hG,aa|rfl] (λj _ _ u C p=>%[p.2.1 _ _ ae|tl▸C]) (λ_ _ u p=>%[p.2.1 _ _ ae|tl▸Zh _]) ?_ ?_
  .rintro j vs I u C ⟨⟨O,o2,rfl⟩,ag,a7,rfl⟩ x H5 ⟨kx,vx,tp,l,a8,rfl,rfl⟩;unfold TD VD at l;rw[Zk,Z4 C]at l;obtain⟨rfl,rfl⟩:Sum.inr L[j]=kx/\V.str (m L[j])=vx:=%[congrArg (·.1) (Z9 l)|congrArg (·.2) (Z9 l)]
   have s5:=af.upd (o:= .tup [kV (Sum.inr L[j]),.str (m L[j])]) a8;have a0:upd u tp (.tup [kV (Sum.inr L[j]),.str (m L[j])]) tp=some (.tup [.str L[j],.str (m L[j])]):=aa;have ai:=ag.trans s5;have a1:=s5 _ _ a7
   generalize upd u tp (.tup [kV (Sum.inr L[j]),.str (m L[j])])=H5 at a0 ai a1 ⊢
   have tk:L.take (j+1)=L.take j++[L[j]]:=by rw[Yz,Z4 C];rfl
   refine%[_,SqT.of a0,rfl,_,_,rfl,_,_,rfl,rfl|?_];show wA [some (.str L[j]),some (.str (m L[j])),!q] H5 _;lk;have put:∀y,(if L[j]∈U then L[j]else m L[j])=y->CK G L.length j (λj vs I u=>(∃O o2,I=[O,o2,!q])/\af H3 u/\u G=some (.lst vs)/\vs=((L.take j).map λx=>if x∈U then x else m x).map V.str) (((L.take j).map λx=>if x∈U then x else m x).map V.str) [some (.str L[j]),some (.str (m L[j])),!q] (.str y) H5:=λy e=>by
    refine CK.mk C a1 (by rw[Z5,Z5,Ye];exact az ⋯) %[%[_,_|rfl],af.set ai hG,aa|?_];rw[tk,Zc,Zc,<-e];rfl
   refine%[_,(.inl %[_,Sum.inr L[j],.inr %[oq|ai _ _ hq],rfl|rfl])|bi (λc=>put _ (if_pos (cE.1.mp c))) λc=>put _ (if_neg λh=>c (cE.1.mpr h))]
  rintro vs I u ⟨_,ag,a2,rfl⟩;rw[Zm (Zh _)]at a2;refine kk G u _ (as.trans ag) a2 (Z5 _) λa b an r=>?_
  have mem:∀x∈L,(if x∈U then x else m x)∈L.map λx=>if x∈U then x else m x:=λx l=>Xb %[x,l|rfl]
  by_cases c:a∈A0\/∃y∈U,y∈L/\m y=a
  .have bU:=cl.2 a c b r;have:=mem b (cl.1 b bU);rw[if_pos bU]at this;exact .inr this
  .obtain⟨y,yl,rfl⟩:=Xa (Decidable.byContradiction λn=>c (.inl (fl.mpr %[(rk a).mpr an|n])));have:=mem y yl;rw[if_neg (λh=>c (.inr %[y,h,yl|rfl]))]at this;exact .inl this
def Fa:Sp:=λvs H Q _=>∃d f ks rs c L m,vs=[.ref d,.ref f]/\ReF H ks d rs/\(∀x,x∈rs.map (·.1)↔x∈c)/\(∀x y,Rch ks x y->y∈c)/\c.length<=60/\c.Nodup/\H f=some (.dK (TD L m))/\gC ks c L m c/\
 ∀l e (lf:ZB),af H e->e l=some (.lst (lf.map V.str))->lf.length=L.length->(∀a b,a∈c->Rch ks a b->a∈lf\/b∈lf)->Q (.ref l) e
theorem jD(T:Txt K mg):↥2 "one_of_each_pair" ["partners","held_by"] Fa:=by
 refine(je T).frozen.imp λvs H Q E zqw=>?_;obtain⟨d,a,ks,rs,p,L,m,g,b,q,s,t,v,h,y,A⟩:=zqw;refine  .inr %[a,_,by rw[g];rfl,h|λo=>?_]
 have i:∀{c:Addr} {f:Obj} {u:HO},H c=some (.frz f u)->c≠a:=λe z=>by lia
 refine%[d,a,o,ks,rs,p,L,m,g,%[b.at_.imp λ_ e=>(am (i e))▸e,b.nd|λr j=>%[(b.in_ r j).1.imp λ_ e=>(am (i e))▸e|(b.in_ r j).2]],q,s,t,v,aa,y|λl J lf n B C G=>?_];have M:=n _ _ (aa);have I:l≠a:=λz=>by lia
 refine A l _ lf (λc f e=>?_) ((am I)▸B) C G;by_cases z:c=a
 .rw[z]at e ⊢;rw[h]at e;rw[aa];exact e
 .rw[am z];exact n c f ((am z)▸e)
open Classical in
noncomputable def dep(ks:List ZB)(a:ZB)(x:Str):Nat:=(a.filter λy=>decide (Rch ks x y)).length
open Classical in
theorem Fb(b:a.Nodup)(c:∀x,¬ Rch ks x x)(r:Rch ks x y)(d:y∈a):dep ks a y<dep ks a x:=by
 unfold dep;have:=STab.nodup_sub (l:=y::a.filter λz=>decide (Rch ks y z)) (m:=a.filter λz=>decide (Rch ks x z)) (nodup_cons.mpr %[λh=>c y (Zn (List.mem_filter.mp h).2)|b.filter _]) λz e=>by
  rcases mem_cons.mp e with rfl|h
  .exact List.mem_filter.mpr %[d|Ze r]
  .exact List.mem_filter.mpr %[(List.mem_filter.mp h).1|Ze (r.trans (Zn (List.mem_filter.mp h).2))]
 rw[Zq]at this
 lia
open Classical in
theorem Fc(x:Str):dep ks a x<=a.length:=Yb _ _
def CD:Sp:=λvs H Q _=>∃(f:Str) (e:Addr) (ks:List _) (b W:ZB) (i:Str->Str),vs=[.str f,.ref e]/\H e=some (.dK (TD W i))/\(∀a∈W,Rch ks a (i a)/\i a∈b)/\(∀x,¬ Rch ks x x)/\b.Nodup/\b.length<=60/\∀r c (zs:ZB),af H c->H r=none->c r=some (.lst (zs.map V.str))->Q (.ref r) c
def F4(H:Hp)(f:Str)(e r:Addr)(ks:List ZB)(b:ZB)(n:Nat)(c:L2.St)(a:Hp):Prop:=c=[-f,!e,!r]/\af H a/\∃zs y,a r=some (.lst ((zs++[y]).map V.str))/\n=dep ks b y/\zs.length+n<=60
theorem gC.size(f:d.Nodup)(h:gC ks d L m d)(h':gC ks d l q d):(d.filter λx=>decide (x∉L)).length<=(d.filter λx=>decide (x∉l)).length:=by
 obtain⟨S,T,g,all⟩:=h.sh
 let lf:=λx=>open Classical in if T x then x else m x
 refine Y9 (ni f h.mat.nd h.ln (lf:=L.map lf) (Z5 _)) (md (λa b c h k=>h.trans k) f h'.mat h'.mn (f.filter _) (λx n=>(List.mem_filter.mp n).1) λa i b o r=>?_);rcases Classical.em _ with s|s
 .have j:=g.nb a s b r;exact(Zn (List.mem_filter.mp o).2) (Xb %[b,(g.mt b j).1|if_pos j])
 .obtain⟨x,p,e⟩:=(all a (List.mem_filter.mp i).1).resolve_right s;exact(Zn (List.mem_filter.mp i).2) (Xb %[x,p|(if_neg λt=>s (e▸(g.mt x t).2)).trans e])
theorem gC.of(h:gC ks c L m c)(e:∀x,x∈c↔x∈d):gC ks d L m d:=by
 obtain⟨S,T,f,all⟩:=h.sh;exact%[h.mat,λx b=>(e _).mp (h.mn x b),λx b=>(e x).mp (h.ln x b),S,T,f|λa g=>all a ((e a).mpr g)]
theorem AD(d:∀k∈lk,du c k)(e:Ed lk a b):a∈c/\b∈c:=by
 obtain⟨z,f⟩:=e;obtain⟨x,y,u,e,g,h⟩:=d _ f
 grind
theorem AE(c:∀k∈lk,du d k)(r:Rch lk a b):a∈d/\b∈d:=by
 induction r with
 | one e=>exact AD c e
 | more _ e f=>exact%[f.1|(AD c e).2]
theorem tF{b c:ZB}(d:b.Nodup)(f:c.Nodup)(e:∀x,x∈b↔x∈c)(p:Str->Bool):(b.filter p).length=(c.filter p).length:=
 Nat.le_antisymm (STab.nodup_sub (d.filter _) λx a=>List.mem_filter.mpr %[(e x).mp (List.mem_filter.mp a).1|(List.mem_filter.mp a).2]) (STab.nodup_sub (f.filter _) λx a=>List.mem_filter.mpr %[(e x).mpr (List.mem_filter.mp a).1|(List.mem_filter.mp a).2])
def AF(mg:ZC):Sp:=λvs H Q _=>∃g qs c ts,vs=[.ref g]/\ik mg H g qs c ts/\(∀lk,bv (bh qs) (ts.map (·.2)) lk->∀x,¬ Rch lk x x)/\
 ∀l b lk a L m ys,af H b->bv (bh qs) (ts.map (·.2)) lk->jn (bh qs) c a->gC lk a L m a->b l=some (.lst ys)->ys.length=(a.filter λx=>decide (x∉L)).length->Q (.ref l) b
theorem vg(T:Txt K mg):↥1 "row_from" ["first","earlier_behind"] CD:=by
 refine T.aY.cal lK (λH vs Q E h=>?_)
 .obtain⟨f,e,ks,b,W,i,rfl,q,hi,v,z,nl,B⟩:=h;refine%[rfl|λ_ u A outer s p=>?_];refine%[_,(QSs.h (ah (aI 2 lK.nd rfl (cj #[↑0]))
   (ah (gT PassesOwn.never (w6 p rfl (↑2*>(nX av)) ↑1)
   (aq (bD rfl (bmO (K:=K) plainAttrs_list PySem.F.slot_list_append PySem.F.type_list_append aP rfl ↑2 #[(cb p (λ_ _=>rfl) ↑1 (↑2*>(nX av)))]))))
   (aq (aO ↑2)))))|?_]
  show aY _ _ _ [-f,!e,none] H;refine ao λL C _=>?_
  lk;refine%[#[1]|λr j=>C _ _ (ao λM G _=>%[F4 H f e r ks b,%[_,rfl,(af.upd (o:= .lst [V.str f]) j),[],f,aa,rfl|by rw[length_nil,zero_add];exact Y9 (Fc f) nl]|?_])];rintro n N I ⟨rfl,d,zs,y,a,rfl,O⟩;rw[Zc]at a;lk;refine%[_,SqL.of a,_,iA _ _,_,bJ.k (k:=Sum.inr y) (d _ _ q)|bi (λc=>?_) λc=>?_]
  .have l:=cE.1.mp c;have g:=bJ.k (k:=Sum.inr y) (d _ _ q);rw[cE.2 l]at g;have lt:=Fb z v (hi y l).1 (hi y l).2;refine⟨λm J=>∃t,t<dep ks b y/\F4 H f e r ks b t m J,λ_ _ h=>h,.inl %[_|SqL.of a],_,SqL.of a,_,iA _ _,_,g,_,a,by rw[Z8,Z5,List.map_singleton,Yd];exact az ⋯,_,lt,rfl,af.set d j,zs++[y],i y,by rw[aa,Zc,Zc];rfl,rfl,?_⟩;rw[Z8,Yd]
   lia
  .refine G _ _ ?_;lk;exact B r I (zs++[y]) d j (by rw[a,Zc])
theorem oH(T:Txt K mg):↥8 "fewest_rows" ["ground"] (AF mg):=by
 refine T.aX.cal fi (λH vs Q E h=>?_)
 .obtain⟨g,qs,ls,ts,rfl,G,nr,kk⟩:=h;refine%[rfl|λf an A outer s C=>?_];obtain⟨c2,c3,c4,gr⟩:=G.gr;have ll:=G.ll;have e:∀{I:ZB},jn (bh qs) ls I->I.length<=60:=λ{I} l=>by
   have:=STab.nodup_sub l.nd λx hx=>((l.mem x).mp hx).1
   lia
  refine%[_,(QSs.h (ah (kC 1 fi.nd rfl Z1 Z0 rfl (aG (kg T) C rfl #[aG (iS T) C rfl #[↑0]]))
   (ah (kC 2 fi.nd rfl Z1 Z0 rfl (aG (ef T) C rfl #[bP 1 rfl]))
   (aq (aO (cZ (ay.of (show bq (ak dJ) ["ground","later_ahead","earlier_behind"] _ ["name","earlier_behind","later_ahead"] [(1,2),(2,1)]=true from by decide +kernel)) rfl rfl (bW (K:=K) rfl (aG (bN T) C rfl #[↑0])) (λ_ _ _=>(aJ 0 (show(["name","earlier_behind","later_ahead"]:ZB).Nodup from by decide +kernel) rfl)) (λ_ _ _=>(iE (eD C rfl ↑0 (bP 2 rfl)))) (λ_ _ _=>(aG (vg T) C rfl #[↑0,bP 1 rfl]))))))))|?_]
  show aY _ _ _ [!g,none,none] H;refine ao λD1 k1 _=>?_
  lk;refine%[g,qs,ls,ts,rfl,G,nr|λd H1 rs lk I s1 p l re rk=>%[d,lk,rs,I,rfl,re,rk,λx y r=>(AE (G.names p l) r).2,e l,l.nd|λhb H2 L m s2 fb hh q=>k1 _ _ (ao λD2 k2 _=>?_)]];have ab:=s1.trans s2;have Ll:=STab.nodup_sub q.mat.nd q.ln;have ae:=e l;lk;refine%[hb,L,m,rfl,.inl hh,⋯,q.mat.nd,q.mat.inj|λt H3 i s3 ft ht hi=>k2 _ _ ?_];have N:=ab.trans s3;refine aC λal hK=>?_
  lk;refine%[g,c2,c3,c4,qs,ls,ts,rfl,gr.up N,G.nd,G.so,⋯|λo H4 b s4 fm hm u=> .inl %[o,rfl,%[_|SqL.of hm]|hK _ _ λF hF=>?_]];have ag:=s4 _ _ (s3 _ _ hh);have ai:=s4 _ _ ht;have as:=e u;refine aV (J:=Itl K o) (n:=b.length) (D:=F) (λj vs σ v=>(∃o1,σ=[o1,!t,!hb])/\af H4 v/\v F=some (.lst vs)/\vs.length=((b.take j).filter λx=>decide (x∉L)).length)
   %[%[none|rfl],af.upd hF,aa|rfl] (λj _ _ v O z=>%[_,V.str b[j],SqL.of (z.2.1 _ _ hm)|by simp]) (λ_ _ v z=>%[_,SqL.of (z.2.1 _ _ hm)|by simp]) ?_ ?_
  .rintro j vs σ v O ⟨⟨o1,rfl⟩,B,U,M⟩ x H6 ⟨e2,hx⟩;subst e2;have Y:=hx _ (SqL.of (B _ _ hm));rw[Zk,Z4 O]at Y;obtain rfl:x=V.str b[j]:=(Z9 Y).symm;have tk:b.take (j+1)=b.take j++[b[j]]:=by rw[Yz,Z4 O];rfl
   lk;refine%[_,bJ.k (k:=Sum.inr b[j]) (B _ _ ag)|bi (λc=>?_) λc=>?_]
   .have n:b[j]∉L:=λh=>by rw[cE.1.mpr h]at c;cases c
    refine%[b[j],t,lk,I,L.map m,i,rfl,B _ _ ai,λa ha=>?_,nr _ p,l.nd,ae|λr H6 zs s6 fr a0=>?_]
    .obtain⟨x,xl,rfl⟩:=Xa ha;rw[hi x xl];exact%[q.mat.ed x xl|q.ln x xl]
    .have:=Yb (λx=>decide (x∉L)) (b.take j);rw[Ye]at this;refine CK.mk O (s6 _ _ U) (M▸az ⋯) %[%[_|rfl],af.set (B.trans s6) hF,aa|?_];rw[tk,Zz,Y1 (by simpa using n),Z8,Z8,M];rfl
   .have n:b[j]∈L:=cE.1.mp (by cases h:(bz (TD L m) (Sum.inr b[j])).isSome with
     | true=>rfl
     | false=>rw[h]at c;exact absurd rfl c)
    refine CN.mk O %[%[_|rfl],B,U|?_];rw[tk,Zz,Y0 (by simpa using n),Z8,M];rfl
  rintro vs σ v ⟨_,B,aj,M⟩;rw[Zm (Zh _)]at M;have eq:=λx=>(l.mem x).trans (u.mem x).symm
  exact kk F v lk b L m vs (N.trans (s4.trans B)) p u (q.of eq) aj M
theorem AG(T:Txt K mg):↥8 "widest" ["ground"] (AF mg):=by
 refine T.aZ.cal kS (λH vs Q E h=>?_)
 .obtain⟨g,qs,ls,ts,rfl,v,nr,kk⟩:=h;refine%[rfl|λf al A outer s Y=>?_];obtain⟨c2,c3,c4,gr⟩:=v.gr;have ll:=v.ll;have l:∀{p:ZB},jn (bh qs) ls p->p.length<=60:=λ{p} o=>by
   have:=STab.nodup_sub o.nd λx B=>((o.mem x).mp B).1
   lia
  refine%[_,(QSs.h (ah (aI 1 kS.nd rfl (aG (iS T) Y rfl #[↑0]))
   (ah (kC 2 kS.nd rfl Z1 Z0 rfl (aG (jD T) Y rfl #[↑1,aG (kg T) Y rfl #[↑1]]))
   (aq (aO (cZ (ay.of (show bq (ak j6) ["ground","reach","left_out"] _ ["name","left_out"] [(1,2)]=true from by decide +kernel)) rfl rfl (bW (K:=K) rfl (aG (bN T) Y rfl #[↑0])) (λ_ _ _=>(aJ 0 (show(["name","left_out"]:ZB).Nodup from by decide +kernel) rfl)) (λ_ _ _=>(iE (bA (BE (K:=K) rfl) rfl ↑0 (bP 1 rfl)))) (λ_ _ _=>↑0)))))))|?_]
  show aY _ _ _ [!g,none,none] H;refine ao λD1 k1 _=>?_
  lk;refine%[g,qs,ls,ts,rfl,v,nr|λd H1 rs lk p s1 C o re rk=>k1 _ _ (ao λD2 k2 _=>?_)];have rn:∀x y,Rch lk x y->y∈p:=λx y r=>(AE (v.names C o) r).2
  lk;refine%[d,lk,rs,p,rfl,re,rk,rn,l o,o.nd|λhb H2 L m s2 fb hh pr=>?_];refine%[d,hb,lk,rs,p,L,m,rfl,re.up s2,rk,rn,l o,o.nd,hh,pr|λlo H3 lf s3 ab ae ag=>k2 _ _ ?_];have G:=s1.trans (s2.trans s3);refine aC λaj hK=>?_
  lk;refine%[g,c2,c3,c4,qs,ls,ts,rfl,gr.up G,v.nd,v.so,⋯|λq H4 i s4 fm hm e=> .inl %[q,rfl,%[_|SqL.of hm]|hK _ _ λF hF=>?_]];have an:=l e;refine aV (J:=Itl K q) (n:=i.length) (D:=F) (λj vs σ t=>(∃o1,σ=[o1,!lo])/\af H4 t/\t F=some (.lst vs)/\vs=((i.take j).filter λx=>decide (x∉lf)).map V.str)
   %[%[none|rfl],af.upd hF,aa|rfl] (λj _ _ t I u=>%[_,V.str i[j],SqL.of (u.2.1 _ _ hm)|by simp]) (λ_ _ t u=>%[_,SqL.of (u.2.1 _ _ hm)|by simp]) ?_ ?_
  .rintro j vs σ t I ⟨⟨o1,rfl⟩,z,M,rfl⟩ x H6 ⟨e2,B⟩;subst e2;have N:=B _ (SqL.of (z _ _ hm));rw[Zk,Z4 I]at N;obtain rfl:x=V.str i[j]:=(Z9 N).symm;have tk:i.take (j+1)=i.take j++[i[j]]:=by rw[Yz,Z4 I];rfl
   lk;refine%[_,.inl (SqL.of (z _ _ (s4 _ _ ab))),rfl,pR lf|?_];rw[qX];refine bi (λc=>?_) λc=>?_
   .have n:i[j]∉lf:=λh=>by rw[Ze h]at c;cases c
    refine CK.mk I M (by rw[Z5];have:=Yb (λx=>decide (x∉lf)) (i.take j);rw[Ye]at this;exact az ⋯) %[%[_|rfl],af.set z hF,aa|?_];rw[tk,Zz,Zc,Y1 (by simpa using n)];rfl
   .have n:i[j]∈lf:=Decidable.byContradiction λh=>by rw[Zg h]at c;exact c rfl
    refine CN.mk I %[%[_|rfl],z,M|?_];rw[tk,Zz,Zc,Y0 (by simpa using n)];simp
  rintro vs σ t ⟨_,z,O,rfl⟩;rw[Zm (Zh _)]at O;have eq:∀x,x∈p↔x∈i:=λx=>(o.mem x).trans (e.mem x).symm
  have U:=pr.of eq;refine kk F t lk i L m _ (G.trans (s4.trans z)) C e U O ?_;rw[Z5];refine Nat.le_antisymm (md (E:=Rch lk) (λa b c h k=>h.trans k) e.nd U.mat U.mn (e.nd.filter _) (λx B=>(List.mem_filter.mp B).1) λa ha b ai r=>?_) (ni e.nd U.mat.nd U.ln ae);have na:=Zn (List.mem_filter.mp ha).2;have nb:=Zn (List.mem_filter.mp ai).2;exact(ag a b ((eq a).mpr (List.mem_filter.mp ha).1) r).elim na nb
noncomputable def oI(k:Nat)(d:Str->Nat)(new:Gs Str)(x:Str):V:= .int ((if x∈new.map (·.1)then k+1 else d x:Nat))
def F5(H:Hp)(l d:Addr)(st:Str)(ss:ZG)(m:Nat)(c:L2.St)(a:Hp):Prop:=∃(e:Addr) (k:Nat) (f g h i:Option V) (F:ZB) (rs:Gs Str) (b:Str->Nat),c=[!l,-st,!d,!e,some (.int k),f,g,h,i]/\af H a/\a e=some (.lst (F.map V.str))/\a d=some (.dK (VD (rs.map (·.1)) λx=> .int (b x)))/\ReB ss rs/\Lev (ss.map (·.2)) st rs b k F/\m=2*(62-rs.length) +F.length.min 1
def AH:Sp:=λvs H Q _=>∃(l:Addr) (st:Str) (b:ZB) (ss:ZG),vs=[.ref l,.str st]/\H l=some (.lst (ss.map λt=>V.ref t.1))/\c6 H b ss/\ss.length<=62/\∀d a (R:ZB) (f:Str->Nat),af H a->H d=none->a d=some (.dK (VD R λx=> .int (f x)))->R.length<=62->(∀x,x∈R↔Rch (ss.map (·.2)) st x)->Q (.ref d) a
theorem tG(T:Txt K mg):↥1 "_law_steps" ["_law_some","_law_begin"] AH:=by
 refine T.bu.cal bu (λH vs Q E h=>?_)
 .obtain⟨l,st,ns,ss,rfl,hl,a0,a7,kk⟩:=h;refine%[rfl|λf a6 A outer s M=>?_];have a1:(ss.map λt=>V.ref t.1).length=ss.length:=Z5 _;refine%[_,(QSs.h (ah (aI 2 bu.nd rfl fG)
   (ah (aI 3 bu.nd rfl (cj #[↑1]))
   (ah (aI 4 bu.nd rfl av)
   (ah (gT PassesOwn.never (bA (CZ M) rfl ↑3 (cj ap))
   (ah (aI 4 bu.nd rfl (opE bR ↑4 av))
    (ah (aI 5 bu.nd rfl (cj ap))
    (ah (cq PassesOwn.never rfl rfl (bW (K:=K) rfl ↑0) (fP (K:=K) rfl rfl rfl (gsE rfl (aJ 6 bu.nd rfl) (gsE rfl (aJ 7 bu.nd rfl) (gsE rfl (aJ 8 bu.nd rfl) cL))))
    (aq (ifS (wT (mK (bA (uq (K:=K) rfl) rfl ↑6 ↑3) (jO (eD M rfl ↑7 ↑2))))
     (ah (eY M rfl ↑4 ↑2 ↑7)
      (aq (bD rfl (bmO (K:=K) plainAttrs_list PySem.F.slot_list_append PySem.F.type_list_append aP rfl ↑5 #[↑7]))))
     bw)))
    (aq (aI 3 bu.nd rfl ↑5))))))
   (aq (aO ↑2)))))))|?_]
  show aY _ _ _ [!l,-st,none,none,none,none,none,none,none] H;refine ao λD1 k1 _=>?_
  lk;intro d fd;refine k1 _ _ (ao λD2 k2 _=>?_);have s1:=af.upd (o:= .dK []) fd;have j:upd H d (.dK []) d=some (.dK (VD (([]:Gs Str).map (·.1)) λ_=> .int (0:Nat))):=aa
  generalize upd H d (.dK [])=H1 at s1 j
  lk;refine%[#[1]|λe fe=>k2 _ _ (ao λD3 k3 _=>?_)];have s2:=af.upd (o:= .lst [V.str st]) fe;have u:upd H1 e (.lst [V.str st]) e=some (.lst ([st].map V.str)):=aa;have j:=s2 _ _ j;have ae:=s1.trans s2
  generalize upd H1 e (.lst [V.str st])=H2 at ae u j
  lk;refine k3 _ _ (ao λD4 k4 _=>?_);refine%[F5 H l d st ss,%[_,e,0,none,none,none,none,[st],[],_,rfl,ae,u,j,%[Yu|λ_ h=>(nomatch h)],.nil|rfl]|?_];rintro m σ H3 ⟨e,k,o5,o6,o7,o8,F,rs,J,rfl,C,u,j,ag,ab,rfl⟩;have Rl:=ag.len;lk;refine%[#[0]|λp fp=>%[F.map V.str,af.upd fp _ _ u,aa|bi (λh=>?_) λh=>?_]]
  .have s3:=af.upd (o:= .lst []) fp;have u:=s3 _ _ u;have j:=s3 _ _ j;have C:=C.trans s3
   generalize upd H3 p (.lst [])=H4 at u j C ⊢
   refine⟨λa2 I=>∃m',m'<2*(62-rs.length) +F.length.min 1/\F5 H l d st ss m' a2 I,λ_ _ h=>h,#[0],λN G=>aw λa5 hK=>?_⟩;have s4:=af.upd (o:= .lst []) G;have ai:upd H4 N (.lst []) N=some (.lst ((([]:Gs Str).map (·.1)).map V.str)):=aa;have mod:N≠d:=λc=>by rw[c,j]at G;cases G
   have a3:N≠e:=λc=>by rw[c,u]at G;cases G
   have ed:e≠d:=λc=>by rw[c,j]at u;cases u
   have G:=C.free G;have u:=s4 _ _ u;have j:=s4 _ _ j;have C:=C.trans s4
   generalize upd H4 N (.lst [])=H5 at ai u j C ⊢
   lk;refine .inl %[%[_|SqL.of (C _ _ hl)]|hK _ _ ?_];refine aX (xs:=ss.map λt=>V.ref t.1) (λi σ I=>(∃o6 o7 o8,σ=[!l,-st,!d,!e,some (.int ((k:Int) +1)),!N,o6,o7,o8])/\af H I/\I e=some (.lst (F.map V.str))/\∃new:Gs Str,I N=some (.lst ((new.map (·.1)).map V.str))/\I d=some (.dK (VD ((rs++new).map (·.1)) (oI k J new)))/\ReB ss (rs++new)/\(∀r∈new,∃p z,p∈F/\r.2.2=[p,r.1,z])/\∀t∈ss.take i,∀x y,t.2[0]? =some x->t.2[1]? =some y->x∈F->y∈(rs++new).map (·.1))
    %[%[_,_,_|rfl],C,u,[],ai,by rw[Zw];exact j,by rw[Zw];exact ag,λr M=>(nomatch M)|λt ht=>(nomatch ht)] (λi σ I _ h=>SqL.of (h.2.1 _ _ hl)) ?_ ?_
   .rintro i v σ I U ⟨⟨o6,o7,o8,rfl⟩,C,u,new,Y,j,b,L,B⟩;rw[Zk]at U;obtain⟨t,ht,rfl⟩:=map_eq_some_iff.mp U;have aj:=Z7 ht;obtain⟨al,x,y,z,et,_⟩:=a0 t aj;rw[et]at al;have tk:ss.take (i+1)=ss.take i++[t]:=by rw[Yz,ht];rfl
    have a4:=b.len;rw[Z8]at a4;have go:∀M':Gs Str,(∀a∈(rs++new).map (·.1),a∈(rs++M').map (·.1))->(x∈F->y∈(rs++M').map (·.1))->∀t∈ss.take (i+1),∀x y,t.2[0]? =some x->t.2[1]? =some y->x∈F->y∈(rs++M').map (·.1):=λM' mono hy t' an x' y' e1 e2 as=>by
     rw[tk]at an;rcases X8 an with q|q
     .exact mono y' (B t' q x' y' e1 e2 as)
     .rw[X9 q,et]at e1 e2;obtain rfl:x=x':=Z9 e1;obtain rfl:y=y':=Z9 e2;exact hy as
    refine%[_,SqT.of (C _ _ al),rfl,_,_,rfl,_,_,rfl,_,_,rfl,rfl|?_];show jG _ _ _ _ [!l,-st,!d,!e,some (.int ((k:Int) +1)),!N,-x,-y,-z] I;refine aB λD5 k5 _=>?_
    lk;refine%[_,.inl (SqL.of u),rfl,by simp[fD]|?_];rw[qX];refine bi (λO=>?_) λO=>?_
    .have O:=Zn O;refine%[_,bJ.k (k:=Sum.inr y) j|bi (λU=>?_) λU=>?_]
     .have hy:y∉(rs++new).map (·.1):=λc=>by rw[cY c]at U;cases U
      refine%[_,gE.k (k:=Sum.inr y) j (by unfold VD;rw[Z5,Z5,Z8];exact az ⋯)|?_];rw[dP _ (dO hy)];have e1:VD ((rs++new).map (·.1)) (oI k J new) ++[(Sum.inr y,V.int ((k:Int) +1))]=VD ((rs++(new++[(y,t.1,[x,y,z])])).map (·.1)) (oI k J (new++[(y,t.1,[x,y,z])])):=by
       have e0:(rs++(new++[(y,t.1,[x,y,z])])).map (·.1)=(rs++new).map (·.1) ++[y]:=by simp
       have yn:y∈(new++[(y,t.1,[x,y,z])]).map (·.1):=by simp
       unfold VD;rw[e0,Zc (l₂:=[y])];rw[List.map_singleton,show oI k J (new++[(y,t.1,[x,y,z])]) y= .int ((k:Int) +1) by unfold oI;rw[if_pos yn];rfl];refine congrArg (λl=>l++[(Sum.inr y,V.int ((k:Int) +1))]) (Yi λa ha=>?_);have:a∈(new++[(y,t.1,[x,y,z])]).map (·.1)↔a∈new.map (·.1):=by
        rw[Zc,Yl];exact or_iff_left λc=>hy (by rw[<-show a=y from X9 c];exact ha)
       unfold oI;simp only[this]
      rw[e1];have u1:∀c o,c≠d->I c=some o->upd I d (.dK (VD ((rs++(new++[(y,t.1,[x,y,z])])).map (·.1)) (oI k J (new++[(y,t.1,[x,y,z])])))) c=some o:=λc o h e=>by rw[am h];exact e
      have ud:upd I d (.dK (VD ((rs++(new++[(y,t.1,[x,y,z])])).map (·.1)) (oI k J (new++[(y,t.1,[x,y,z])])))) d=_:=aa;have v1:=af.set (o:= .dK (VD ((rs++(new++[(y,t.1,[x,y,z])])).map (·.1)) (oI k J (new++[(y,t.1,[x,y,z])])))) C fd
      generalize upd I d (.dK (VD ((rs++(new++[(y,t.1,[x,y,z])])).map (·.1)) (oI k J (new++[(y,t.1,[x,y,z])]))))=H6 at u1 ud v1
      have Y:=u1 _ _ mod Y;have R:=b.snoc (p:=x) (y:=y) (z:=z) (a:=t.1) (by rw[<-et];exact aj) hy;rw[Zd]at R;refine%[.inl %[_|SqL.of Y],_,Y,by rw[Z5,Z5];exact az ⋯|k5 _ _ %[%[_,_,_|rfl],af.set v1 G,(am a3.symm).trans (u1 _ _ ed u),new++[(y,t.1,[x,y,z])],by rw[aa,Zc,Zc];rfl,(am mod.symm).trans ud,R,λr M=>?_|go _ (λa ha=>?_) λ_=>?_]]
      .rcases X8 M with q|q
       .exact L r q
       .rw[X9 q];exact%[x,z,O|rfl]
      .rw[<-Zd,Zc];exact Ym _ ha
      .rw[<-Zd,Zc];exact Yn _ Zl
     .have hy:y∈(rs++new).map (·.1):=Decidable.byContradiction λc=>by rw[dO c]at U;exact U rfl
      exact k5 _ _ %[%[_,_,_|rfl],C,u,new,Y,j,b,L|go new (λ_ h=>h) λ_=>hy]
    .exact k5 _ _ %[%[_,_,_|rfl],C,u,new,Y,j,b,L|go new (λ_ h=>h) λc=>absurd (Ze c) O]
   .rintro σ I ⟨⟨o6,o7,o8,rfl⟩,C,u,new,Y,j,b,L,B⟩;rw[a1,Zm (Zh _)]at B;dsimp only;lk;have ln:=b.len;rw[Z8]at ln;have F1:F.length.min 1=1:=by
     cases F with
     | nil=>exact absurd h ∅
     | cons x F=>exact Nat.min_eq_right (by rw[Zq];lia)
    refine%[_,?_,N,k+1,_,_,_,_,new.map (·.1),rs++new,_,rfl,C,Y,j,b,ab.step b.nd (λr M=>%[Xb %[_,(b.sub r (Yn _ M)).1|rfl]|L r M]) λx O y ⟨z,hz⟩=>?_|rfl]
    .rw[F1,Z8,Z5];cases new with
     | nil=>simp
     | cons a r=>
       rw[Zq]at ln ⊢;have:(r.length+1).min 1<=1:=Nat.min_le_right _ _
       lia
    .obtain⟨t,ht,et⟩:=Xa hz;exact B t ht x y (by rw[et];rfl) (by rw[et];rfl) O
  .refine k4 _ _ ?_;lk;have h:F=[]:=by
    cases F with
    | nil=>rfl
    | cons x F=>exact absurd (Ze ∅) h
   subst h;refine kk d _ (rs.map (·.1)) J (C.trans (af.upd fp)) fd (af.upd fp _ _ j) (by rw[Z5];lia) λx=>%[λO=>?_|λr=>?_]
   .obtain⟨d1,d2⟩:=ab.dst O;obtain⟨n,e⟩:∃n,J x=n+1:=%[J x-1|⋯]
    rw[e]at d2;exact d2.rch
   .obtain⟨n,g⟩:=r.dst;exact ab.stop g
theorem kh{K:ZA}(h:SqL K H a xs)(s:af H b):SqL K b a xs:=h.imp_left λr=>r.imp (s _ _) λ⟨o,e⟩=>%[o|s _ _ e]
theorem Fd(f:d->V){xs:List d}(h:1<=xs.length)(c:Int):∃x∈xs,atI (xs.map f) (c%(xs.length:Int))=some (f x):=by
 have a:0<=c%xs.length:=Int.emod_nonneg _ ⋯;have e:c%xs.length<xs.length:=Int.emod_lt_of_pos _ ⋯
 generalize c%xs.length=i at a e
 obtain⟨k,rfl⟩:=X4 a;have b:k<xs.length:=by lia
 exact%[xs[k],Y7 b|cF (by rw[Zk,Z4 b];rfl)]
structure pV (H:Hp) (lk:List ZB) (k:Addr) (ns:ZB) (dd:Str->Addr):Prop where
 at_:H k=some (.dK (VD ns λn=> .ref (dd n)))
 in_:∀n∈ns,∃(R:ZB) (f:Str->Nat),H (dd n)=some (.dK (VD R λx=> .int (f x)))/\R.length<=62/\∀x,x∈R↔Rch lk n x
theorem pV.up(h:pV H lk k a b)(s:af H c):pV c lk k a b:=
 %[s _ _ h.at_|λn d=>by
  obtain⟨R,f,e,g⟩:=h.in_ n d;exact%[R,f,s _ _ e|g]]
theorem vW(b:z∉a)(e:∀x∈a,h x=g x):cJ (VD a g) (Sum.inr z) (h z)=VD (a++[z]) h:=by
 rw[dP _ (dO b)];unfold VD;rw[Zc];exact congrArg (·++_) (Yi λx c=>by rw[e x c])
def AI(mg:ZC):Sp:=λvs H Q _=>∃(g:Addr) (qs:ZM) (b:ZB) (ts:ZG),vs=[.ref g]/\ik mg H g qs b ts/\
 ∀k a lk c d,af H a->bv (bh qs) (ts.map (·.2)) lk->jn (bh qs) b c->pV a lk k c d->Q (.ref k) a
theorem oJ(T:Txt K mg):↥6 "_law_earlier" ["_law_ground_here"] (AI mg):=by
 refine T.bv.cal cC (λH vs Q E h=>?_)
 .obtain⟨g,qs,b,ts,rfl,l,kk⟩:=h;refine%[rfl|λf al A outer s u=>?_];obtain⟨c2,c3,c4,gr⟩:=l.gr;have ll:=l.ll;refine%[_,(QSs.h (ah (aI 1 cC.nd rfl (aG (rp T) u rfl #[↑0]))
   (ah (fX 2 cC.nd rfl Z0 Z1 rfl (ay.of (show bq (ak dM) ["_law_ground_here","_law_some","_law_names","_law_known","_law_name"] _ ["_law_one"] []=true from by decide +kernel)) rfl rfl (bW (K:=K) rfl (aG (nM T) u rfl #[↑0])) (λ_ _ _=>(aJ 0 (show(["_law_one"]:ZB).Nodup from by decide +kernel) rfl)) (λ_ _ _=>jr) (λ_ _ _=>(↑0*>av)))
   (ah (aI 3 cC.nd rfl fG)
   (ah (cq PassesOwn.never rfl rfl (bW (K:=K) rfl ↑2) (aJ 4 cC.nd rfl)
   (aq (eY u rfl (aG (tG T) u rfl #[↑1,↑4]) ↑3 ↑4)))
   (aq (aO ↑3)))))))|?_]
  show aY _ _ _ [!g,none,none,none,none] H;refine ao λD1 k1 _=>?_
  lk;refine%[g,c2,c3,c4,qs,b,ts,rfl,gr,l.nd,l.so,⋯,l.tl,l.t3|λso H1 ss s1 fm hm tu lk sl=>k1 _ _ (ao λD2 k2 _=>aC λU hK=>?_)];lk;refine%[g,c2,c3,c4,qs,b,ts,rfl,gr.up s1,l.nd,l.so,⋯|λl1 H2 us s2 f1 G la _ ⟨r,u,ed⟩ an=> .inl %[l1,rfl,%[_|SqL.of G]|hK _ _ λF hF=>?_]];have sg:us.length=(grp r b).length:=by
   have:=congrArg List.length ed;rwa[Z5,Z5]at this
  refine aV (J:=Itl K l1) (n:=us.length) (D:=F) (λj vs y a=>(∃o1,y=[o1])/\af H2 a/\a F=some (.lst vs)/\vs=(((grp r b).take j).map (·.1)).map V.str)
   %[%[none|rfl],af.upd hF,aa|rfl] (λj _ _ a p I=>%[_,V.ref us[j].1,SqL.of (I.2.1 _ _ G)|by simp[p]]) (λ_ _ a I=>%[_,SqL.of (I.2.1 _ _ G)|by simp]) ?_ ?_
  .rintro j vs y H3 p ⟨⟨o1,rfl⟩,Y,ae,B⟩ x H4 ⟨e2,C⟩;subst e2;have ab:=C _ (SqL.of (Y _ _ G));rw[Zk,Z4 p]at ab;obtain rfl:x=V.ref us[j].1:=(Z9 ab).symm;have jg:j<(grp r b).length:=by lia
   have e2:us[j].2=(grp r b)[j].2:=by
    have:=congrArg (λz=>z[j]?) ed;simpa [p,jg]using this
   have N:=tt l.so u (Y7 jg);lk;refine%[_,SqL.of (Y _ _ (la _ (Y7 p))),_,(show atI (us[j].2.map V.str) ((0:Nat):Int)=some (.str (grp r b)[j].1)from cF (by rw[Zk,e2,N];rfl))|?_];refine CK.mk p ae (by rw[B,Z5,Z5,Ye];exact az ⋯) %[%[_|rfl],af.set Y hF,aa|?_];rw[B,Yz,Z4 jg,Zc,Zc];rfl
  rintro vs y H3 ⟨_,Y,q,B⟩;rw[Zm ⋯]at B;rw[B]at q;have O:jn (bh qs) b ((grp r b).map (·.1)):=%[ja l.nd|λx=>by
   rw[i9];exact%[λh=>%[h.1|by have:=(u x h.1).2;rwa[h.2]at this]|λh=>%[h.1|(u x h.1).2.one h.2]]]
  generalize (grp r b).map (·.1)=t at q O
  have as:t.length<=60:=by
   have:=STab.nodup_sub O.nd λx C=>((O.mem x).mp C).1
   lia
  refine k2 _ _ (ao λD3 k3 _=>?_);lk;intro k fk;refine k3 _ _ (ao λD4 k4 _=>aw λU hK=>?_);have L:=s2.trans Y;have la:=(nQ tu (l.names lk O)).up L;have ag:=L _ _ hm;have ai:=s1.trans L;have s4:=af.upd (o:= .dK []) fk;lk;refine .inl %[%[_|SqL.of (s4 _ _ q)]|hK _ _ ?_];refine aX (xs:=t.map V.str) (λi y a=>(∃o4,y=[!g,!so,!F,!k,o4])/\af H3 a/\∃m:Str->Addr,a k=some (.dK (VD (t.take i) λn=> .ref (m n)))/\∀n∈t.take i,m n≠k/\∃(R:ZB) (f:Str->Nat),a (m n)=some (.dK (VD R λx=> .int (f x)))/\R.length<=62/\∀x,x∈R↔Rch (ss.map (·.2)) n x)
   %[%[_|rfl],s4,λ_=>k,aa|λn h=>(nomatch h)] (λi y a _ h=>SqL.of (h.2.1 _ _ q)) ?_ ?_
  .rintro i v y a B ⟨⟨o4,rfl⟩,sm,m,hk,N⟩;rw[Zk]at B;obtain⟨n,M,rfl⟩:=map_eq_some_iff.mp B;have il:=(X7 M).1;have tk:t.take (i+1)=t.take i++[n]:=by rw[Yz,M];rfl
   have nt:n∉t.take i:=λc=>by
    obtain⟨j,p⟩:=X2 c;have jl:=(X7 p).1;rw[Ye]at jl;rw[Y5 ⋯]at p;have:=cv O.nd p M
    lia
   show jJ _ _ _ _ [!g,!so,!F,!k,-n] a;refine aB λD5 k5 _=>?_
   lk;refine%[so,n,t,ss,rfl,sm _ _ ag,la.up sm,sl|λd H5 R f s5 fd aj Rl Rm=>?_];have dk:d≠k:=λc=>by rw[c,hk]at fd;cases fd
   refine%[_,gE.k (k:=Sum.inr n) (s5 _ _ hk) (by unfold VD;rw[Z5,Ye];exact az ⋯)|k5 _ _ %[%[_|rfl],af.set (sm.trans s5) fk,λx=>if x=n then d else m x,?_|λx C=>?_]]
   .have:=vW (g:=λn=>V.ref (m n)) (h:=λx=>V.ref (if x=n then d else m x)) nt λx C=>by
     show V.ref (if x=n then d else m x)=V.ref (m x);rw[if_neg (λc:x=n=>nt (c▸C))]
    rw[if_pos rfl]at this;rw[aa,this,tk]
   .rw[tk]at C;dsimp only;by_cases e:x=n
    .subst e;rw[if_pos rfl];exact%[dk,R,f,(am dk).trans aj,Rl|Rm]
    .rw[if_neg e];obtain⟨G,R',f',h2,h3⟩:=N x ((X8 C).resolve_right λc=>e (X9 c));exact%[G,R',f',(am G).trans (s5 _ _ h2)|h3]
  .rintro y a ⟨⟨o4,rfl⟩,sm,m,hk,N⟩;rw[Z5,Zm (Zh _)]at hk N;refine k4 _ _ ?_;lk;exact kk k a _ t m (ai.trans sm) lk O %[hk|λn h=>(N n h).2]
theorem F6{k n:Nat}(h:k<n):seqIndex? k n=some k:=by
 unfold seqIndex?;simp
 lia
theorem pW{a b:Type}(f:a->b):∀(xs:List a) k,(xs.map f).eraseIdx k=(xs.eraseIdx k).map f
 |[],_=>rfl
 | _::_,0=>rfl
 | x::xs,k+1=>congrArg _ (pW f xs k)
def F7(H:Hp)(l p r:Addr)(xs:ZB)(m:Nat)(b:L2.St)(a:Hp):Prop:=∃(n:Int) (ys zs:ZB),b=[!l,some (.int n),!p,!r]/\af H a/\a p=some (.lst (ys.map V.str))/\a r=some (.lst (zs.map V.str))/\(zs++ys).Perm xs/\m=ys.length
def AJ:Sp:=λvs H Q _=>∃(l:Addr) (xs:ZB) (n:Int),vs=[.ref l,.int n]/\H l=some (.lst (xs.map V.str))/\xs.length<=60/\∀r a (ys:ZB),af H a->a r=some (.lst (ys.map V.str))->ys.Perm xs->Q (.ref r) a
theorem tH(T:Txt K mg):↥1 "_law_drawn" ["_law_names","_law_number"] AJ:=by
 refine T.bw.cal eK (λH vs Q E h=>?_)
 .obtain⟨l,xs,n,rfl,M,xl,N⟩:=h;refine%[rfl|λf J A outer s L=>?_];refine%[_,(QSs.h (ah (aI 2 eK.nd rfl ↥↑0)
   (ah (aI 3 eK.nd rfl (cj ap))
   (ah (gT PassesOwn.never (bA (CZ L) rfl ↑2 (cj ap))
   (ah (bD rfl (bmO (K:=K) plainAttrs_list PySem.F.slot_list_append PySem.F.type_list_append aP rfl ↑3 #[(bmO (K:=K) plainAttrs_list PySem.F.slot_list_pop PySem.F.type_list_pop B6 rfl ↑2 #[(opE bY ↑1 ↑↑2)])]))
    (aq (aI 1 eK.nd rfl (opE bR (opE dA ↑1 av) av)))))
   (aq (aO ↑3))))))|?_]
  show aY _ _ _ [!l,some (.int n),none,none] H;refine ao λD1 O _=>?_
  lk;refine%[_,.inl (SqL.of M)|λp B=>O _ _ (ao λD2 U _=>?_)];have i:=af.upd (o:= .lst (xs.map V.str)) B;have b:upd H p (.lst (xs.map V.str)) p=some (.lst (xs.map V.str)):=aa
  generalize upd H p (.lst (xs.map V.str))=Y at i b
  lk;refine%[#[0]|λr j=>U _ _ (ao λD3 k3 _=>?_)];have C:=af.upd (o:= .lst []) j;have a:upd Y r (.lst []) r=some (.lst (([]:ZB).map V.str)):=aa;have G:p≠r:=ar b j;have b:=C _ _ b;have t:=i.free j;have u:=i.trans C;refine%[F7 H l p r xs,%[_,n,xs,[],rfl,u,b,a,.refl _|rfl]|?_];rintro m σ H3 ⟨n,ys,zs,rfl,c,b,a,d,rfl⟩;lk;refine%[#[0]|λq e=>%[ys.map V.str,af.upd e _ _ b,aa|bi (λh=>?_) λh=>?_]]
  .have v:=af.upd (o:= .lst []) e;have b:=v _ _ b;have a:=v _ _ a;have c:=c.trans v;unfold t8;lk;have y1:0<ys.length:=by
    cases ys with
    | nil=>exact absurd h ∅
    | cons y ys=>exact succ_pos _
   obtain⟨k,ek⟩:=X4 (Int.emod_nonneg n (show(ys.length:Int)≠0 by lia));have g:k<ys.length:=by have:=Int.emod_lt_of_pos n (show 0<(ys.length:Int) by lia);lia
   have l1:=d.length_eq;rw[Z8]at l1;refine⟨λz H'=>∃I,I<ys.length/\F7 H l p r xs I z H',λ_ _ h=>h,.inl %[_|SqL.of a],.inl %[_|SqL.of b],ys.length,.inl %[_,SqL.of b|(Z5 _).symm],⋯,_,b,⋯,⋯,k,by rw[ek,Z5];exact F6 g,V.str ys[k],by simp[g],zs.map V.str,(am G.symm).trans a,by rw[Z5];exact az ⋯,%[by decide|by decide],ys.length-1,⋯,_,ys.eraseIdx k,zs++[ys[k]],rfl,af.set (af.set c B) t,?_,?_,?_,?_⟩
   .rw[am G,aa,pW]
   .rw[aa,Zc];rfl
   .rw[Zd];exact((eU g).append_left zs).trans d
   .rw[List.length_eraseIdx_of_lt g]
  .refine k3 _ _ ?_;lk;have h:ys=[]:=by
    cases ys with
    | nil=>rfl
    | cons y ys=>exact absurd (Ze ∅) h
   subst h;rw[Zw]at d;exact N r _ zs (c.trans (af.upd e)) (af.upd e _ _ a) d
theorem AK{R:ZB}:(bz (VD R g) (Sum.inr y)).isSome=true↔y∈R:=by
 refine%[λh=>Decidable.byContradiction λc=>?_|λh=>by rw[cY h];rfl];rw[dO c]at h;cases h
def AL:Sp:=λvs H Q _=>∃(l k:Addr) (xs d:ZB) (lk:List ZB) (e:Str->Addr),vs=[.ref l,.ref k]/\H l=some (.lst (xs.map V.str))/\xs.Nodup/\xs.length<=60/\(∀x∈xs,x∈d)/\pV H lk k d e/\(∀x,¬ Rch lk x x)/\
 ∀r c (A:ZB),af H c->c r=some (.lst (A.map V.str))->A.Nodup->(∀x∈A,x∈xs)->(∀a∈A,∀b∈A,¬ Rch lk a b)->Q (.ref r) c
theorem tJ(T:Txt K mg):↥1 "_law_apart" ["_law_names","_law_known"] AL:=by
 refine T.bx.cal hW (λH vs Q E h=>?_)
 .obtain⟨l,k,xs,ns,lk,dd,rfl,hl,xn,xl,I,hk,nr,kk⟩:=h;refine%[rfl|λf aj A outer s M=>?_];refine%[_,(QSs.h (ah (aI 2 hW.nd rfl (cj ap))
   (ah (cq PassesOwn.never rfl rfl (bW (K:=K) rfl ↑0) (mL 3 hW.nd rfl Z1 Z0)
   (aq (ifS (bA (C0 M) rfl (cZ (ay.of (show bq (ak fK) ["_law_names","_law_known","_law_found","_law_name"] _ ["_law_other","_law_name","_law_known"] [(1,3),(2,1)]=true from by decide +kernel)) rfl rfl (bW (K:=K) rfl ↑2) (λ_ _ _=>(aJ 0 (show(["_law_other","_law_name","_law_known"]:ZB).Nodup from by decide +kernel) rfl)) (λ_ _ _=>(iE (wT (orW (w6 M rfl ↑0 (cb M (λ_ _=>rfl) (bP 2 rfl) (bP 1 rfl))) (nY (w6 M rfl (bP 1 rfl) (cb M (λ_ _=>rfl) (bP 2 rfl) ↑0))))))) (λ_ _ _=>↑0)) (cj ap))
    (aq (bD rfl (bmO (K:=K) plainAttrs_list PySem.F.slot_list_append PySem.F.type_list_append aP rfl ↑2 #[bP 3 rfl])))
    bw)))
   (aq (aO ↑2)))))|?_]
  show aY _ _ _ [!l,!k,none,none] H;refine ao λD1 k1 _=>?_
  lk;refine%[#[0]|λr fr=>k1 _ _ (ao λD2 k2 _=>aw λN hK=>?_)];have s1:=af.upd (o:= .lst []) fr;lk;refine .inl %[%[_|SqL.of (s1 _ _ hl)]|hK _ _ ?_];refine aX (xs:=xs.map V.str) (λi t z=>(∃o3,t=[!l,!k,!r,o3])/\af H z/\∃A:ZB,z r=some (.lst (A.map V.str))/\A.Nodup/\(∀x∈A,x∈xs.take i)/\∀a∈A,∀b∈A,¬ Rch lk a b)
   %[%[_|rfl],s1,[],aa,Yu,λx h=>(nomatch h)|λa h=>(nomatch h)] (λi t z _ h=>SqL.of (h.2.1 _ _ hl)) ?_ ?_
  .rintro i v t z u ⟨⟨o3,rfl⟩,B,A,e,O,C,anti⟩;rw[Zk]at u;obtain⟨n,hn,rfl⟩:=map_eq_some_iff.mp u;have il:=(X7 hn).1;have tk:xs.take (i+1)=xs.take i++[n]:=by rw[Yz,hn];rfl
   have nt:n∉xs.take i:=λc=>by
    obtain⟨j,g⟩:=X2 c;have jl:=(X7 g).1;rw[Ye]at jl;rw[Y5 ⋯]at g;have:=cv xn g hn
    lia
   have U:=I n (Z7 hn);have Al:A.length<=60:=by
    have:=STab.nodup_sub O C;rw[Ye]at this
    lia
   show jG _ _ _ _ [!l,!k,!r,-n] z;refine aB λD5 k5 _=>?_
   lk;refine aC λN hK=>?_
   lk;refine .inl %[%[_|SqL.of e]|hK _ _ λF hF=>?_];have Y:=hk.up B;obtain⟨R,f,hR,Rl,Rm⟩:=Y.in_ n U;refine aV (J:=Itl K r) (n:=A.length) (D:=F) (λj vs t m=>(∃o1,t=[o1,-n,!k])/\af z m/\m F=some (.lst vs)/\vs.length<=j/\(vs=[]->∀x∈A.take j,¬ Rch lk n x/\ ¬ Rch lk x n))
    %[%[none|rfl],af.upd hF,aa,Zh _|λ_ x h=>(nomatch h)] (λj _ _ m g L=>%[_,V.str A[j],SqL.of (L.2.1 _ _ e)|by simp[g]]) (λ_ _ m L=>%[_,SqL.of (L.2.1 _ _ e)|by simp]) ?_ ?_
   .rintro j vs t m g ⟨⟨o1,rfl⟩,G,d,vl,u⟩ x H4 ⟨e2,y⟩;subst e2;have ab:=y _ (SqL.of (G _ _ e));rw[Zk,Z4 g]at ab;obtain rfl:x=V.str A[j]:=(Z9 ab).symm;have ka:A.take (j+1)=A.take j++[A[j]]:=by rw[Yz,Z4 g];rfl
    have k3:=Y.up G;obtain⟨R2,f2,ag,_,ai⟩:=k3.in_ A[j] (I _ (Yp (C _ (Y7 g))));lk;have g1:=bJ.k (k:=Sum.inr n) k3.at_;rw[cY U]at g1;have g2:=bJ.k (k:=Sum.inr A[j]) k3.at_;rw[cY (I _ (Yp (C _ (Y7 g))))]at g2;have ae:CK F A.length j (λj vs t m=>(∃o1,t=[o1,-n,!k])/\af z m/\m F=some (.lst vs)/\vs.length<=j/\(vs=[]->∀x∈A.take j,¬ Rch lk n x/\ ¬ Rch lk x n)) vs [some (.str A[j]),-n,!k] (.str A[j]) H4:=
     CK.mk g d (az ⋯) %[%[_|rfl],af.set G hF,aa,by rw[Z8,Yd];lia|λc=>absurd c ∅]
    refine%[_,g1,_,rfl,_,bJ.k (k:=Sum.inr A[j]) (G _ _ hR)|bi (λ_=>ae) λc1=>%[_,g2,_,rfl,_,bJ.k (k:=Sum.inr n) ag|bi (λ_=>ae) λc2=>?_]];refine CN.mk g %[%[_|rfl],G,d,⋯|λc x y=>?_];rw[ka]at y;rcases X8 y with q|q
    .exact u c x q
    .rw[X9 q];exact%[λr=>c1 (AK.mpr ((Rm _).mpr r))|λr=>c2 (AK.mpr ((ai _).mpr r))]
   .rintro vs t m ⟨_,G,d,vl,u⟩;rw[Zm (Zh _)]at u;refine%[#[0]|λp fp=>?_];have s4:=af.upd (o:= .lst []) fp;have d:=s4 _ _ d;have hp:upd m p (.lst []) p=some (.lst []):=aa;have B:=B.trans (G.trans s4);have e:=s4 _ _ (G _ _ e)
    generalize upd m p (.lst [])=H4 at d hp B e ⊢
    refine%[F,p,vs,rfl,rfl,d,hp,_,rfl|bi (λc=>?_) λc=>k5 _ _ %[%[_|rfl],B,A,e,O,λx y=>by rw[tk];exact Ym _ (C x y)|anti]];have u:=u (by
     cases vs with
     | nil=>rfl
     | cons a b=>simp at c)
    refine%[.inl %[_|SqL.of e],_,e,by rw[Z5];exact az ⋯|k5 _ _ %[%[_|rfl],af.set B fr,A++[n],by rw[aa,Zc];rfl,?_,λx y=>?_|λa ha b hb=>?_]]
    .rw[Ys];exact%[O,by simp|λa ha b hb c=>nt (by rw[<-X9 hb,<-c];exact C a ha)]
    .rw[tk];exact(X8 y).elim (λq=>Ym _ (C x q)) λq=>Yn _ q
    .rcases X8 ha with qa|qa<;> rcases X8 hb with qb|qb
     .exact anti a qa b qb
     .rw[X9 qb];exact(u a qa).2
     .rw[X9 qa];exact(u b qb).1
     .rw[X9 qa,X9 qb];exact nr n
  .rintro t z ⟨⟨o3,rfl⟩,B,A,e,O,C,anti⟩;refine k2 _ _ ?_;lk;exact kk r z A B e O (λx y=>Yp (C x y)) anti
theorem CF{rs:ZG}(nd:(rs.map (·.1)).Nodup){u t:Addr×ZB}(c:u∈rs)(d:t∈rs)(e:u.1=t.1):u=t:=by
 induction rs with
 | nil=>cases c
 | cons x xs f=>
   rw[Yj,nodup_cons]at nd;rcases mem_cons.mp c with a|a<;> rcases mem_cons.mp d with b|b
   .rw[a,b]
   .exact(nd.1 (by rw[<-a,e];exact Xb %[_,b|rfl])).elim
   .exact(nd.1 (by rw[<-b,<-e];exact Xb %[_,a|rfl])).elim
   .exact f nd.2 a b
structure Rows (lk:List ZB) (xs:ZB) (rs:ZG):Prop where
 all:∀x∈xs,∃t∈rs,x∈t.2
 ch:∀t∈rs,t.2.Pairwise (Rch lk)
structure AM (Hb H:Hp) (lk:List ZB) (ns:ZB) (r:Addr) (rs:ZG) (i:Nat):Prop where
 at_:H r=some (.lst (rs.map λt=>V.ref t.1))
 own:∀t∈rs,Hb t.1=none/\t.1≠r/\H t.1=some (.lst (t.2.map V.str))
 nd:(rs.map (·.1)).Nodup
 len:rs.length<=i
 ok:∀t∈rs,(∃zs y,t.2=zs++[y])/\t.2.length<=i/\t.2.Pairwise (Rch lk)/\∀x∈t.2,x∈ns
def xZ:Sp:=λvs H Q _=>∃(l k:Addr) (n:Int) (xs b:ZB) (lk:List ZB) (c:Str->Addr),vs=[.ref l,.ref k,.int n]/\H l=some (.lst (xs.map V.str))/\xs.length<=60/\(∀x∈xs,x∈b)/\pV H lk k b c/\
 ∀r a (rs:ZG),af H a->a r=some (.lst (rs.map λt=>V.ref t.1))->Rows lk xs rs->Q (.ref r) a
theorem oK(T:Txt K mg):↥1 "_law_rows_of" ["_law_names","_law_known","_law_number"] xZ:=by
 refine T.bz.cal bI (λH vs Q E h=>?_)
 .obtain⟨l,k,n,xs,ns,lk,dd,rfl,hl,xl,a5,hk,kk⟩:=h;refine%[rfl|λf bp A outer s hr=>?_];refine%[_,(QSs.h (ah (aI 3 bI.nd rfl (cbO (xu (K:=K) rfl) T.a7 boot_sorted rfl #[(cZ (ay.of (show bq (ak cP) ["_law_names","_law_known","_law_number","_law_rest","_law_rows","_law_size","_law_name","_law_fit"] _ ["_law_name","_law_known"] [(1,1)]=true from by decide +kernel)) rfl rfl (bW (K:=K) rfl ↑0) (λ_ _ _=>(aJ 0 (show(["_law_name","_law_known"]:ZB).Nodup from by decide +kernel) rfl)) (λ_ _ _=>jr) (λ_ _ _=>(jN #[(opE ph av (cbO ⟨wz⟩ T.a8 PySem.boot_len rfl #[(cb hr (λ_ _=>rfl) (bP 1 rfl) ↑0)])),↑0])))]))
   (ah (aI 4 bI.nd rfl (cj ap))
   (ah (cq PassesOwn.never rfl rfl (bW (K:=K) rfl ↑3) (fP (K:=K) rfl rfl rfl (gsE rfl (aJ 5 bI.nd rfl) (gsE rfl (mL 6 bI.nd rfl Z1 Z0) cL)))
   (ah (fX 7 bI.nd rfl Z0 Z1 rfl (ay.of (show bq (ak cP) ["_law_names","_law_known","_law_number","_law_rest","_law_rows","_law_size","_law_name","_law_fit"] _ ["_law_row_here","_law_name","_law_known"] [(1,6),(2,1)]=true from by decide +kernel)) rfl rfl (bW (K:=K) rfl ↑4) (λ_ _ _=>(aJ 0 (show(["_law_row_here","_law_name","_law_known"]:ZB).Nodup from by decide +kernel) rfl)) (λ_ _ _=>(iE (w6 hr rfl (bP 1 rfl) (cb hr (λ_ _=>rfl) (bP 2 rfl) (↑0*>(nX av)))))) (λ_ _ _=>↑0))
    (ah (ifS (bA (C0 hr) rfl ↑7 (cj ap))
    (aq (bD rfl (bmO (K:=K) plainAttrs_list PySem.F.slot_list_append PySem.F.type_list_append aP rfl ↑4 #[cj #[bP 6 rfl]])))
    (aq (bD rfl (bmO (K:=K) plainAttrs_list PySem.F.slot_list_append PySem.F.type_list_append aP rfl (↑7*>(opE bY ↑2 ↑↑7)) #[bP 6 rfl]))))
    (aq (aI 2 bI.nd rfl (opE bR (opE dA ↑2 av) av))))))
   (aq (aO ↑4))))))|?_]
  show aY _ _ _ [!l,!k,some (.int n),none,none,none,none,none] H;refine ao λD1 k1 _=>?_
  lk;refine aC λas hK=>?_
  lk;refine .inl %[%[_|SqL.of hl]|hK _ _ λF hF=>?_];refine aV (J:=Itl K l) (n:=xs.length) (D:=F) (λj vs Y z=>(∃o1,Y=[o1,!k])/\af H z/\∃ps:List (Addr×Int×Str),z F=some (.lst (ps.map λp=>V.ref p.1))/\vs=(ps.map λp=>V.ref p.1)/\qR z ps/\ps.map (·.2.2)=xs.take j)
   %[%[none|rfl],af.upd hF,[],aa,rfl,λp h=>(nomatch h)|rfl] (λj _ _ z U M=>%[_,V.str xs[j],SqL.of (M.2.1 _ _ hl)|by simp[U]]) (λ_ _ z M=>%[_,SqL.of (M.2.1 _ _ hl)|by simp]) ?_ ?_
  .rintro j vs Y z U ⟨⟨o1,rfl⟩,s3,ps,a2,rfl,pa,px⟩ x H4 ⟨e2,B⟩;subst e2;have ab:=B _ (SqL.of (s3 _ _ hl));rw[Zk,Z4 U]at ab;obtain rfl:x=V.str xs[j]:=(Z9 ab).symm;have k3:=hk.up s3;have ae:=a5 xs[j] (Y7 U);have g1:=bJ.k (k:=Sum.inr xs[j]) k3.at_;rw[cY ae]at g1;obtain⟨R,f,hR,Rl,_⟩:=k3.in_ _ ae;lk;refine%[_,g1,_,rfl,_,hR,#[2]|λp fp=>?_];have lp:ps.length=j:=by
    have:=congrArg List.length px;rw[Z5,Ye]at this
    lia
   have sp:=af.upd (o:= .tup [V.int (0-((VD R λx=>V.int (f x)).length:Int)),V.str xs[j]]) fp;have O:upd H4 p (.tup [V.int (0-((VD R λx=>V.int (f x)).length:Int)),V.str xs[j]]) p=_:=aa
   generalize upd H4 p (.tup [V.int (0-((VD R λx=>V.int (f x)).length:Int)),V.str xs[j]])=H5 at sp O ⊢
   have a6:=sp _ _ a2;have ne:∀{a:Addr} {ys:ZL},H5 a=some (.tup ys)->a≠F:=λe c=>by rw[c,a6]at e;cases e
   refine CK.mk U a6 (by rw[Z5];exact az ⋯) %[%[_|rfl],af.set (s3.trans sp) hF,ps++[(p,0-((VD R λx=>V.int (f x)).length:Int),xs[j])],by rw[aa,Zc];rfl,by rw[Zc];rfl,λq hq=>?_|?_]
   .rcases X8 hq with c|c
    .exact%[(pa q c).1|(am (ne (sp _ _ (pa q c).2))).trans (sp _ _ (pa q c).2)]
    .rw[X9 c];refine%[?_|(am (ne O)).trans O];show -1000<=0-((VD R λx=>V.int (f x)).length:Int);unfold VD;rw[Z5]
     lia
   .rw[Zc,px,Yz,Z4 U];rfl
  .rintro vs Y z ⟨_,s3,ps,a2,rfl,pa,px⟩;rw[Zm (Zh _)]at px;have lp:ps.length=xs.length:=by
    have:=congrArg List.length px;rwa[Z5]at this
   refine%[F,rfl,ps,SqL.of a2,pa,⋯|λre ss bb pm=>k1 _ _ (ao λD2 k2 _=>?_)];have s4:=af.upd (o:= .lst (ss.map λp=>V.ref p.1)) bb;have a3:upd z re (.lst (ss.map λp=>V.ref p.1)) re=some (.lst (ss.map λp=>V.ref p.1)):=aa;have pa:qR (upd z re (.lst (ss.map λp=>V.ref p.1))) ss:=λp O=>%[(pa p (pm.mem_iff.mp O)).1|s4 _ _ (pa p (pm.mem_iff.mp O)).2]
   have a4:=s3.trans s4
   generalize upd z re (.lst (ss.map λp=>V.ref p.1))=Hb at a3 pa a4
   have sl:ss.length=xs.length:=pm.length_eq.trans lp;have bf:=hk.up a4;have bl:∀p∈ss,p.2.2∈xs:=λp O=>by rw[<-px];exact Xb %[p,pm.mem_iff.mp O|rfl]
   lk;refine%[#[0]|λr fr=>k2 _ _ (ao λD3 k3 _=>aw λas hK=>?_)];have s5:=af.upd (o:= .lst []) fr;lk;refine .inl %[%[_|SqL.of (s5 _ _ a3)]|hK _ _ ?_];refine aX (xs:=ss.map λp=>V.ref p.1) (λi Y H'=>(∃(m:Int) (o5 o6 o7:Option V),Y=[!l,!k,some (.int m),!re,!r,o5,o6,o7])/\af Hb H'/\∃rs,AM Hb H' lk ns r rs i/\∀p∈ss.take i,∃t∈rs,p.2.2∈t.2)
    %[%[n,none,none,none|rfl],s5,[],%[aa,λt h=>(nomatch h),Yu,Zh _|λt h=>(nomatch h)]|λp h=>(nomatch h)] (λi Y H' _ h=>SqL.of (h.2.1 _ _ a3)) ?_ ?_
   .rintro i v Y H' hv ⟨⟨m,o5,o6,o7,rfl⟩,sm,rs,d,al⟩;rw[Zk]at hv;obtain⟨p,O,rfl⟩:=map_eq_some_iff.mp hv;have a7:=Z7 O;have il:=(X7 O).1;have tk:ss.take (i+1)=ss.take i++[p]:=by rw[Yz,O];rfl
    refine%[_,SqT.of (sm _ _ (pa p a7).2),rfl,_,_,rfl,_,_,rfl,rfl|?_];have ae:=a5 _ (bl p a7)
    generalize p.2.1=sz at*
    generalize bm:p.2.2=I at*
    show aY _ _ _ [!l,!k,some (.int m),!re,!r,some (.int sz),-I,o7] H';refine ao λD5 k5 _=>aC λas hK=>?_
    lk;refine .inl %[%[_|SqL.of d.at_]|hK _ _ λG hG=>?_];have k6:=bf.up sm;refine aV (J:=Itl K r) (n:=rs.length) (D:=G) (λj vs Y z=>(∃o1,Y=[o1,-I,!k])/\af H' z/\∃fs:ZG,z G=some (.lst (fs.map λt=>V.ref t.1))/\vs=(fs.map λt=>V.ref t.1)/\fs.length<=j/\∀t∈fs,t∈rs/\∃zs y,t.2=zs++[y]/\Rch lk y I)
     %[%[none|rfl],af.upd hG,[],aa,rfl,Zh _|λt h=>(nomatch h)] (λj _ _ z U M=>%[_,V.ref rs[j].1,SqL.of (M.2.1 _ _ d.at_)|by simp[U]]) (λ_ _ z M=>%[_,SqL.of (M.2.1 _ _ d.at_)|by simp]) ?_ ?_
    .rintro j vs Y z U ⟨⟨o1,rfl⟩,s6,fs,ai,rfl,fl,ff⟩ x H4 ⟨e2,B⟩;subst e2;have ab:=B _ (SqL.of (s6 _ _ d.at_));rw[Zk,Z4 U]at ab;obtain rfl:x=V.ref rs[j].1:=(Z9 ab).symm;have C:=Y7 U;obtain⟨⟨zs,y,ey⟩,t1,t2,t3⟩:=d.ok _ C;have a8:=t3 y (by rw[ey];simp);have k7:=k6.up s6;have g1:=bJ.k (k:=Sum.inr y) k7.at_;rw[cY a8]at g1;obtain⟨R,f,hR,_,Rm⟩:=k7.in_ y a8;have a0:=s6 _ _ (d.own _ C).2.2;rw[ey,Zc]at a0;have rl:=d.len;lk;refine%[_,SqL.of a0,_,iA _ _,_,g1,_,rfl,_,bJ.k (k:=Sum.inr I) hR|bi (λc=>?_) λc=>?_]
     .refine CK.mk U ai (by rw[Z5];exact az ⋯) %[%[_|rfl],af.set s6 hG,fs++[rs[j]],by rw[aa,Zc];rfl,by rw[Zc];rfl,by rw[Z8,Yd];lia|λt ht=>?_];rcases X8 ht with q|q
      .exact ff t q
      .rw[X9 q];exact%[C,zs,y,ey|(Rm _).mp (AK.mp c)]
     .exact CN.mk U %[%[_|rfl],s6,fs,ai,rfl,⋯|ff]
    rintro vs Y z ⟨_,s6,fs,ai,rfl,fl,ff⟩;refine k5 _ _ (ao λD6 bn _=>?_);lk;refine%[#[0]|λp' fp=>?_];have s7:=s6.trans (af.upd (o:= .lst []) fp);have aj:=af.upd (o:= .lst []) fp _ _ ai;have a9:upd z p' (.lst []) p'=some (.lst []):=aa;have an:=sm.trans s7;have rl:=d.len
    generalize upd z p' (.lst [])=H7 at s7 aj a9 an ⊢
    have fin:∀H8 ag,af Hb H8->AM Hb H8 lk ns r ag (i+1)->(∀u∈rs,∃L∈ag,∀x∈u.2,x∈L.2)->(∃L∈ag,I∈L.2)->D6.nx [!l,!k,some (.int m),!re,!r,some (.int sz),-I,!G] H8:=λH8 ag s8 r8 up new=>by
     refine bn _ _ (aB λD7 k7 _=>?_);lk;refine%[%[by decide|by decide]|k7 _ _ %[%[_,_,_,_|rfl],s8,ag,r8|λq hq=>?_]];rw[tk]at hq;rcases X8 hq with c|c
     .obtain⟨u,hu,B⟩:=al q c;obtain⟨L,N,h⟩:=up u hu;exact%[L,N|h _ B]
     .rw[X9 c,bm];exact new
    refine%[G,p',_,rfl,rfl,aj,a9,_,rfl|bi (λc=>?_) λc=>?_]
    .have r7:=s7 _ _ d.at_;refine%[.inl %[_|SqL.of r7],#[1]|λe fe=>%[_,af.upd fe _ _ r7,by rw[Z5];exact az ⋯|?_]];have er:e≠r:=(ar r7 fe).symm;refine fin _ (rs++[(e,[I])]) (af.set (an.trans (af.upd fe)) fr) %[by rw[aa,Zc];rfl,λt ht=>?_,?_,by rw[Z8,Yd];lia|λt ht=>?_] (λu hu=>%[u,Ym _ hu|λ_ h=>h]) %[_,Yn _ Zl|Zl]
     .rcases X8 ht with q|q
      .obtain⟨h1,h2,h3⟩:=d.own t q;exact%[h1,h2|(am h2).trans (af.upd fe _ _ (s7 _ _ h3))]
      .rw[X9 q];exact%[an.free fe,er|(am er).trans aa]
     .rw[Zc,Ys];refine%[d.nd,by simp|λa ha b hb c=>?_];obtain⟨t,ht,rfl⟩:=Xa ha;have:=s7 _ _ (d.own t ht).2.2;rw[c,show b=e from X9 hb,fe]at this;cases this
     .rcases X8 ht with q|q
      .obtain⟨h1,h2,h3⟩:=d.ok t q;exact%[h1,⋯|h3]
      .rw[X9 q];exact%[%[[],I|rfl],by simp,by simp|λx B=>by rw[X9 B];exact ae]
    .have f1:1<=fs.length:=by
      cases fs with
      | nil=>exact absurd rfl c
      | cons a b=>exact succ_pos _
     obtain⟨t,ht,et⟩:=Fd (λt:Addr×ZB=>V.ref t.1) f1 m;obtain⟨C,zs,y,ey,ry⟩:=ff t ht;obtain⟨w1,w2,w3⟩:=d.own t C;have t7:=s7 _ _ w3;obtain⟨_,v2,v3,v4⟩:=d.ok t C;refine%[fs.length,.inl %[_,SqL.of aj|(Z5 _).symm],⋯,_,SqL.of aj,_,et,.inl %[_|SqL.of t7],_,rfl,_,t7,by rw[Z5];exact az ⋯|?_];have mp:∀g:Addr->V,(rs.map λu=>if u.1=t.1 then(u.1,u.2++[I])else u).map (λu=>g u.1)=rs.map λu=>g u.1:=λg=>by
      rw[Yk];refine Yi λu _=>?_
      show g (if u.1=t.1 then(u.1,u.2++[I])else u).1=_
      split<;> rfl
     have a1:∀L∈(rs.map λu=>if u.1=t.1 then(u.1,u.2++[I])else u),L=(t.1,t.2++[I])\/L∈rs/\L.1≠t.1:=λL N=>by
      obtain⟨u,hu,rfl⟩:=Xa N;by_cases e:u.1=t.1
      .rw[if_pos e,CF d.nd hu C e];exact .inl rfl
      .rw[if_neg e];exact .inr %[hu|e]
     refine fin _ (rs.map λu=>if u.1=t.1 then(u.1,u.2++[I])else u) (af.set an w1) %[by rw[am w2.symm,mp V.ref];exact s7 _ _ d.at_,λL N=>?_,?_,by rw[Z5];lia|λL N=>?_] (λu hu=>%[_,Xb %[u,hu|rfl]|λx B=>?_]) %[_,Xb %[t,C|rfl]|by rw[if_pos rfl];simp]
     .rcases a1 L N with rfl|⟨h,e⟩
      .exact%[w1,w2|by rw[aa,Zc];rfl]
      .obtain⟨h1,h2,h3⟩:=d.own L h;exact%[h1,h2|(am e).trans (s7 _ _ h3)]
     .have:(rs.map λu=>if u.1=t.1 then(u.1,u.2++[I])else u).map (·.1)=rs.map (·.1):=by
       rw[Yk];refine Yi λu _=>?_
       show(if u.1=t.1 then(u.1,u.2++[I])else u).1=_
       split<;> rfl
      rw[this];exact d.nd
     .rcases a1 L N with rfl|⟨h,e⟩
      .refine%[%[t.2,I|rfl],by rw[Z8,Yd];lia,?_|λx B=>?_]
       .rw[List.pairwise_append];refine%[v3,by simp|λx B b hb=>?_];rw[X9 hb];rw[ey]at B v3;rcases X8 B with q|q
        .exact((List.pairwise_append.mp v3).2.2 x q y Zl).trans ry
        .rw[X9 q];exact ry
       .rcases X8 B with q|q
        .exact v4 x q
        .rw[X9 q];exact ae
      .obtain⟨h1,h2,h3⟩:=d.ok L h;exact%[h1,⋯|h3]
     .split
      .exact Ym _ B
      .exact B
   .rintro Y H' ⟨⟨m,o5,o6,o7,rfl⟩,sm,rs,d,al⟩;rw[Z5,Zm (Zh _)]at al;refine k3 _ _ ?_;lk;refine kk r H' rs (a4.trans sm) d.at_ %[λx B=>?_|λt ht=>(d.ok t ht).2.2.1];rw[<-px]at B;obtain⟨p,O,rfl⟩:=Xa B;exact al p (pm.mem_iff.mpr O)
structure C4 (lk:List ZB) (ns L:ZB) (lv:Str->Int):Prop where
 mem:∀x,x∈L↔x∈ns
 lt:∀x y,Ed lk x y->lv y<lv x
def x4(mg:ZC):Sp:=λvs H Q _=>∃(g:Addr) (qs:ZM) (b:ZB) (ts:ZG),vs=[.ref g]/\ik mg H g qs b ts/\(∀lk,bv (bh qs) (ts.map (·.2)) lk->∀x,¬ Rch lk x x)/\
 ∀d a lk c L e,af H a->H d=none->bv (bh qs) (ts.map (·.2)) lk->jn (bh qs) b c->a d=some (.dK (VD L λx=> .int (e x)))->C4 lk c L e->Q (.ref d) a
theorem x5(T:Txt K mg):↥8 "levels" ["ground"] (x4 mg):=by
 refine T.b0.cal gA (λH vs Q E h=>?_)
 .obtain⟨g,qs,ls,ts,rfl,hg,nr,kk⟩:=h;refine%[rfl|λf b2 A outer s hr=>?_];obtain⟨c2,c3,c4,gr⟩:=hg.gr;have ll:=hg.ll;refine%[_,(QSs.h (ah (aI 1 gA.nd rfl (aG (iR T) hr rfl #[↑0]))
   (ah (aI 2 gA.nd rfl (aG (cH T) hr rfl #[↑1]))
   (ah (kC 3 gA.nd rfl Z1 Z0 rfl fG)
   (ah (cq PassesOwn.never rfl rfl (bW (K:=K) rfl (aG (fB T) hr rfl #[aG (bN T) hr rfl #[↑0],↑1])) (aJ 4 gA.nd rfl)
   (aq (eY hr rfl (FU (K:=K) rfl rfl T.a1 rfl rfl (cZ (ay.of (show bq (ak j7) ["ground","found","beneath","told","name"] _ ["link","told"] [(1,3)]=true from by decide +kernel)) rfl rfl (bW (K:=K) rfl (bmO (K:=K) plainAttrs_dict slot_dict_get type_dict_get sH rfl ↑2 #[↑4,cj ap])) (λ_ _ _=>(aJ 0 (show(["link","told"]:ZB).Nodup from by decide +kernel) rfl)) (λ_ _ _=>jr) (λ_ _ _=>(opE bR (cb hr (λ_ _=>rfl) (bP 1 rfl) (↑0>>(gvE T.am rfl rfl))) av))) av) (bP 3 rfl) ↑4)))
   (aq (aO (bP 3 rfl))))))))|?_]
  show aY _ _ _ [!g,none,none,none,none] H;refine ao λD1 k1 _=>?_
  lk;refine%[g,qs,ls,ts,rfl,hg,nr|λso H1 n0 ss s1 a2 la sl lk=>k1 _ _ (ao λD2 k2 _=>?_)];have nr:=nr _ lk;lk;refine%[so,n0,ss,rfl,a2,la,sl|λb H2 s2 fb hb=>k2 _ _ (ao λD3 k3 _=>?_)];lk;intro d fd;refine k3 _ _ (ao λD4 k4 _=>aw λa3 hK=>?_);have s3:=af.upd (o:= .dK []) fd;have hd:upd H2 d (.dK []) d=some (.dK (VD [] λ_=> .int 0)):=aa;have a4:=s1.trans s2;have ag:=a4.trans s3;have a5:b≠d:=λc=>by
   obtain⟨a6,h1,_⟩:=hb;rw[c,fd]at h1;cases h1
  have a7:=a4.free fd;have a8:=hb.up s3;have a9:=s2.trans s3
  generalize upd H2 d (.dK [])=H3 at s3 hd ag a8 a9
  lk;refine%[g,c2,c3,c4,qs,ls,ts,rfl,gr.up ag,hg.nd,hg.so,⋯|λnl H4 ms s4 fm hm hn=>?_];have bU:ms.length<=60:=by
   have:=STab.nodup_sub hn.nd λx l=>((hn.mem x).mp l).1
   lia
  have bb:=a9.trans s4;have lm:c6 H4 ms ss:=λt q=>%[bb _ _ (la t q).1|hg.names lk hn _ (Xb %[t,q|rfl])]
  refine%[nl,so,ms,ss,rfl,hm,hn.nd,bU,bb _ _ a2,lm,sl|λr H5 L s5 ai Ln Ls bf rest=> .inl %[r,rfl,%[_|SqL.of ai]|hK _ _ ?_]];have ae:∀x∈ms,x∈L:=λx l=>Decidable.byContradiction λc=>Aa (ks:=ss.map (·.2)) (U:=ms.filter λx=>decide (x∉L)) (λx l=>by
   obtain⟨h1,h2⟩:=List.mem_filter.mp l;obtain⟨y,e,yn,yl⟩:=rest x h1 (Zn h2);exact%[y,List.mem_filter.mpr %[yn|Ze yl]|e]) nr (List.mem_filter.mpr %[l|Ze c])
  have Ll:=STab.nodup_sub Ln Ls;have aj:=s4.trans s5;have bl:=a8.up aj;have G:=aj _ _ hd;have bm:=lm.up s5;refine aX (xs:=L.map V.str) (λi σ I=>(∃o4,σ=[!g,!so,!b,!d,o4])/\cD d H5 I/\∃B:Str->Int,I d=some (.dK (VD (L.take i) λx=> .int (B x)))/\∀x∈L.take i,∀y,Ed (ss.map (·.2)) x y->B y<B x)
   %[%[_|rfl],λ_ _ _ e=>e,_,G|λx h=>(nomatch h)] (λi σ I _ h=>SqL.of (h.2.1 _ _ (λc=>by rw[<-c,ai]at G;cases G) ai)) ?_ ?_
  .rintro i v σ I hv ⟨⟨o4,rfl⟩,sm,B,M,N⟩;rw[Zk]at hv;obtain⟨n,O,rfl⟩:=map_eq_some_iff.mp hv;have il:=(X7 O).1;have tk:L.take (i+1)=L.take i++[n]:=by rw[Yz,O];rfl
   have nt:n∉L.take i:=λc=>by
    obtain⟨j,u⟩:=X2 c;have jl:=(X7 u).1;rw[Ye]at jl;rw[Y5 ⋯]at u;have:=cv Ln u O
    lia
   show jJ _ _ _ _ [!g,!so,!b,!d,-n] I;refine aB λD5 k5 _=>?_
   lk;unfold z6;refine aC λa3 hK=>?_
   lk;refine%[.inr (.inr (.inl (.inl %[_|sm _ _ a5 bl.choose_spec.1]))),#[0]|λp hp=>?_];obtain⟨a6,a,bn,b0,C,b3⟩:=bl.get sm a5 (λxs c=>by rw[G]at c;cases c) hp n;have sp:=af.upd (o:= .lst []) hp;have Y:=sp _ _ M;have al:=sm.trans (cD.of sp)
   generalize upd I p (.lst [])=H6 at bn C Y al ⊢
   generalize an:(ss.filter λt=>decide (t.2[0]? =some n))=us at C
   have b1:∀t∈us,t∈ss/\∃y z,t.2=[n,y,z]:=λt ht=>by
    rw[<-an]at ht;obtain⟨h1,h2⟩:=List.mem_filter.mp ht;obtain⟨x,y,z,e,_⟩:=(lm t h1).2;have h2:=Zn h2;rw[e]at h2;exact%[h1,y,z|by rw[e,show x=n from Z9 h2]]
   have ul:us.length<=62:=by rw[<-an];exact Y9 (Yb _ _) sl
   have yt:∀y,Ed (ss.map (·.2)) n y->y∈L.take i:=λy e=>bf i n O y e
   refine%[Sum.inr n,rfl,a6,bn|.inl %[a,b0,%[_|SqL.of C]|hK _ _ λF hF=>?_]];have dF:d≠F:=ar Y hF;refine aV (J:=Itl K a) (n:=us.length) (D:=F) (λj vs σ H7=>(∃o1,σ=[o1,!d])/\af H6 H7/\∃ns:ZK,H7 F=some (.lst (ns.map V.int))/\vs=ns.map V.int/\ns.length=j/\∀t∈us.take j,∀y,t.2[1]? =some y->B y+1∈ns)
    %[%[none|rfl],af.upd hF,[],aa,rfl,rfl|λt h=>(nomatch h)] (λj _ _ H7 u as=>%[_,V.ref us[j].1,SqL.of (as.2.1 _ _ C)|by simp[u]]) (λ_ _ H7 as=>%[_,SqL.of (as.2.1 _ _ C)|by simp]) ?_ ?_
   .rintro j vs σ H7 u ⟨⟨o1,rfl⟩,s7,ns,a0,rfl,bp,ab⟩ x H8 ⟨e2,l⟩;subst e2;have bt:=l _ (SqL.of (s7 _ _ C));rw[Zk,Z4 u]at bt;obtain rfl:x=V.ref us[j].1:=(Z9 bt).symm;have ka:us.take (j+1)=us.take j++[us[j]]:=by rw[Yz,Z4 u];rfl
    obtain⟨a1,y,z,et⟩:=b1 _ (Y7 u);have t7:=s7 _ _ (al _ _ (λc=>by have:=(bm _ a1).1;rw[c,G]at this;cases this) (bm _ a1).1);rw[et]at t7;have ye:y∈L.take i:=yt y %[z|Xb %[_,a1|et]];have g1:=bJ.k (k:=Sum.inr y) (s7 _ _ Y);rw[cY ye]at g1;lk;refine%[_,SqT.of t7,_,(show atI ([n,y,z].map V.str) ((1:Nat):Int)=some (.str y)from cF rfl),_,g1,_,rfl|?_];refine CK.mk u a0 (by rw[Z5];exact az ⋯) %[%[_|rfl],af.set s7 hF,ns++[B y+1],by rw[aa,Zc];rfl,by rw[Zc];rfl,by rw[Z8,bp];rfl|λt ht y' ey=>?_];rw[ka]at ht;rcases X8 ht with q|q
    .exact Ym _ (ab t q y' ey)
    .rw[X9 q,et]at ey;obtain rfl:y=y':=Z9 ey;exact Yn _ Zl
   .rintro vs σ H7 ⟨_,s7,ns,a0,rfl,bp,ab⟩;rw[Zm (Zh _)]at ab;refine%[F,ns,0,rfl,rfl,SqL.of a0|λm hm=>%[_,gE.k (k:=Sum.inr n) (s7 _ _ Y) (by unfold VD;rw[Z5,Ye];exact az ⋯)|k5 _ _ %[%[_|rfl],λc o h q=>(am h).trans (s7 _ _ (al c o h q)),λx=>if x=n then m else B x,?_|λx l y e=>?_]]]
    .have:=vW (g:=λx=>V.int (B x)) (h:=λx=>V.int (if x=n then m else B x)) nt λx l=>by
      show V.int (if x=n then m else B x)=V.int (B x);rw[if_neg (λc:x=n=>nt (c▸l))]
     rw[if_pos rfl]at this;rw[aa,this,tk]
    .dsimp only;rw[tk]at l;have yn:∀x,x∈L.take (i+1)->Ed (ss.map (·.2)) x y->y∈L.take i:=λx l e=>by
      obtain⟨j,u⟩:=X2 l;have jl:=(X7 u).1;rw[Ye]at jl;rw[Y5 ⋯]at u;have:=bf j x u y e;exact(List.take_subset_take_left L (show j<=i by lia)) this
     have yi:=yn x (by rw[tk];exact l) e;rw[if_neg (λc:y=n=>nt (c▸yi))];rcases X8 l with q|q
     .rw[if_neg (λc:x=n=>nt (c▸q))];exact N x q y e
     .obtain rfl:x=n:=X9 q;rw[if_pos rfl];obtain⟨z,hz⟩:=e;obtain⟨t,ht,et⟩:=Xa hz;have tu:t∈us:=by
       rw[<-an];exact List.mem_filter.mpr %[ht|Ze (by rw[et];rfl)]
      have:=ab t tu y (by rw[et];rfl);rcases hm with⟨rfl,_⟩|⟨_,h⟩
      .cases this
      .have:=h _ this
       lia
  .rintro σ I ⟨⟨o4,rfl⟩,sm,B,M,N⟩;rw[Z5,Zm (Zh _)]at M N;refine k4 _ _ ?_;lk;have keep:af H I:=λc o e=>sm c o (ar e a7) ((ag.trans aj) _ _ e)
   refine kk d I _ ms L B keep a7 lk hn M %[λx=>%[Ls x|ae x]|λx y e=>N x (ae x ?_) y e];exact(AD (hg.names lk hn) e).1
def CG(mg:ZC):Sp:=λvs H Q _=>∃(g:Addr) (qs:ZM) (c:ZB) (ts:ZG) (k:Addr) (a:List (Key×V)),vs=[.ref g]/\ik mg H g qs c ts/\(∀lk,bv (bh qs) (ts.map (·.2)) lk->∀x,¬ Rch lk x x)/\H k=some (.dK a)/\
 ∀d b lk e L f o,cD k H b->b k=some (.frz o (.dK a))->bv (bh qs) (ts.map (·.2)) lk->jn (bh qs) c e->b d=some (.dK (VD L λx=> .int (f x)))->C4 lk e L f->Q (.ref d) b
theorem AN(T:Txt K mg):↥8 "levels" ["ground"] (CG mg):=by
 refine(x5 T).freeze.imp λvs H Q E zqw=>?_;obtain⟨g,qs,h,ts,k,i,j,l,m,b,p⟩:=zqw;refine %[g,qs,h,ts,j,l,m|λd y lk r L s f t a u v lo=>%[[k]|λz=>p d _ lk r L s _ (λc o n e=>?_) (jZ Zl (f _ _ b)) a u ?_ lo]]
 .rw[iI λq=>n (X9 q)];exact f c o e
 .rw[iI λq=>ar b t (X9 q).symm];exact v
theorem mr(n:Str)(c:Nat):lnS n (sgn c)=dq n c:=by
 refine iU ?_;show(([].toArray) ++n.cps++ ([46].toArray) ++ ([c].toArray)).toList=(n.cps.toList++[46,c]).toArray.toList;simp
theorem rA:x∈lyr p↔∃c,Let p.2.2 c/\x=dq p.2.1 c:=by
 unfold lyr;rw[mem_map]
 constructor
 .rintro⟨z,b,rfl⟩;obtain⟨c,a,rfl⟩:=ic b;exact%[c,gj.mp a|mr _ _]
 .rintro⟨c,a,rfl⟩;exact%[sgn c,br.mpr (Xb %[c,gj.mpr a|rfl])|mr _ _]
theorem nS(h:lM d):x∈(iu d).map (·.1)↔∃c,Let d.rows c/\x=dq d.name c:=by
 unfold iu Drn.rows;rw[Yk,mem_map]
 constructor
 .rintro⟨a,i,rfl⟩;obtain⟨e,f,g⟩:=eO.mp i;exact%[sg a d.sh,(sT h.2.2.2.2.2).mpr %[a,e,f,g|rfl]|rfl]
 .rintro⟨c,g,rfl⟩;obtain⟨a,e,f,b,rfl⟩:=(sT h.2.2.2.2.2).mp g;exact%[a,eO.mpr %[e,f|b]|rfl]
theorem nT:∀{xs:List t},(xs.map m).Nodup->(∀p∈xs,(f p).Nodup)->(∀p∈xs,∀x∈f p,∃c,x=dq (m p) c)->(xs.flatMap f).Nodup
 |[],_,_,_=>Yu
 | p::xs,h,l,i=>by
   rw[Yj,nodup_cons]at h;rw[List.flatMap_cons,Ys];refine%[l p Zl,nT h.2 (λq g=>l q (Zj _ g)) (λq g=>i q (Zj _ g))|λa n b o e=>?_];obtain⟨q,g,j⟩:=mem_flatMap.mp o;obtain⟨c,r⟩:=i p Zl a n;obtain⟨d,s⟩:=i q (Zj _ g) b j;have:=(kO (r.symm.trans (e.trans s))).1;exact h.1 (Xb %[q,g|this.symm])
theorem x6(p:Addr×Str×ZB):(lyr p).Nodup:=by
 unfold lyr;rw[Yt,Yy];refine X3 (λ{x y} e f a b=>?_) (nodup_iff_pairwise_ne.mp (eT _));obtain⟨c,_,rfl⟩:=ic e;obtain⟨d,_,rfl⟩:=ic f;rw[mr,mr]at b;exact a (by rw[(kO b).2])
theorem vh(d:Drn):((iu d).map (·.1)).Nodup:=by
 unfold iu;rw[Yk,Yt,Yy];refine X3 (λ{x y} b c a e=>?_) (nodup_iff_pairwise_ne.mp (sU d.cols));obtain⟨f,g,_⟩:=eO.mp b;obtain⟨h,i,_⟩:=eO.mp c;exact a (EO f g h i (kO e).2)
theorem pQ.mono(h:pQ g xs)(s:∀x∈g,x∈i):pQ i xs:=by
 rcases h with⟨w,a,b,e,c,d,f,j⟩|⟨w,a,y,e,c,d,f⟩
 .exact .inl %[w,a,b,e,c,s _ d,s _ f|j]
 .exact .inr %[w,a,y,e,c,s _ d|f]
theorem vm{d:List _}{e:ZB}(h:e.Perm (d.flatMap lyr)){x:Str}:x∈e↔∃p∈d,∃c,Let p.2.2 c/\x=dq p.2.1 c:=by
 rw[h.mem_iff,mem_flatMap]
 constructor
 .rintro⟨p,a,b⟩;exact%[p,a|rA.mp b]
 .rintro⟨p,a,b⟩;exact%[p,a|rA.mpr b]
theorem x8(h:∀p∈ds,lM p.2):x∈(ds.flatMap λp=>(iu p.2).map (·.1))↔∃p∈dcs ds,∃c,Let p.2.2 c/\x=dq p.2.1 c:=by
 rw[mem_flatMap]
 constructor
 .rintro⟨p,a,b⟩;exact%[_,Xb %[p,a|rfl]|(nS (h p a)).mp b]
 .rintro⟨q,d,b⟩;obtain⟨p,a,rfl⟩:=Xa d;exact%[p,a|(nS (h p a)).mpr b]
theorem C5{ds:List (Addr×Drn)}(h:∀p∈ds,lM p.2)(a:(ds.map λp=>p.2.name).Nodup):(ds.flatMap λp=>(iu p.2).map (·.1)).Nodup:=
 nT a (λp _=>vh p.2) λp b x d=>by
  obtain⟨c,_,e⟩:=(nS (h p b)).mp d;exact%[c|e]
theorem ki{a:List _}(d:(a.map λp=>p.2.1).Nodup){b:ZB}(h:b.Perm (a.flatMap lyr)):b.Nodup:=by
 rw[h.nodup_iff];exact nT d (λp _=>x6 p) λp g x f=>by
  obtain⟨c,_,e⟩:=rA.mp f;exact%[c|e]
structure nU (H:Hp) (cs:List _) (qs:List _):Prop where
 ca:bT H cs
 nd:(cs.map λp=>p.2.1).Nodup
 p1:1<=cs.length
 p3:cs.length<=3
 few:∀p∈cs,xv p.2.2
 ly:(cs.flatMap lyr).length<=60
 sa:∀ls,ls.Perm (cs.flatMap lyr)->cX H ls qs
 q20:qs.length<=20
theorem nU.up(h:nU H a qs)(s:af H b):nU b a qs:=
 %[h.ca.up s,h.nd,h.p1,h.p3,h.few,h.ly,λc p=>(h.sa c p).up s|h.q20]
def rB(K:ZA):Sp:=λvs H Q _=>∃(a:Addr) (b:ZK),vs=[.ref a]/\SqL K H a (b.map V.int)/\Bo H/\b.length<=63/\∀c,Q (.bl true) c
theorem CH{R:Hp->Prop}(l:H g=none)(j:H d=none)(r:H a=some (.lst (cu i)))(s:H b=some (.lst (qs.map λq=>V.ref q.1)))(p:nU H i qs)
 (k:∀f c ts,af H f->ik mg f g qs c ts->c.Perm (i.flatMap lyr)->(∀k,k∈ts.map (·.2)↔k∈hZ i\/k∈ia qs qs.length)->R f):
 vT mg [.ref g,.ref a,.ref b] (upd (upd H d (.own g)) g (.ins (cr mg "Ground") d [])) (λv u=>v= .non/\R u) E0:=by
 have h:af H (upd (upd H d (.own g)) g (.ins (cr mg "Ground") d [])):=λb o e=>by
  rw[am (ar e l),am (ar e j)];exact e
 refine%[g,a,b,d,i,qs,rfl,aa,h _ _ r,h _ _ s,p.ca.up h,p.nd,p.p1,p.p3,p.few,p.ly,λc q=>(p.sa c q).up h,p.q20|λf c ts y z A B C tk E G I pl J=>%[rfl|k f c ts (λb o e=>B b o (ar e l) (h _ _ e)) %[%[y,z,A|C],ki p.nd pl,J,pl.length_eq▸p.ly,I,λk m=>?_,λk m=>?_|E] pl G]]<;> obtain⟨t,n,rfl⟩:=Xa m
 .exact(tk t n).1
 .exact(tk t n).2
theorem CI{a:Str->Int}(h:∀x y,Ed lk x y->a y<a x)(r:Rch lk x y):a y<a x:=by
 induction r with
 | one e=>exact h _ _ e
 | more _ e b=>exact Int.lt_trans (h _ _ e) b
theorem gC.anti(f:c.Nodup)(h:gC ks c L m c):∃A:ZB,A.Nodup/\(∀x∈A,x∈c)/\(∀a∈A,∀b∈A,¬ Rch ks a b)/\(c.filter λx=>decide (x∉L)).length<=A.length:=by
 obtain⟨S,T,d,all⟩:=h.sh
 let lf:=λx=>open Classical in if T x then x else m x
 refine%[_,f.filter _,λx j=>(List.mem_filter.mp j).1,λa g b l r=>?_|ni f h.mat.nd h.ln (lf:=L.map lf) (Z5 _)];have n:=Zn (List.mem_filter.mp g).2;have nb:=Zn (List.mem_filter.mp l).2;rcases Classical.em _ with s|s
 .have i:=d.nb a s b r;exact nb (Xb %[b,(d.mt b i).1|if_pos i])
 .obtain⟨x,o,e⟩:=(all a (List.mem_filter.mp g).1).resolve_right s;exact n (Xb %[x,o|(if_neg λt=>s (e▸(d.mt x t).2)).trans e])
theorem Rows.ge{xs A:ZB}(h:Rows lk xs rs)(u:A.Nodup)(v:∀x∈A,x∈xs)(anti:∀a∈A,∀b∈A,¬ Rch lk a b):A.length<=rs.length:=by
 have g:∀a∈A,∃hi:rs.findIdx (λt=>decide (a∈t.2))<rs.length,a∈(rs[rs.findIdx (λt=>decide (a∈t.2))]'hi).2:=λa d=>by
  obtain⟨t,y,z⟩:=h.all a (v a d);have hi:=List.findIdx_lt_length_of_exists (xs:=rs) (p:=λt=>decide (a∈t.2)) %[t,y|Ze z];exact%[hi|Zn (List.findIdx_getElem (w:=hi))]
 have l:∀a∈A,∀b∈A,rs.findIdx _=rs.findIdx (λt=>decide (b∈t.2))->a=b:=λa d b f e=>by
  obtain⟨B,C⟩:=g a d;obtain⟨E,r⟩:=g b f;simp only[<-e]at r;have m:=h.ch _ (Y7 B);obtain⟨i,hi,o⟩:=getElem_of_mem C;obtain⟨j,s,q⟩:=getElem_of_mem r;rw[List.pairwise_iff_getElem]at m;rcases Nat.lt_trichotomy i j with c|c|c
  .exact(anti a d b f (by rw[<-o,<-q];exact m i j hi s c)).elim
  .subst c;rw[<-o,<-q]
  .exact(anti b f a d (by rw[<-o,<-q];exact m j i s hi c)).elim
 have:=STab.nodup_sub (by
  rw[Yt,Yy];exact X3 (λ{a b} d f n e=>n (l a d b f e)) (nodup_iff_pairwise_ne.mp u)) λi hi=>by
  obtain⟨a,d,rfl⟩:=Xa hi;exact mem_range.mpr (g a d).1
 rwa[Z5,Yc]at this
theorem Fe{fd:FuncData}(F:Fun K "law" "law" jm f fd)(T:Txt K mg):eC P w K mg base CX0 12 f fd ["_law_script"] (rB K):=by
 refine F.ok d8 (by fin2) (λdr A outer s H vs Q E u h=>?_)
 .obtain⟨a,ns,rfl,hs,ho,B,kk⟩:=h;refine%[_,(QSs.h (ah (BD rfl rfl rfl (aG (ri T) u rfl #[aG (xA T) u rfl #[↑0,av]]) (fP (K:=K) rfl rfl rfl (gsE rfl (aJ 1 d8.nd rfl) (gsE rfl (aJ 2 d8.nd rfl) (gsE rfl (aJ 3 d8.nd rfl) cL)))))
   (ah (aI 4 d8.nd rfl (FQ (Ao T) T.bA u rfl #[↥↑1,↥↑2]))
   (ah (ifS (bA qr rfl (aG (E6 T) u rfl #[↑4]) uh)
   (aq (aO eBl))
   bw)
   (ah (aI 5 d8.nd rfl (aG (oJ T) u rfl #[↑4]))
   (ah (aI 6 d8.nd rfl ↑(aG (AG T) u rfl #[↑4]))
   (ah (aI 7 d8.nd rfl ↑(aG (oH T) u rfl #[↑4]))
   (ah (cq PassesOwn.never rfl rfl (mI rfl T.aj rfl #[av]) (aJ 8 d8.nd rfl)
   (ah (aI 9 d8.nd rfl (aG (dN T) u rfl #[↑0,opE bR av ↑8]))
    (ah (ifS (bA qq rfl (cbO (bZ (K:=K) rfl) T.a8 PySem.boot_len rfl #[aG (tJ T) u rfl #[aG (tH T) u rfl #[cbO (pJ rfl) T.a7 boot_sorted rfl #[↑5],↑9],↑5]]) ↑6)
    (aq (aO eBl))
    bw)
    (aq (ifS (bA uo rfl (cbO (bZ (K:=K) rfl) T.a8 PySem.boot_len rfl #[aG (oK T) u rfl #[cbO (pJ rfl) T.a7 boot_sorted rfl #[↑5],↑5,↑9]]) ↑7)
    (aq (aO eBl))
    bw)))))
   (ah (kC 10 d8.nd rfl Z1 Z0 rfl (aG (AN T) u rfl #[↑4]))
   (ah (cq PassesOwn.never rfl rfl (pM ↑5) (mL 11 d8.nd rfl Z1 Z0)
   (aq (ifS (bA qq rfl (cbO (bZ (K:=K) rfl) T.a8 PySem.boot_len rfl #[(cZ (ay.of (show bq (ak jm) ["_law_script","_law_cuts","_law_sayings","_law_layers","_law_ground_here","_law_known","_law_wide","_law_many","_law_k","_law_number","_law_at","_law_name"] _ ["_law_other","_law_at","_law_name"] [(1,10),(2,11)]=true from by decide +kernel)) rfl rfl (pM ↑5) (λ_ _ _=>(aJ 0 (show(["_law_other","_law_at","_law_name"]:ZB).Nodup from by decide +kernel) rfl)) (λ_ _ _=>(iE (bA dQ rfl (cb u (λ_ _=>rfl) (bP 1 rfl) ↑0) (cb u (λ_ _=>rfl) (bP 1 rfl) (bP 2 rfl))))) (λ_ _ _=>↑0))]) (cbO (CP rfl) T.a0 boot_min rfl #[↑6,↑7]))
    (aq (aO eBl))
    bw)))
   (aq (aO eBl))))))))))))|?_]
  show aY _ _ _ [!a,none,none,none,none,none,none,none,none,none,none,none] H;refine ao λD1 k1 _=>?_
  lk;refine%[a,ns,43,rfl,hs,⋯,by decide,by decide|λl0 H0 xs s0 f0 h0 m hb=>?_];lk;refine%[l0,xs,rfl,SqL.of h0,λz sm=>SqL.of (sm _ _ h0),m,hb|λt l1 l2 l3 H1 ds qs s1 ft f1 f2 f3 dt dy dF ht h1 h2 h3 d1 d3 bn co cp bp hq dK dT=>?_];lk;refine%[_,SqT.of ht,rfl,_,_,rfl,_,_,rfl,_,_,rfl,rfl|k1 _ _ (ao λD3 k3 _=>?_)];have nm:((dcs ds).map λp=>p.2.1).Nodup:=by
   unfold dcs;rw[Yk];exact co
  have dl:(dcs ds).length=ds.length:=by unfold dcs;rw[Z5]
  have sub:∀N:ZB,N.Perm ((dcs ds).flatMap lyr)->∀x,x∈N↔x∈(ds.flatMap λp=>(iu p.2).map (·.1)):=λN pl x=>by rw[vm pl,x8 bn]
  have cs:∀p∈dcs ds,xv p.2.2:=λp hp=>by
   unfold dcs at hp;obtain⟨d,hd,rfl⟩:=Xa hp;exact Ae (bn d hd).2.2.2.2.2
  have ly:((dcs ds).flatMap lyr).length<=60:=by
   have:=STab.nodup_sub (ki nm (.refl _)) λx m=>(sub _ (.refl _) x).mp m
   lia
  have P1:nU H1 (dcs ds) qs:=%[cp,nm,⋯,⋯,cs,ly,λN p q bt=>%[(bp q bt).1|(bp q bt).2.mono λx=>(sub N p x).mpr]|⋯]
  lk;refine%[_,.inl (SqL.of h1)|λa1 bU=>%[_,.inl (SqL.of (af.upd bU _ _ h2))|λb1 an=>?_]];have t1:=af.upd (o:= .lst (cu (dcs ds))) bU;have as:upd H1 a1 (.lst (cu (dcs ds))) a1=some (.lst (cu (dcs ds))):=aa
  generalize upd H1 a1 (.lst (cu (dcs ds)))=H2 at t1 as an ⊢
  have t2:=af.upd (o:= .lst (qs.map λq=>V.ref q.1)) an;have a0:upd H2 b1 (.lst (qs.map λq=>V.ref q.1)) b1=some (.lst (qs.map λq=>V.ref q.1)):=aa;have a2:=t2 _ _ as
  generalize upd H2 b1 (.lst (qs.map λq=>V.ref q.1))=H3 at t2 a0 a2 ⊢
  have a3:=t1.trans t2;refine λg dx fg ct dV=>CH fg ct a2 a0 (P1.up a3) λH4 N ts t4 gr pl tm=>k3 _ _ (ao λD4 k4 r4=>?_)
  have b0:=a3.trans t4;have b2:=s0.trans (s1.trans b0);have cx:=kh hs b2;clear a2 a0 an t1 t2 a3 as P1 b0 b2 t4 h1 h2 h3 ht hs h0
  generalize some (V.ref l1)=v1,some (V.ref l2)=v2,some (V.ref l3)=v3
  lk;refine%[g,qs,N,ts,rfl,gr|λH5 lk t5 O=>%[λnr=>?_|λr x rx=>by dsimp only;rw[if_pos ∅];exact r4 _ _ (kk H5)]];dsimp only;rw[if_neg ∅];have a4:∀ag,bv (bh qs) (ts.map (·.2)) ag->∀x,¬ Rch ag x x:=λag h'=>by rw[h'.one O];exact nr
  have gr:=gr.up t5;have hs:=kh cx t5;refine k4 _ _ (ao λD5 k5 _=>?_);lk;refine%[g,qs,N,ts,rfl,gr|λk H6 ag nb dd s6 b3 B hk=>k5 _ _ (ao λD6 k6 _=>?_)];obtain rfl:=O.one b3;lk;refine%[g,qs,N,ts,rfl,gr.up s6,a4|λl H7 d0 cy L1 m1 U s7 cM n1 p1 c0 e1=>%[_,.inl %[_,SqL.of c0|rfl]|k6 _ _ (ao λD7 k7 _=>?_)]];obtain rfl:=O.one cM;have a5:=s6.trans s7;lk;refine%[g,qs,N,ts,rfl,gr.up a5,a4|λl' H8 d2 c1 L2 m2 C s8 c2 n2 p2 c3 e2=>%[_,.inl %[_,SqL.of c3|rfl]|k7 _ _ (ao λD8 k8 r8=>aw λaj hK=>?_)]];obtain rfl:=O.one c2;have c4:=s7.trans s8;have c5:=gr.up (a5.trans s8);have a6:=hk.up c4;have c7:=kh hs (a5.trans s8);have b4:∀x,x∈cy↔x∈nb:=λx=>(n1.mem x).trans (B.mem x).symm
  have b5:∀x,x∈c1↔x∈nb:=λx=>(n2.mem x).trans (B.mem x).symm
  have p1:=p1.of b4;have p2:=p2.of b5;rw[tF n1.nd B.nd b4]at e1;rw[tF n2.nd B.nd b5]at e2;have a7:nb.length<=60:=by
   have:=STab.nodup_sub B.nd λx m=>((B.mem x).mp m).1
   have:=gr.ll
   lia
  have wide:∀A:ZB,A.Nodup->(∀x∈A,x∈nb)->(∀a∈A,∀b∈A,¬ Rch lk a b)->A.length<=U.length/\A.length<=C.length:=λA An As anti=>by
   rw[e1,e2];exact%[md (E:=Rch lk) (λa b c h k=>h.trans k) B.nd p1.mat p1.mn An As anti|md (E:=Rch lk) (λa b c h k=>h.trans k) B.nd p2.mat p2.mn An As anti]
  have b6:∀xs rs,Rows lk xs rs->(∀x∈nb,x∈xs)->C.length<=rs.length:=λxs rs h m=>by
   obtain⟨A,An,As,anti,le⟩:=p2.anti B.nd;rw[e2];exact Y9 le (h.ge An (λx q=>m x (As x q)) anti)
  lk;refine%[by decide,by decide|hK _ _ (eL (n:=3) (λi M z=>(∃o8 o9,M=[!a,v1,v2,v3,!g,!k,some (.int U.length),some (.int C.length),o8,o9,none,none])/\af H8 z) %[%[_,_|rfl]|λ_ _ e=>e] ?_ ?_)]
  .rintro i M z hi ⟨⟨o8,o9,rfl⟩,sm⟩;show aY _ _ _ [!a,v1,v2,v3,!g,!k,some (.int U.length),some (.int C.length),some (.int (0+(i:Int))),o9,none,none] z;refine ao λD9 k9 _=>?_
   lk;refine%[a,ns,_,rfl,kh c7 sm,⋯|k9 _ _ (ao λda a8 _=>?_)]
   generalize ns.getD _ 0=b7
   lk;have k':=a6.up sm;have vk:(VD nb λn=>V.ref (dd n)).map (·.1)=nb.map Sum.inr:=by
    unfold VD;rw[Yk];rfl
   refine%[_,k'.at_,nb,vk,⋯|λso ss dc pm _=>?_];have q1:=af.upd (o:= .lst (ss.map V.str)) dc;have b9:upd z so (.lst (ss.map V.str)) so=some (.lst (ss.map V.str)):=aa
   generalize upd z so (.lst (ss.map V.str))=G at q1 b9 ⊢
   refine%[so,ss,b7,rfl,b9,by rw[pm.length_eq];exact a7|λr v ys q2 u py=>?_];have ca:=q1.trans q2;have pb:=py.trans pm;refine%[r,k,ys,nb,lk,dd,rfl,u,pb.nodup_iff.mpr B.nd,by rw[pb.length_eq];exact a7,λx m=>pb.mem_iff.mp m,k'.up ca,nr|λr2 a9 A q3 hA An As anti=>%[_,.inl %[_,SqL.of hA|rfl]|?_]];have w1:=(wide A An (λx m=>pb.mem_iff.mp (As x m)) anti).1;rw[if_neg (by rw[Z5,decide_eq_true_iff];lia)];have cd:=sm.trans (ca.trans q3);refine a8 _ _ (aB λde bb _=>?_);have k3:=a6.up cd;lk;refine%[_,k3.at_,nb,vk,⋯|λai I ch bf _=>?_];have q4:=af.upd (o:= .lst (I.map V.str)) ch;have al:upd a9 ai (.lst (I.map V.str)) ai=some (.lst (I.map V.str)):=aa
   generalize upd a9 ai (.lst (I.map V.str))=d4 at q4 al ⊢
   refine%[ai,k,b7,I,nb,lk,dd,rfl,al,by rw[bf.length_eq];exact a7,λx m=>bf.mem_iff.mp m,k3.up q4|λr3 d7 rs q5 dk hR=>%[_,.inl %[_,SqL.of dk|rfl]|?_]];have w2:=b6 I rs hR λx m=>bf.mem_iff.mpr m
   rw[if_neg (by rw[Z5,decide_eq_true_iff];lia)];exact bb _ _ %[%[_,_|rfl]|cd.trans (q4.trans q5)]
  .rintro M z ⟨⟨o8,o9,rfl⟩,sm⟩;refine k8 _ _ (ao λD9 k9 _=>?_);lk;have k':=a6.up sm;refine%[g,qs,N,ts,k,_,rfl,c5.up sm,a4,k'.at_|λd H9 ea eb L Y o q1 ab k3 n3 hd lo=>k9 _ _ (ao λda a8 ec=>aw λaj hK=>?_)];obtain rfl:=O.one k3;have mem:∀x,x∈L↔x∈nb:=λx=>(lo.mem x).trans ((n3.mem x).trans (B.mem x).symm)
   have vl:(VD nb λn=>V.ref (dd n)).length=nb.length:=Z5 _;unfold lJ;lk;refine%[_,_,ab|hK _ _ (ng (λi M z=>(∃bl,M=[!a,v1,v2,v3,!g,!k,some (.int U.length),some (.int C.length),o8,o9,!d,bl])/\af H9 z) %[%[_|rfl]|λ_ _ e=>e] (λi M z _ h=>h.2 _ _ ab) ?_ ?_)]
   .rintro i kx vx M G hv ⟨⟨bl,rfl⟩,q2⟩;unfold VD at hv;rw[Zk]at hv;obtain⟨n,dn,er⟩:=map_eq_some_iff.mp hv;obtain rfl:Sum.inr n=kx:=congrArg (·.1) er;have dp:=Z7 dn;show jG _ _ _ _ [!a,v1,v2,v3,!g,!k,some (.int U.length),some (.int C.length),o8,o9,!d,-n] G;refine aB λde bb _=>?_
    lk;refine aC λaj hK=>?_
    unfold lJ;lk;refine%[_,_,q2 _ _ ab|hK _ _ λF hF=>?_];have cl:∀x∈nb,∀z,af G z->bJ z d (.str x) (some (.int (Y x))):=λx m z q=>by
     have g:=bJ.k (k:=Sum.inr x) (q _ _ (q2 _ _ hd));rwa[cY ((mem x).mpr m)]at g
    refine aV (J:=Itk k o (VD nb λn=>V.ref (dd n))) (n:=nb.length) (D:=F) (λj vs M v=>(∃o1,M=[o1,!d,-n])/\af G v/\v F=some (.lst vs)/\vs=((nb.take j).filter λx=>decide (Y x=Y n)).map V.str)
     %[%[none|rfl],af.upd hF,aa|rfl] (λj _ _ v hj bm=>%[bm.2.1 _ _ (q2 _ _ ab)|by rw[vl];exact hj]) (λ_ _ v bm=>%[bm.2.1 _ _ (q2 _ _ ab)|by rw[vl];exact Zh _]) ?_ ?_
    .rintro j vs M v hj ⟨⟨o1,rfl⟩,q3,ae,rfl⟩ x a9 ⟨e2,kx,vx,m,rfl⟩;subst e2;unfold VD at m;rw[Zk,Z4 hj]at m;obtain rfl:Sum.inr nb[j]=kx:=congrArg (·.1) (Z9 m);have ka:nb.take (j+1)=nb.take j++[nb[j]]:=by rw[Yz,Z4 hj];rfl
     lk;refine%[_,cl _ (Y7 hj) _ q3,_,cl n dp _ q3,rfl|bi (λc=>?_) λc=>?_]
     .have c:Y nb[j]=Y n:=V.int.inj (Zn c);refine CK.mk hj ae (by rw[Z5];have:=Yb (λx=>decide (Y x=Y n)) (nb.take j);rw[Ye]at this;exact az ⋯) %[%[_|rfl],af.set q3 hF,aa|?_];rw[ka,Zz,Zc,Y1 (by simpa using c)];rfl
     .have c:Y nb[j]≠Y n:=λh=>c (Ze (congrArg V.int h))
      refine CN.mk hj %[%[_|rfl],q3,ae|?_];rw[ka,Zz,Zc,Y0 (by simpa using c)];simp
    .rintro vs M v ⟨_,q3,ae,rfl⟩;rw[Zm (Zh _)]at ae;refine%[_,.inl %[_,SqL.of ae|rfl]|?_];have w1:=wide (nb.filter λx=>decide (Y x=Y n)) (B.nd.filter _) (λx m=>(List.mem_filter.mp m).1) λx m y hy r=>by
      have h1:=Zn (List.mem_filter.mp m).2;have h2:=Zn (List.mem_filter.mp hy).2;have:=CI lo.lt r
      lia
     rw[if_neg (by
      rw[Z5,decide_eq_true_iff]
      split<;> lia)]
     exact bb _ _ %[%[_|rfl]|q2.trans q3]
   .rintro M G ⟨⟨bl,rfl⟩,q2⟩;refine a8 _ _ ?_;lk;exact kk G
end
def DI(K:ZA)(x:Str)(st:Stmt):Prop:=∃(f:Addr) (b:Value) (c d:ZH) (e:ZJ) (kV g h a ct:Value),nsIn K mainGlobals x=some (some (.ref f))/\K.lookup f=some %[b,c,.func (fnOf x x (cc st) (bB st) (ak st) .none kV g h d a ct)|e]/\codeIn K a x=true/\keepIn K (.ref f)=true
theorem di_mk{K:ZA}{x:Str}{st:Stmt}{f:Addr}{d:Value}{e g:ZH}{h:ZJ}{kV i j b ct:Value}(a:nsIn K mainGlobals x=some (some (.ref f)))(l:K.lookup f=some %[d,e,.func (fnOf x x (cc st) (bB st) (ak st) .none kV i j g b ct)|h])(c:codeIn K b x=true)(k:keepIn K (.ref f)=true):DI K x st:=%[f,d,e,g,h,kV,i,j,b,ct,a,l,c|k]
theorem aA{K:ZA}{h:Heap}{mg:ZC}{x:Str}{st:Stmt}{ps:ZB}(X:K.In h)(G:h.Ns mainGlobals mg)(d:DI K x st)(b:∀(kV e i:Value) (j:ZH) (g ct:Value) (us:ZF),us.length=ps.length->bindArgs (fnOf x x (cc st) (bB st) (ak st) .none kV e i j g ct) %[us|[]]=pure (ps.zip us)):aF K mg x st ps:=by
 obtain⟨f,m,n,j,o,kV,p,i,q,ct,a,l,c,k⟩:=d;exact El X G a l c k b
theorem all_mk{l:PySem.W.OpenLaw}{w:World}{K:ZA}{h:Heap}{mg:ZC}{fa av:Addr}(X:K.In h)(G:h.Ns mainGlobals mg)(hfa:mg "law"=some (.ref fa))
 {d7 di:ZH} {d8:ZJ} {d9 dj dk dl aw dm:Value}
 (ea:DI K "names_by_layer" dB)
 (eb:DI K "join_deposits" dW)
 (ec:DI K "least_pointed_to" cV)
 (ed:DI K "deposits" jw)
 (ee:DI K "deposit_names" cT)
 (ef:DI K "links" mf)
 (eg:DI K "links_by_later" dD)
 (eh:DI K "links_by_earlier" cW)
 (ei:DI K "grouped" kQ)
 (ej:DI K "laid_in_turn" df)
 (ek:DI K "shortest_way" e7)
 (el:DI K "next_edge" iL)
 (em:DI K "way_to" nq)
 (en:DI K "all_beneath" fS)
 (eo:DI K "most_pairs" eF)
 (ep:DI K "ask_around" gW)
 (eq:DI K "pass_on" kR)
 (er:DI K "keys_by_value" dX)
 (es:DI K "one_of_each_pair" bH)
 (et:DI K "ring" uR)
 (eu:DI K "shortest_ring" dY)
 (ev:DI K "never_laid" gX)
 (ew:DI K "untorn_links" e9)
 (ex:DI K "earlier_ones" fh)
 (ey:DI K "fewest_rows" dJ)
 (ez:DI K "row_from" jy)
 (e0:DI K "widest" j6)
 (e1:DI K "levels" j7)
 (e2:DI K "is_name" i4)
 (e3:DI K "rows_of" kT)
 (e4:DI K "is_row" j8)
 (e5:DI K "lies_beneath" dg)
 (e6:DI K "letters_in" eG)
 (e8:DI K "letters" kU)
 (fb:DI K "meetings" jz)
 (fc:DI K "meetings_between" cf)
 (fe:DI K "check_cuts" gZ)
 (ff:DI K "is_named_cut" fj)
 (fg:DI K "is_cut" nu)
 (fi:DI K "check_sayings" d5)
 (fk:DI K "is_saying" iM)
 (fl:DI K "is_text_among" d6)
 (fm:DI K "is_year" kX)
 (fp:DI K "layer_name" hC)
 (fq:DI K "layers_of" fJ)
 (fr:DI K "ties_of_cuts" fo)
 (fs:DI K "ties_of_sayings" dh)
 (ft:DI K "_law_cell_at" fT)
 (fu:DI K "_law_row" kY)
 (fv:DI K "_law_column" hJ)
 (fw:DI K "_law_sign" jA)
 (fx:DI K "_law_cut" dG)
 (fy:DI K "_law_saying" hV)
 (fz:DI K "_law_ground" eJ)
 (f0:DI K "_law_steps" iN)
 (f1:DI K "_law_earlier" dM)
 (f2:DI K "_law_drawn" iO)
 (f3:DI K "_law_apart" fK)
 (f4:DI K "_law_rows_of" cP)
 (ax:nsIn K mainGlobals "law"=some (some (.ref av))) (ay:K.lookup av=some %[d9,d7,.func (fnOf "law" "law" (cc jm) (bB jm) (ak jm) .none dj dk dl di aw dm)|d8]) (az:codeIn K aw "law"=true) (a0:keepIn K (.ref av)=true)
 {dn dp dq dr ds dt du dv dw dx dy:Value}
 (ba:nsIn K mainGlobals "min"=some none)
 (bb:nsIn K mainGlobals "max"=some none)
 (bc:nsIn K mainGlobals "list"=some none)
 (bd:nsIn K mainGlobals "set"=some none)
 (be:nsIn K mainGlobals "sorted"=some none)
 (bf:nsIn K mainGlobals "len"=some none)
 (bg:nsIn K mainGlobals "reversed"=some none)
 (bh:nsIn K mainGlobals "all"=some none)
 (bi:nsIn K mainGlobals "str"=some none)
 (bj:nsIn K mainGlobals "isinstance"=some none)
 (bk:nsIn K mainGlobals "enumerate"=some none)
 (bl:nsIn K mainGlobals "zip"=some none)
 (bm:nsIn K mainGlobals "tuple"=some none)
 (bn:nsIn K mainGlobals "int"=some none)
 (bo:nsIn K mainGlobals "bool"=some none)
 (bp:nsIn K mainGlobals "range"=some none)
 (bq:nsIn K mainGlobals "abs"=some none)
 (br:nsIn K mainGlobals "LATER"=some (some dn)) (bs:aN (.int 0) dn)
 (bt:nsIn K mainGlobals "EARLIER"=some (some dp)) (bu:aN (.int 1) dp)
 (bv:nsIn K mainGlobals "LONGEST_NAME"=some (some dq)) (bw:aN (.int 8) dq)
 (bx:nsIn K mainGlobals "LETTERS"=some (some dr)) (bz:aN (.str "abcdefghijklmnopqrstuvwxyz") dr)
 (b0:nsIn K mainGlobals "MOST_ROWS"=some (some ds)) (b1:aN (.int 40) ds)
 (b2:nsIn K mainGlobals "MOST_SIGNS"=some (some dt)) (b3:aN (.int 40) dt)
 (b4:nsIn K mainGlobals "AIR"=some (some du)) (b5:aN (.str ".") du)
 (b6:nsIn K mainGlobals "MOST_CUTS"=some (some dv)) (b7:aN (.int 8) dv)
 (b8:nsIn K mainGlobals "MOST_SAYINGS"=some (some dw)) (b9:aN (.int 60) dw)
 (ca:nsIn K mainGlobals "FIRST_YEAR"=some (some dx)) (cb:aN (.int (-9999)) dx)
 (cd:nsIn K mainGlobals "LAST_YEAR"=some (some dy)) (ce:aN (.int 9999) dy)
 {aa:Addr}
 (ai:nsIn K mainGlobals "Ground"=some (some (.ref aa)))
 (cg:plainGet K aa Str.empty=true)
 (ch:hasDictIn K aa=true)
 (ci:plainOver K aa=true)
 (cj:findIn K (.ref aa) "__setattr__"=some (some (.builtin "object.__setattr__")))
 (cl:findIn K (.ref aa) "kept_cuts"=some none)
 (cm:findIn K (.ref aa) "kept_sayings"=some none)
 (cn:findIn K (.ref aa) "kept_layers"=some none)
 (co:findIn K (.ref aa) "kept_ties"=some none)
 {ab:Addr} {f5 f6:ZH} {f7:ZJ} {f8 f9 ga gb dz gc:Value}
 (cp:findIn K (.ref aa) "__init__"=some (some (.ref ab)))
 (aj:K.lookup ab=some %[f8,f5,.func (fnOf "__init__" "Ground.__init__" (cc bO) (bB bO) (ak bO) .none f9 ga gb f6 dz gc)|f7])
 (al:codeIn K dz "Ground.__init__"=true)
 (am:keepIn K (.ref ab)=true)
 (cq:isFn K (.ref ab)=true)
 (cr:makesIn K aa=true)
 (cs:keepIn K (.ref aa)=true)
 {ac:Addr} {gd ge:ZH} {gf:ZJ} {gg gh gi gj d0 gk:Value}
 (ct:findIn K (.ref aa) "sayings"=some (some (.ref ac)))
 (an:K.lookup ac=some %[gg,gd,.func (fnOf "sayings" "Ground.sayings" (cc bS) (bB bS) (ak bS) .none gh gi gj ge d0 gk)|gf])
 (ao:codeIn K d0 "Ground.sayings"=true)
 (ad:keepIn K (.ref ac)=true)
 (cu:isFn K (.ref ac)=true)
 {ae:Addr} {gl gm:ZH} {gn:ZJ} {go gp gq gr d1 gs:Value}
 (cv:findIn K (.ref aa) "layers"=some (some (.ref ae)))
 (ap:K.lookup ae=some %[go,gl,.func (fnOf "layers" "Ground.layers" (cc ck) (bB ck) (ak ck) .none gp gq gr gm d1 gs)|gn])
 (aq:codeIn K d1 "Ground.layers"=true)
 (af:keepIn K (.ref ae)=true)
 (cw:isFn K (.ref ae)=true)
 {ag:Addr} {gt gu:ZH} {gv:ZJ} {gw gx gy gz d2 g0:Value}
 (cx:findIn K (.ref aa) "ties"=some (some (.ref ag)))
 (ar:K.lookup ag=some %[gw,gt,.func (fnOf "ties" "Ground.ties" (cc cQ) (bB cQ) (ak cQ) .none gx gy gz gu d2 g0)|gv])
 (au:codeIn K d2 "Ground.ties"=true)
 (ah:keepIn K (.ref ag)=true)
 (cy:isFn K (.ref ag)=true)
 {d3:Addr} {cz:Obj} {c0:ZI} {g1:Nat}
 (c1:nsIn K mainGlobals "YEAR_WORDS"=some (some (.ref d3)))
 (c2:K.lookup d3=some cz)
 (c3:cz.cls= .type "tuple")
 (c4:cz.data= .seq c0 g1)
 (c5:c0.size<=sizeLine)
 (c6:aH [.str "since",.str "by"] c0.toList)
 {d4:Addr} {c7:Obj} {c8:ZI} {g2:Nat}
 (c9:nsIn K mainGlobals "LAYER_WORDS"=some (some (.ref d4)))
 (da:K.lookup d4=some c7)
 (db:c7.cls= .type "tuple")
 (dc:c7.data= .seq c8 g2)
 (dd:c8.size<=sizeLine)
 (de:aH [.str "later",.str "same"] c8.toList)
 :∃fd:FuncData,(∀(s:Shared) (v:Value),BindsTo s fd %[[v]|[]] [("_law_script",v)])/\∀base:Heap,K.In base->base.Ns mainGlobals mg->eC l.prog w K mg base CX0 12 fa fd ["_law_script"] (rB K):=by
 have e:=hfa.symm.trans (mg_of X G ax);cases e;have g3:=BH (mg_of X G ai);subst g3;have T:Txt K mg:=%[mg_none_of X G ba,
  mg_none_of X G bb,
  mg_none_of X G bc,
  mg_none_of X G bd,
  mg_none_of X G be,
  mg_none_of X G bf,
  mg_none_of X G bg,
  mg_none_of X G bh,
  mg_none_of X G bi,
  mg_none_of X G bj,
  mg_none_of X G bk,
  mg_none_of X G bl,
  mg_none_of X G bm,
  mg_none_of X G bn,
  mg_none_of X G bo,
  mg_none_of X G bp,
  mg_none_of X G bq,
  iD X G br bs,
  iD X G bt bu,
  iD X G bv bw,
  iD X G bx bz,
  iD X G b0 b1,
  iD X G b2 b3,
  iD X G b4 b5,
  iD X G b6 b7,
  iD X G b8 b9,
  iD X G ca cb,
  iD X G cd ce,
  aA X G ea (by room),
  aA X G eb (by room),
  aA X G ec (by room),
  aA X G ed (by room),
  aA X G ee (by room),
  aA X G ef (by room),
  aA X G eg (by room),
  aA X G eh (by room),
  aA X G ei (by room),
  aA X G ej (by room),
  aA X G ek (by room),
  aA X G el (by room),
  aA X G em (by room),
  aA X G en (by room),
  aA X G eo (by room),
  aA X G ep (by room),
  aA X G eq (by room),
  aA X G er (by room),
  aA X G es (by room),
  aA X G et (by room),
  aA X G eu (by room),
  aA X G ev (by room),
  aA X G ew (by room),
  aA X G ex (by room),
  aA X G ey (by room),
  aA X G ez (by room),
  aA X G e0 (by room),
  aA X G e1 (by room),
  aA X G e2 (by room),
  aA X G e3 (by room),
  aA X G e4 (by room),
  aA X G e5 (by room),
  aA X G e6 (by room),
  aA X G e8 (by room),
  aA X G fb (by room),
  aA X G fc (by room),
  aA X G fe (by room),
  aA X G ff (by room),
  aA X G fg (by room),
  aA X G fi (by room),
  aA X G fk (by room),
  aA X G fl (by room),
  aA X G fm (by room),
  aA X G fp (by room),
  aA X G fq (by room),
  aA X G fr (by room),
  aA X G fs (by room),
  aA X G ft (by room),
  aA X G fu (by room),
  aA X G fv (by room),
  aA X G fw (by room),
  aA X G fx (by room),
  aA X G fy (by room),
  aA X G fz (by room),
  aA X G f0 (by room),
  aA X G f1 (by room),
  aA X G f2 (by room),
  aA X G f3 (by room),
  aA X G f4 (by room),
  %[mg_of X G ai,cg,ch,ci|cj],
  cl,
  cm,
  cn,
  co,
  %[ab,_,%[cr,cp,cq|cs],eS aj al am|(eS aj al am).binds (by room)],
  %[ac,_,%[ct,cu|ad],eS an ao ad|(eS an ao ad).binds (by room)],
  %[ae,_,%[cv,cw|af],eS ap aq af|(eS ap aq af).binds (by room)],
  %[ag,_,%[cx,cy|ah],eS ar au ah|(eS ar au ah).binds (by room)],
  zO X G c1 c2 c3 c4 c5 c6|
  zO X G c9 da db dc dd de]
 exact%[fnOf "law" "law" (cc jm) (bB jm) (ak jm) .none dj dk dl di aw dm,λs v=> .of_eq rfl|λbase _ _=>Fe (eS (st:=jm) ay az a0) T]
theorem walk{l:PySem.W.OpenLaw}{q:Program}{b:ZB}{j:(Str->Option Value)->Heap->Prop}{e:World->Heap->Prop}{d:DefRec}{K:Params->ZA}(m:l.most=some 63)(c:d.params.defaults=[])
 (o:∀(w:World) (h:Heap),e w h->(K w.params).In h)
 (F:∀(w:World) (mg:ZC) (g:Addr) (h:Heap),(K w.params).In h->h.Ns mainGlobals mg->mg d.name=some (.ref g)->
  ∃i:FuncData,(∀(s:Shared) (u:Value),BindsTo s i %[[u]|[]] [("_law_script",u)])/\∀base:Heap,(K w.params).In base->base.Ns mainGlobals mg->eC l.prog w (K w.params) mg base CX0 12 g i ["_law_script"] (rB (K w.params))):
 PySem.W.WalkO q b j e l.row.toRowW d [] (λf vs=>PySem.call f vs):=
 L2.walk_of (n:=63) (k:=12) (x:="_law_script") (CX:=λ_=>CX0) (sp:=λw=>rB (K w.params)) m (by decide) c %[rfl,by decide,by decide|rfl] o F (λ_ _ a p r t v=>%[a,p,rfl,v,t,r|λ_=>rfl]) λ_ _ _ _ _ z=>z
end K63
end
open PySem PySem.W PyProof.Rows
set_option maxRecDepth 100000 in
theorem PySem.Challenge.cw_digbook_k63_whole_none_wider_none_fewer_holds : PySem.Challenge.rw_digbook_k63_whole_none_wider_none_fewer.Holds := by
 w_on;o_law;k_head;(case hw=>w_witness2)
 k_fill
 refine K63.walk (l:=PySem.Challenge.rw_digbook_k63_whole_none_wider_none_fewer) rfl rfl (λw h Y=>PySem.W.kIn_of Y) ?F
 case F=>
  intro w mg fa h KX G hmg;refine' K63.all_mk KX G hmg ?_ ?_ ?_ ?_ ?_ ?_ ?_ ?_ ?_ ?_ ?_ ?_ ?_ ?_ ?_ ?_ ?_ ?_ ?_ ?_ ?_ ?_ ?_ ?_ ?_ ?_ ?_ ?_ ?_ ?_ ?_ ?_ ?_ ?_ ?_ ?_ ?_ ?_ ?_ ?_ ?_ ?_ ?_ ?_ ?_ ?_ ?_ ?_ ?_ ?_ ?_ ?_ ?_ ?_ ?_ ?_ ?_ ?_ ?_ ?ax ?ay ?az ?a0 ?ba ?bb ?bc ?bd ?be ?bf ?bg ?bh ?bi ?bj ?bk ?bl ?bm ?bn ?bo ?bp ?bq ?br ?bs ?bt ?bu ?bv ?bw ?bx ?bz ?b0 ?b1 ?b2 ?b3 ?b4 ?b5 ?b6 ?b7 ?b8 ?b9 ?ca ?cb ?cd ?ce ?ai ?cg ?ch ?ci ?cj ?cl ?cm ?cn ?co ?cp ?aj ?al ?am ?cq ?cr ?cs ?ct ?an ?ao ?ad ?cu ?cv ?ap ?aq ?af ?cw ?cx ?ar ?au ?ah ?cy ?c1 ?c2 ?c3 ?c4 ?c5 ?c6 ?c9 ?da ?db ?dc ?dd ?de
  any_goals (refine' K63.di_mk ?a ?l ?c ?k;(case a=>k_is);(case l=>k_is);(case c=>k_is);(case k=>k_is))
  (case ax|ay|az|a0|ba|bb|bc|bd|be|bf|bg|bh|bi|bj|bk|bl|bm|bn|bo|bp|bq|br=>k_is)
  (case bs=>exact⟨_,rfl⟩)
  (case bt=>k_is)
  (case bu=>exact⟨_,rfl⟩)
  (case bv=>k_is)
  (case bw=>exact⟨_,rfl⟩)
  (case bx=>k_is)
  (case bz=>exact⟨_,rfl⟩)
  (case b0=>k_is)
  (case b1=>exact⟨_,rfl⟩)
  (case b2=>k_is)
  (case b3=>exact⟨_,rfl⟩)
  (case b4=>k_is)
  (case b5=>exact⟨_,rfl⟩)
  (case b6=>k_is)
  (case b7=>exact⟨_,rfl⟩)
  (case b8=>k_is)
  (case b9=>exact⟨_,rfl⟩)
  (case ca=>k_is)
  (case cb=>exact⟨_,rfl⟩)
  (case cd=>k_is)
  (case ce=>exact⟨_,rfl⟩)
  (case ai|cg|ch|ci|cj|cl|cm|cn|co|cp|aj|al|am|cq|cr|cs|ct|an|ao|ad|cu|cv|ap|aq|af|cw|cx|ar|au|ah|cy|c1|c2=>k_is)
  (case c3|c4=>rfl)
  (case c5=>decide)
  (case c6=>exact .cons ⟨_,rfl⟩ (.cons ⟨_,rfl⟩ (.nil)))
  (case c9|da=>k_is)
  (case db|dc=>rfl)
  (case dd=>decide)
  (case de=>exact .cons ⟨_,rfl⟩ (.cons ⟨_,rfl⟩ (.nil)))
