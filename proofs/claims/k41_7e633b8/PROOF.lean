import PyProof.Rows.All
import Wide.All
import OpenK.AllK
import Wide.FinOn
import Lean
import PyProof.EqAt
import PyProof.EqKinds
import PyProof.TupleCall
import PyProof.ExcInit
import PyProof.ExcClass2
import PyProof.InstStoreFacts
import OpenK.KOwn
import PyProof.RulesAs
import PyProof.ExcAttrAll.ValueError
import KE.KIsAll
import KE.KRevSl
import KE.KRevIter
import PyProof.Rows.SortRuns
import PySem.SetTable
import PySem.SetOps
import PyProof.TupleKey
import PyProof.SetKind
import PyProof.Rows.SetObj
import KE.KDictSum
import PyProof.WalkInts
import KE.KDictOf
import PyProof.AttrMissHeap
import PyProof.DictWalks
import KE.KDictLaws
import KE.KDictList
import PyProof.FString2
import PyProof.ReprRoads
import PyProof.ReprLen
import PyProof.Rows.CallKwBuiltin
import PySem.Challenge.RW_digbook_k41_chains_told
set_option linter.all false
structure PySem.W.Fast:Prop where(tw10414608075049367006 tw15950202015070955427 tw2441905941022575941 tw13840149056313330772 tw9264183199759388254 tw1008096074119342237 tw10774525235422339445 tw1582926203220434550 tw3673367533877347767 tw8187541186758701815 tw18374441208333619194 tw18422887017847211037 tw8711091365980897890 tw16820099635093403209 tw16302736443961031727 tw12242646543379109272 tw12165188751494498374 tw16630748244560405976 tw10245552909787540308 tw270588704645514711 tw14346249183844984580 tw12891020962805834052 tw10056939726893299035 tw2828905144715735226 tw10533155347556145676 tw3191059919211849940 tw949190822892730061 tw6950184757691249264 tw12475648350411037671 tw4156975457929834220 tw11053157605701098673 tw14275979902140087676 tw14650596377223485555 tw9592413001757383508 tw5758270742332980950 tw17324774484728382101 tw5917283079137931447 tw9491651564409598299 tw12710543423812946862 tw8217969407009710490 tw2112710108208549018 tw6869186830512775587 tw14553278655485407272 tw4489356041018967012 tw16112275253376320753 tw8030392151260452094 tw1559817870702231283 tw599739269420946853 tw13964525840853015477 tw7781268161039078149 tw6556716049614212153 tw12510183598612147728 tw3528122352711170351 tw12069963864051420271 tw14389208951696014511 tw3786602538955781215 tw14089913395209595840 tw7676672787918662953 tw18338270924817403799 tw2683752875206771799 tw11023258116601726246 tw10698252869151211174 tw12543510391112549108 tw7340009968548116941 tw3084113921538287102 tw9073419826307842192 tw7144491887397675253 tw16348948518251182912 tw11276887860407263308 tw10397050432100801685 tw10324576815881105829 tw13358945814447098181 tw14360859574903219483 tw4466007322630608738 tw13962528247064942719 tw10108128715232596846 tw16711554256953692898 tw12673752908722836090 tw12095577403824095078 tw10010309632886073248 tw5607034003313961304 tw4715390624087104523 tw13246946495743437759 tw13257297569606250602 tw5502302891514342459 tw1316637681137911198 tw7998982397220291455 tw9358170355461139450 tw7686108503280047033 tw7629371735830239267 tw1310078783251376674 tw5790456014116573326 tw1430975358154982762 tw17594151134915499587 tw17381195212454903449 tw3431253976671753091 tw3206526991231102593 tw5348379696680086542 tw7780412085749325339 tw9764595539657577881 tw6754890082428498862 tw16811446565309533925 tw16427929865594473856 tw10268409260231112720 tw6760082045041301622 tw1430434180124080314 tw8327680085282588103 tw9436592020773175310 tw1052629489851569531 tw15109084182758805207 tw2898938857717623419 tw7469452203150299536 tw9675326684939806011 tw2063032265563836073 tw17286718705967727973 tw14461599216052499228 tw5744383188786864692 tw6458003447828890548 tw10756307789401518977 tw8277204704444427192 tw7860166367756914473 tw17860327458512818960 tw13313875286780607034 tw8837330363598171766 tw11697887284379767758 tw9702951886217476299 tw5353898222390542430 tw11632082136032007000 tw11903866972397104411 tw9802215128648026812 tw5643577788722673411 tw3244700044284737135 tw4565747747770167058 tw10063858486359977508 tw17297698316874644087 tw17755143579314475891 tw13462724071090677840 tw12505477812066207725 tw8802688928868587409 tw1347311190840295182 tw13217435704663791258 tw12917592299131655551 tw14794576319780783324 tw12158559980181526471 tw12135705174617567279 tw13681926702544214263 tw12300975894015563882 tw8991399638742855318 tw10560095881990317422 tw11480506242585111661 tw15564814440878359907 tw11552015570025847162 tw10829781167850910436 tw6025325506769672186 tw4078777887338515390 tw11019433760842150028 tw16984817142996440891 tw292755998063705768 tw12001673857548417687 tw11119383090903243867 tw13033110229230865949 tw11318037158879190551 tw8077726010624338440 tw10725536722007745520 tw5194959960170559473 tw1535186941327617839 tw15172798041579324267 tw6264983000225097653 tw14993282139376954122 tw13338801353543667668 tw4972653427704581862 tw10642810635228808476 tw2202487893742382397 tw17126727073087158766 tw4594152125432933377 tw11908933760537787237 tw12277809393129781715 tw12718170038415743913 tw8880932160520054862 tw12550284633716904589 tw2863626843307408325 tw4801382636030569446 tw7619768827494628328 tw11007494894515417694 tw5088826738931168372 tw16397101696823470799 tw14823013940555950759 tw10035462269811569079 tw3037005391744726608 tw11108686893512743759 tw3508038210968094195 tw16861845892314880799 tw6484400749205971298 tw514923436413690880 tw17831370560706379845 tw4965851843192888201 tw9988218068630871328 tw13603957997744958350 tw10704205076171968329 tw8863660181601161147 tw3616714101855149916 tw2006616644138110159 tw8803579919156603878 tw3564355299443063083 tw7796887013320155913 tw10728171115588467989 tw6641164182836634481 tw12491563511341769873 tw9999142319501282808 tw948455218996218822 tw16481515414835356466 tw14585896023252234721 tw13353761105161099190 tw14941670763248465494 tw14339210331002501268 tw13474807533995023848 tw928130932967630126 tw16195129727781474673 tw14540152038153238505 tw5670038976915174513 tw14737356591018877457 tw4063690071463315124 tw8847565006336961860 tw7868098055700488807 tw7006859745060041090 tw6613968062594537263 tw5553503813401599141 tw5091695863781846582 tw322128632758366656 tw31136288988701760 tw15015795477788165696 tw14621553218245440551 tw16147609961265131320 tw8538519465701500044 tw15749482859046985251 tw15270226202265770496 tw12689009190329001663 tw11570758285449737988 tw1112410713842616409 tw2647895121970098309 tw17147985766465260803 tw11501023910378710899 tw5731223132116633370 tw3804750645373803830 tw15035846168062508174 tw11417739775965354844 tw9585460209276083395 tw909699301291405310 tw8795905570650788182 tw8795572858037670098 tw7967677182016279221 tw7057350664733050214 tw6685085392728079695 tw4369153339178134045 tw3880207949497942320 tw3583535280192076427 tw3464192412913130584 tw3230596008873622550 tw3106547474505083393 tw290006206382073753 tw2734490378447956036 tw2087471191667280218 tw1976358400387878179 tw1959451010318811777 tw1865298671353587339 tw18243060727465004650 tw17659769356114661277 tw15541200514347962311 tw15158742294163420979 tw1375595327931635005 tw13362594159240605243 tw13147575159511332272 tw130925851401564777 tw12106164701276203389 tw11497857366816021632 tw11108192759403745892 tw11037703228136690797 tw12127979063512692541 tw7935445939606056776 tw8834747010971613293 tw3503218312327231502 tw17204108096533828878 tw4006510186508462597 tw2779442185098548984 tw17369522936243425351 tw10074206290706520367 tw15842302794272792995 tw9972622168089271855 tw5385354677320569072 tw2692019342371072937 tw1774400933415028700 tw1581850200621449084 tw12206994572420595054 tw781944946648781382 tw4635936122709204811 tw7846881792628896046 tw16011627019089863807 tw5484288745730615846 tw299842922289593386 tw7920941596500142588 tw4450616276711357674 tw15667217184937324217 tw123337100638941845 tw12406055448198299447 tw5985228691368166113 tw4802679973097690727 tw16190543360821207379 tw8441404913668973545 tw6362165420699661261 tw5037819790637355866 tw5017958944306688278 tw2941668773159336189 tw2171724260291554668 tw1843237303816061858 tw17746919061302660993 tw11625894543941180722 tw10256115020828832360 tw16605055757490025903 tw10725249187750237500 tw10335623480218494496 tw11102108466013962119 tw5715372483993595638 tw2139856681534656255 tw6421384286636901535 tw9834603844977322163 tw16477270535815297004 tw4807816792449163395 tw13247286119826861943 tw9371394053893243525 tw9188927914234323448 tw8984805028432733530 tw8782302060078887440 tw5249498247101075598 tw1786660963892057166 tw17759197474727733362 tw16732119661203904379 tw15407977596516625463 tw1206835374404533016 tw18261041568726925192 tw17920322647883579756 tw1039605741171621805 tw9912124555412507057 tw9803548046530741330 tw9624648210403523469 tw9598129629342064951 tw9468045626227046766 tw9446618420424654407 tw9345536115420711379 tw929107762151374665 tw9259546121568961269 tw9035795857436836218 tw8825649104962802712 tw8698376949346787678 tw8689254207350028096 tw8607538511225330066 tw8456116338612401932 tw8212653795306466539 tw8109945625257882624 tw8054605397902470120 tw8032016870988805763 tw7816510211605990123 tw7679468962800606486 tw7410518832975130974 tw728365779499193353 tw7282952920676714916 tw7258896711371444289 tw7158036073342461040 tw7153297154317950574 tw6904317402563250167 tw6750445632246592128:0=0)
theorem Z0{c:Sort _}{b:Prop}{a:c}:a=a∨b:=Or.inl rfl
theorem Z1{c:Sort _}{b:Prop}{a:c}:b∨a=a:=Or.inr rfl
def Z2:=@PySem.wpAny_bind
def Z3:=@PySem.wpAny_pure
def Z4:=@List.getElem?_eq_getElem
def Z6:=@List.length_map
def Z7:=@PySem.Heap.get?_push_of_some
def Z8:=@List.mem_of_getElem?
def Z9:=@List.length_append
def Za:=@Option.some.inj
def Zb:=@Array.length_toList
def Zc:=@List.getD_eq_getElem?_getD
def Zd:=@List.map_append
def Ze:=@List.append_assoc
def Zf:=@decide_eq_true
def Zg:=@Nat.lt_of_lt_of_le
def Zh:=@decide_eq_false
def Zi:=@Nat.le_refl
def Zj:=@PySem.Heap.get?_push_size
def Zk:=@List.mem_cons_of_mem
def Zl:=@List.getElem?_map
def Zm:=@List.mem_cons_self
def Zn:=@List.take_of_length_le
def Zo:=@of_decide_eq_true
def Zp:=@List.size_toArray
def Zq:=@PySem.Heap.size_push
def Zr:=@List.length_cons
def Zs:=@Array.getD_eq_getD_getElem?
def Zt:=@Nat.ne_of_lt
def Zu:=@Bool.false_ne_true
def Zv:=@PySem.Heap.lt_size
def Zw:=@Nat.add_sub_cancel_left
def Zx:=@Bool.and_eq_true
def Zy:=@List.any_cons
def Zz:=@List.append_nil
def Y0:=@List.drop_eq_getElem_cons
def Y1:=@List.extract_eq_take_drop
def Y2:=@Bool.false_eq_true
def Y3:=@List.filterMap_cons
def Y4:=@List.filter_append
def Y6:=@List.filter_cons_of_neg
def Y7:=@List.filter_cons_of_pos
def Y8:=@List.filter_nil
def Y9:=@List.foldl_cons
def Ya:=@List.getElem?_append_left
def Yb:=@List.getElem?_append_right
def Yc:=@List.getElem?_drop
def Yd:=@List.getElem?_take
def Ye:=@Array.getElem?_toList
def Yf:=@List.getElem_mem
def Yg:=@List.getElem_of_mem
def Yh:=@Nat.le_of_lt
def Yi:=@Nat.le_succ
def Yj:=@Nat.le_trans
def Yk:=@List.length_drop
def Yl:=@List.length_filter_le
def Ym:=@List.length_range
def Yn:=@List.length_singleton
def Yo:=@List.length_take
def Yp:=@List.lookup_cons
def Yq:=@Nat.lt_succ_of_lt
def Yr:=@Nat.lt_succ_self
def Ys:=@List.map_congr_left
def Yt:=@List.map_cons
def Yu:=@List.map_map
def Yv:=@List.mem_append
def Yw:=@List.mem_append_left
def Yx:=@List.mem_append_right
def Yy:=@List.mem_cons
def Yz:=@List.mem_of_mem_drop
def X1:=@List.mem_of_mem_take
def X2:=@Nat.min_eq_left
def X3:=@Nat.ne_of_gt
def X4:=@List.nodup_append
def X6:=@List.nodup_iff_pairwise_ne
def X7:=@List.nodup_nil
def X8:=@Nat.not_lt_zero
def X9:=@List.not_mem_nil
def Xa:=@Bool.or_eq_false_iff
def Xb:=@List.pairwise_map
def Xc:=@List.range_succ
def Xd:=@List.take_add_one
def Xe:=@List.take_append_drop
def Xf:=@List.take_append_of_le_length
def Xg:=@Array.toList_append
def Xh:=@Nat.zero_le
def Xi:=@List.getElem?_of_mem
def Xj:=@List.Pairwise.imp_of_mem
def Xk:=@Int.eq_ofNat_of_zero_le
def Xl:=@Array.size_push
def Xm:=@Nat.lt_irrefl
def Xn:=@List.Perm.append_right
theorem Xo{b:Type _}{l:List b}{i:Nat}{a:b}(h:l[i]?=some a):∃h:i<l.length,l[i]=a:=List.getElem?_eq_some_iff.mp h
theorem Xp{b:Type _}{a:b}{s t:List b}(h:a∈s++t):a∈s∨a∈t:=List.mem_append.mp h
theorem Xq{c:Type _}{a b:c}(h:a∈[b]):a=b:=List.mem_singleton.mp h
theorem Xr{c d:Type _}{f:c->d}{l:List c}{b:d}(h:b∈l.map f):∃a,a∈l/\f a=b:=List.mem_map.mp h
theorem Xs{c d:Type _}{f:c->d}{l:List c}{b:d}(h:∃a,a∈l/\f a=b):b∈l.map f:=List.mem_map.mpr h
open Array (forIn_toList getD_eq_getD_getElem? getElem?_toList length_toList mem_toList_iff size_append size_map toList_append toList_extract toList_push)
open Bool (and_eq_true false_eq_true or_eq_false_iff or_eq_true)
open List (all_eq_true all_map any_cons any_eq_true any_map append_nil cons_append countP_cons drop_drop drop_eq_getElem_cons drop_of_length_le drop_zero ext_getElem ext_getElem? extract_eq_take_drop filterMap_cons filter_append filter_cons filter_cons_of_neg filter_cons_of_pos filter_nil flatMap_append foldl_cons forIn_cons getD_eq_getElem?_getD getElem?_append_left getElem?_append_right getElem?_drop getElem?_map getElem?_take getElem_mem getElem_of_mem length_append length_cons length_drop length_eq_zero_iff length_filter_le length_map length_nil length_pos_iff length_range length_singleton length_take length_zip lookup_cons map_append map_congr_left map_cons map_id map_map map_nil mem_append mem_append_left mem_append_right mem_cons mem_cons_of_mem mem_cons_self mem_filterMap mem_flatMap mem_map mem_of_mem_drop mem_of_mem_take mem_range mem_singleton nil_append nodup_append nodup_cons nodup_iff_pairwise_ne nodup_nil nodup_range not_mem_nil of_mem_zip pairwise_append pairwise_map perm_append_comm range_succ size_toArray take_add_one take_append_drop take_append_of_le_length take_of_length_le)
open Nat (add_mod add_sub_cancel add_sub_cancel_left add_zero le_add_right le_of_lt le_refl le_succ le_trans le_zero lt_of_lt_of_le lt_succ_of_lt lt_succ_self min_eq_left mod_lt ne_of_gt ne_of_lt not_lt_zero pow_succ sub_self succ_pos zero_add zero_le)
open Option (getD_none getD_some isSome_iff_exists isSome_map map_eq_some_iff map_some)
open PyProof.Rows (boot_abs boot_all boot_int boot_isinstance boot_list boot_max boot_min boot_set boot_sorted boot_str boot_tuple signs_length)
open PySem.F (called_set plainAttrs_dict plainAttrs_list plainAttrs_str slot_dict_get slot_str_join type_dict_get type_str_join)
open PySem.Heap (SameBut get?_push_of_some get?_push_size get?_update_other get?_update_self lt_size)
open PySem.W (KatTups Looks callWith_K cellsFrom_some codeIn emptyDict findIn fnOf handedIn hasDictIn instObj isFn keepIn kia_one kitOne kitx_dict kitx_list lookIn makesIn mg_none_of mg_of nsIn plainGet plainGet_of plainOver takerIn)
set_option maxHeartbeats 0
set_option Elab.async false
set_option compiler.extract_closed false
set_option maxRecDepth 100000
section
open PySem
local macro_rules|`(⋯)=>`(by lia)|`(∅)=>`(by simp)
local macro_rules|`(⇑$s:ident)=>`(Shared.heap $s|>.objs.size)
local macro_rules|`(~~~$x:ident)=>`(wpAny (model ($x).prog ($x).w) ($x).A)
local macro_rules|`($s:ident>>>$e)=>`({$s with heap:=$e})
local macro_rules|`(%[$x,*|$y])=>`(⟨$x,*,$y⟩)
set_option hygiene false in
local macro_rules|`(↥$a:ident)=>`(wpAny (model prog w) $a)
set_option hygiene false in
local macro_rules|`(command|#where)=>`(variable{prog:Program}{w:World}{A:Around}{E:ZD}{s:Shared})
set_option hygiene false in
local macro_rules|`(command|#version)=>`(variable{X:Cx}{pins:ZE}{σ:St}{H:Hp}{s:Shared})
abbrev ZA:=PySem.W.Frag
abbrev ZB:=List PySem.Str
abbrev ZC:=PySem.Str->Option PySem.Value
abbrev ZD:=PySem.Value->PySem.Shared->Prop
abbrev ZE:=List (PySem.Addr×PySem.Obj)
abbrev ZF:=List PySem.Value
abbrev ZG:=List (PySem.Addr×List PySem.Str)
abbrev ZH:=List (PySem.Addr×PySem.Str×List PySem.Str)
abbrev ZI:=Option PySem.Addr
abbrev ZJ:=Array PySem.Value
abbrev ZK:=Array (Option PySem.Value)
abbrev ZL:=List Int
set_option genSizeOf false
set_option genInjectivity false
set_option bootstrap.genMatcherCode false
namespace L2
open PySem PySem.Spec PyProof.Rows
noncomputable abbrev Key:=Sum Int Str
noncomputable def jI:Key->Value->Bool
 | .inl k,v=>Value.isInt k v
 | .inr x,v=>Value.isStrOf x v
noncomputable def keyH(w:World):Key->Int
 | .inl k=>hashInt k
 | .inr x=>hashStr w x
theorem bq:∀{k:Key} {v:Value},jI k v=true->(∃i t,k=Sum.inl i/\v=Value.int i t)\/(∃x t,k=Sum.inr x/\v=Value.str x t)
 | .inl i,v,h=>by
   obtain⟨t,e⟩:=Value.isInt_shape h;exact .inl %[i,t,rfl|e]
 | .inr x,v,h=>by
   obtain⟨t,e⟩:=Value.isStrOf_shape h;exact .inr %[x,t,rfl|e]
theorem vO(i:Int)(t:Tok):jI (.inl i) (.int i t)=true:=by simp[jI,Value.isInt]
theorem dw(x:Str)(t:Tok):jI (.inr x) (.str x t)=true:=by simp[jI,Value.isStrOf]
theorem B7(a b:Int):decide ((Sum.inl a:Key)=Sum.inl b)=(a==b):=by
 by_cases e:a=b
 .subst e;simp
 simp_all
theorem B8(a b:Str):decide ((Sum.inr a:Key)=Sum.inr b)=decide (a=b):=by
 simp
noncomputable def aP(prog:Program)(w:World):PySem.KeyKind prog w Key where
 is:=jI
 hash:=keyH w
 inj:=λv a b ha hb=>by
  rcases bq ha with⟨i,t,rfl,rfl⟩|⟨x,t,rfl,rfl⟩
  .rcases bq hb with⟨j,u,rfl,e⟩|⟨y,u,rfl,e⟩
   .injection e with e1 _;rw[e1]
   .exact nomatch e
  .rcases bq hb with⟨j,u,rfl,e⟩|⟨y,u,rfl,e⟩
   .exact nomatch e
   .injection e with e1 _;rw[e1]
 byValue:=λk v h=>by
  rcases bq h with⟨i,t,rfl,rfl⟩|⟨x,t,rfl,rfl⟩<;> rfl
 pyHash:=λhv h=>by
  rcases bq hv with⟨i,t,rfl,rfl⟩|⟨x,t,rfl,rfl⟩
  .exact wpAny_pyHash_int h
  .exact wpAny_pyHash_str h
 eqBool:=λhu hv h=>by
  rcases bq hu with⟨i,t,rfl,rfl⟩|⟨x,t,rfl,rfl⟩
  .rcases bq hv with⟨j,u,rfl,rfl⟩|⟨y,u,rfl,rfl⟩
   .rw[B7]at h;exact wpAny_eqBool_int h
   .exact SeqAt.EqAt.int_str i t y u _ _ _ _ h
  .rcases bq hv with⟨j,u,rfl,rfl⟩|⟨y,u,rfl,rfl⟩
   .exact SeqAt.EqAt.str_int x t j u _ _ _ _ h
   .rw[B8]at h;exact wpAny_eqBool_str h
 «strs»:=λk x t v h=>by
  rcases bq h with⟨i,u,rfl,e⟩|⟨y,u,rfl,e⟩
  .exact nomatch e
  .injection e with e1 _
   subst e1;cases v<;> rfl
theorem qY(prog:Program)(w:World)(i:Int)(t:Tok):(aP prog w).is (.inl i) (.int i t)=true:=vO i t
theorem qZ(prog:Program)(w:World)(x:Str)(t:Tok):(aP prog w).is (.inr x) (.str x t)=true:=dw x t
set_option genInjectivity true in
inductive V where
 | non|bl (b:Bool)|int (i:Int)|str (x:Str)|byt (b:Array UInt8)|flt (b:UInt64)|ref (a:Addr)|ty (n:String)
 deriving DecidableEq
def aL:V->Value->Prop
 | .non,u=>u=Value.none
 | .bl b,u=>u=Value.bool b
 | .int i,u=>∃t,u=Value.int i t
 | .str x,u=>∃t,u=Value.str x t
 | .byt b,u=>∃t,u=Value.bytes b t
 | .flt b,u=>∃t,u=Value.float b t
 | .ref a,u=>u=Value.ref a
 | .ty n,u=>u=Value.type n
abbrev aF:List V->ZF->Prop:=Paired aL
theorem aF.length{xs:List V}{us:ZF}(r:aF xs us):xs.length=us.length:=Paired.length r
theorem aF.get:∀{xs:List V} {us:ZF} {i:Nat} {x:V},aF xs us->xs[i]? =some x->∃u,us[i]? =some u/\aL x u
 | _,_,_,_,.nil,e=>by simp at e
 | _,_,0,_,.cons r _,e=>by simp at e;subst e;exact%[_,rfl|r]
 | _,_,i+1,x,.cons _ t,e=>by
   obtain⟨u,a,b⟩:=aF.get t (e);exact%[u,a|b]
theorem aF.append:∀{xs ys:List V} {us ws:ZF},aF xs us->aF ys ws->aF (xs++ys) (us++ws)
 | _,_,_,_,.nil,s=>s
 | _,_,_,_,.cons r t,s=> .cons r (aF.append t s)
theorem aF.take:∀{xs:List V} {us:ZF} n,aF xs us->aF (xs.take n) (us.take n)
 | _,_,0,_=> .nil
 | _,_,_+1,.nil=> .nil
 | _,_,n+1,.cons r t=> .cons r (aF.take n t)
theorem aF.drop:∀{xs:List V} {us:ZF} n,aF xs us->aF (xs.drop n) (us.drop n)
 | _,_,0,r=>r
 | _,_,_+1,.nil=> .nil
 | _,_,n+1,.cons _ t=>aF.drop n t
def fV:Option V->Option Value->Prop
 | some v,some u=>aL v u
 | none,none=>True
 | _,_=>False
noncomputable def KV{a:Type}:List (a×V)->List (a×Value)->Prop:=Paired λp q=>p.1=q.1/\aL p.2 q.2
noncomputable def kV:Key->V
 | .inl i=> .int i
 | .inr x=> .str x
set_option genInjectivity true in
inductive HO where
 | lst (xs:List V)
 | tup (xs:List V)
 | dK (kvs:List (Key×V))|dT (kvs:List (List Key×V))
 | set (S:Int->Bool) (n:Nat)
 | ins (C dx:Addr) (fs:List (Str×V))
 | own (x:Addr)
 | xd (fs:List (Str×V))
 | met (f x:Addr)
 | rng (lo hi:Int)
 | frz (o:Obj) (u:HO)
 | tbl (ps:ZJ)
 | ext (φ:Heap->Prop)
noncomputable abbrev Hp:=Addr->Option HO
noncomputable def upd(H:Hp)(a:Addr)(o:HO):Hp:=λb=>if b=a then some o else H b
theorem aa:upd H a o a=some o:=by unfold upd;rw[if_pos rfl]
theorem ap{H:Hp}{a b:Addr}{o:HO}(h:b≠a):upd H a o b=H b:=by unfold upd;rw[if_neg h]
theorem Ei{H:Hp}(h:H a=some o)(h':H b=some u)(d:o≠u):a≠b:=by
 intro e;subst e;rw[h]at h';exact d (Za h')
theorem av{H:Hp}{a b:Addr}{o:HO}(h:H a=some o)(h':H b=none):a≠b:=by
 lia
section
variable(P:Program)(w:World)
def dg(H:Hp)(h:Heap)(a:Addr):HO->Prop
 | .lst xs=>xs.length<=sizeLine/\∃(its:ZF) (n:Nat),aF xs its/\h.get? a=some {cls:= .type "list",data:= .seq its.toArray n}
 | .tup xs=>xs.length<=sizeLine/\∃its:ZF,aF xs its/\IsTup h a its.toArray
 | .dK b=>b.length<=sizeLine/\(a==sysModules)=false/\∃vs,KV b vs/\h.DictOf (aP P w) a vs
 | .dT b=>b.length<=sizeLine/\(a==sysModules)=false/\∃xs:List (List Key×Addr×Value),
  Paired (λ(p:List Key×V) (q:List Key×Addr×Value)=>p.1=q.1/\H q.2.1=some (.tup (p.1.map kV))/\aL p.2 q.2.2) b xs/\
  ∃o g l,h.get? a=some o/\o.ExactDict/\o.data= .dict g l/\g.toList=xs.map (entryOfKey (tupleKind (aP P w)))/\(xs.map (·.1)).Nodup
 | .set S n=>h.SetOf (intKind P w) a S n
 | .ins C d fs=>H d=some (.own a)/\fs.length<=1000/\d≠a/\h.get? a=some (instObj C d)/\
  ∃c,h.Ns1 d c/\(∀f,fV (fs.lookup f) (c f))/\PySem.Within c (fs.map (·.1))
 | .own _=>∃o,h.get? a=some o
 | .xd fs=>∃c,h.Ns1 a c/\∀f,fV (fs.lookup f) (c f)
 | .rng lo hi=>∃t u v,h.get? a=some {cls:= .type "range",data:= .fields #[.int lo t,.int hi u,.int 1 v]}
 | .frz o u=>h.get? a=some o/\dg H h a u
 | .tbl ps=>h.get? a=some {cls:= .none,data:= .fields ps}
 | .met f x=>h.get? a=some (PySem.W.methodObj (.ref f) (.ref x))
 | .ext e=>e h/\(∃o,h.get? a=some o)/\∀i j,e i->(∀o,i.get? a=some o->j.get? a=some o)->e j
def HOk(H:Hp)(h:Heap):Prop:=∀a o,H a=some o->dg P w H h a o
end
section
variable{P:Program}{w:World}{H H':Hp}{h h':Heap}{a:Addr}{o:HO}
theorem dg.lt(x:dg P w H h a o):a<h.objs.size:=by
 cases o with
 | lst xs=>obtain⟨_,_,_,_,e⟩:=x;exact Zv e
 | tup xs=>obtain⟨_,_,_,p⟩:=x;exact p.lt
 | dK b=>obtain⟨_,_,_,_,o,_,_,e,_⟩:=x;exact Zv e
 | dT b=>obtain⟨_,_,_,_,o,_,_,e,_⟩:=x;exact Zv e
 | set S n=>obtain⟨o,_,_,_,e,_⟩:=x;exact Zv e
 | ins C c fs=>obtain⟨_,_,_,e,_⟩:=x;exact Zv e
 | own y=>obtain⟨_,e⟩:=x;exact Zv e
 | xd fs=>obtain⟨_,⟨_,_,_,e,_⟩,_⟩:=x;exact Zv e
 | rng lo hi=>obtain⟨_,_,_,e⟩:=x;exact Zv e
 | frz d u=>obtain⟨e,_⟩:=x;exact Zv e
 | tbl ps=>exact Zv (x)
 | met f y=>exact Zv (x)
 | ext g=>obtain⟨_,⟨_,e⟩,_⟩:=x;exact Zv e
theorem Paired.mapP{F G:c->d->Prop}:∀{l₁:List c} {l₂:List d},Paired F l₁ l₂->(∀a b,F a b->G a b)->Paired G l₁ l₂
 | _,_,.nil,_=> .nil
 | _,_,.cons r t,f=> .cons (f _ _ r) (Paired.mapP t f)
theorem dg.stay(x:dg P w H h a o)(k:∀b u,(b=a\/H b=some (.own a))->h.get? b=some u->h'.get? b=some u)
 (A:∀b,H b=some (.own a)->H' b=some (.own a)) (B:∀b xs,H b=some (.tup xs)->H' b=some (.tup xs)):dg P w H' h' a o:=by
 induction o with
 | lst xs=>obtain⟨z,its,n,r,e⟩:=x;exact%[z,its,n,r|k _ _ (.inl rfl) e]
 | tup xs=>obtain⟨z,its,r,g,e,c⟩:=x;exact%[z,its,r,g,k _ _ (.inl rfl) e|c]
 | dK l=>obtain⟨z,y,vs,r,g,i,j,e,c⟩:=x;exact%[z,y,vs,r,g,i,j,k _ _ (.inl rfl) e|c]
 | dT l=>
   obtain⟨z,y,xs,r,g,i,j,e,c⟩:=x;exact%[z,y,xs,Paired.mapP r λp q z=>%[z.1,B _ _ z.2.1|z.2.2],g,i,j,k _ _ (.inl rfl) e|c]
 | set S n=>obtain⟨g,i,j,t,e,c⟩:=x;exact%[g,i,j,t,k _ _ (.inl rfl) e|c]
 | ins C I fs=>
   obtain⟨d,z,ne,e,m,⟨s,i,j,E,c⟩,r⟩:=x;exact%[A _ d,z,ne,k _ _ (.inl rfl) e,m,%[s,i,j,k _ _ (.inr d) E|c]|r]
 | own y=>obtain⟨g,e⟩:=x;exact%[g|k _ _ (.inl rfl) e]
 | xd fs=>obtain⟨m,⟨s,i,j,e,c⟩,r⟩:=x;exact%[m,%[s,i,j,k _ _ (.inl rfl) e|c]|r]
 | rng lo hi=>obtain⟨t,u,v,e⟩:=x;exact%[t,u,v|k _ _ (.inl rfl) e]
 | frz g u G=>obtain⟨e,q⟩:=x;exact%[k _ _ (.inl rfl) e|G q]
 | tbl ps=>
   exact k a _ (.inl rfl) x
 | met f y=>
   exact k a _ (.inl rfl) x
 | ext J=>obtain⟨p,⟨o,e⟩,st⟩:=x;exact%[st _ _ p λo q=>k _ _ (.inl rfl) q,%[o|k _ _ (.inl rfl) e]|st]
theorem HOk.lt(x:HOk P w H h)(e:H a=some o):a<h.objs.size:=(x a o e).lt
theorem HOk.fresh(x:HOk P w H h)(e:h.objs.size<=a):H a=none:=by
 cases q:H a with
 | none=>rfl
 | some u=>exact absurd (Zg (x.lt q) e) (Xm _)
theorem HOk.kept(x:HOk P w H h)(k:∀b u,h.get? b=some u->h'.get? b=some u):HOk P w H h':=λa o e=>
 (x a o e).stay (λb u _ q=>k b u q) (λ_ q=>q) λ_ _ q=>q
theorem HOk.laid(x:HOk P w H h)(k:∀b u,h.get? b=some u->h'.get? b=some u)(g:h.objs.size<=a)(new:dg P w (upd H a o) h' a o):HOk P w (upd H a o) h':=λb u e=>by
 have d:=x.fresh g;by_cases f:b=a
 .subst f;rw[aa]at e;grind
 .rw[ap f]at e;exact(x b u e).stay (λc v _ q=>k c v q) (λc q=>(ap (av q d))▸q) λc xs q=>(ap (av q d))▸q
end
def Rd(H:Hp)(a:Addr)(u:HO):Prop:=H a=some u\/∃o,H a=some (.frz o u)
theorem Rd.ok{P:Program}{w:World}{H:Hp}{h:Heap}{a:Addr}{u:HO}(r:Rd H a u)(x:HOk P w H h):dg P w H h a u:=by
 rcases r with r|⟨o,r⟩
 .exact x a u r
 .obtain⟨_,q⟩:=x a _ r;exact q
def Mut:Option HO->Prop
 | some (.lst _)=>True
 | some (.dK _)=>True
 | some (.dT _)=>True
 | some (.set _ _)=>True
 | some (.ins _ _ _)=>True
 | some (.ext _)=>True
 | _=>False
section
variable{P:Program}{w:World}{H:Hp}{h h':Heap}{x e:Addr}{o':HO}
theorem HOk.write(ok:HOk P w H h)(g:Mut (H x))(m:e=x\/H e=some (.own x))(k:∀b u,b≠e->h.get? b=some u->h'.get? b=some u)(i:∃u,h'.get? e=some u)
 (new:dg P w (upd H x o') h' x o'):HOk P w (upd H x o') h':=λb u q=>by
 have d:∀c y,H c=some (.own y)->c≠x:=λc y r z=>by subst z;rw[r]at g;exact g
 have f:∀c xs,H c=some (.tup xs)->c≠x:=λc xs r z=>by subst z;rw[r]at g;exact g
 by_cases j:b=x
 .subst j;rw[aa]at q;grind
 .rw[ap j]at q;by_cases a:b=e
  .have l:H b=some (.own x):=by
    rcases m with z|z
    .exact absurd (a.trans z) j
    .exact a▸z
   rw[q]at l;cases l;obtain⟨v,n⟩:=i;exact%[v|a▸n]
  .refine(ok b u q).stay (λc v o r=>k c v ?_ r) (λc r=>(ap (d c b r))▸r) λc xs r=>(ap (f c xs r))▸r
   grind
end
structure Un (fs ex:List Addr) (H H':Hp) (h h':Heap):Prop where
 keep:∀b o,h.get? b=some o->H b=none->b∉fs->b∉ex->h'.get? b=some o
 slot:∀b o,h.get? b=some o->H b=none->b∈fs->b∉ex->∃sl,h'.get? b=some {o with slots:=sl}
 free:∀b o,h.get? b=some o->H b=none->b∉ex->H' b=none
 there:∀b o,h.get? b=some o->b∉ex->∃o',h'.get? b=some o'
 tups:∀b xs,H b=some (.tup xs)->H' b=some (.tup xs)
 frzs:∀b o u,H b=some (.frz o u)->H' b=some (.frz o u)
 tbls:∀b ps,H b=some (.tbl ps)->∃more,H' b=some (.tbl (ps++more))
section
variable{fs fs' ex ex':List Addr}{H H1 H2:Hp}{h h1 h2 h':Heap}{a x e:Addr}{o:HO}
theorem Un.any(u:Un fs ex H H1 h h1)(q:h.get? b=some c)(n:H b=none)(d:b∉ex):∃g,h1.get? b=some {c with slots:=g}:=by
 by_cases f:b∈fs
 .exact u.slot b c q n f d
 .exact%[c.slots|u.keep b c q n f d]
theorem Un.trans(a:Un fs ex H H1 h h1)(b:Un fs ex H1 H2 h1 h2):Un fs ex H H2 h h2 where
 keep:=λc ob q n hc hx=>b.keep c ob (a.keep c ob q n hc hx) (a.free c ob q n hx) hc hx
 slot:=λc ob q n hc hx=>by
  obtain⟨sl,e1⟩:=a.slot c ob q n hc hx;obtain⟨sl',e2⟩:=b.slot c _ e1 (a.free c ob q n hx) hc hx;exact%[sl'|e2]
 free:=λc ob q n hx=>by
  obtain⟨o',e1⟩:=a.there c ob q hx;exact b.free c o' e1 (a.free c ob q n hx) hx
 there:=λc ob q hx=>by
  obtain⟨o',e1⟩:=a.there c ob q hx;exact b.there c o' e1 hx
 tups:=λc xs q=>b.tups c xs (a.tups c xs q)
 frzs:=λc ob xs q=>b.frzs c ob xs (a.frzs c ob xs q)
 tbls:=λc ps q=>by
  obtain⟨m1,e1⟩:=a.tbls c ps q;obtain⟨m2,e2⟩:=b.tbls c _ e1;exact%[m1++m2|by rw[e2,Array.append_assoc]]
theorem Un.kept(k:∀b u,h.get? b=some u->h'.get? b=some u):Un fs ex H H h h':=
 %[λb c q _ _ _=>k b c q,λb c q _ _ _=>%[c.slots|k b c q],λ_ _ _ n _=>n,λb c q _=>%[c|k b c q],λ_ _ q=>q,λ_ _ _ q=>q|λ_ ps q=>%[#[]|by rw[q];simp]]
theorem Un.refl:Un fs ex H H h h:=Un.kept λ_ _ q=>q
theorem Un.laid(k:∀b u,h.get? b=some u->h'.get? b=some u)(hp:h.objs.size<=a)(hn:H a=none):Un fs ex H (upd H a o) h h' where
 keep:=λb u q _ _ _=>k b u q
 slot:=λb u q _ _ _=>%[u.slots|k b u q]
 free:=λb u q n _=>(ap (Zt (Zg (Zv q) hp)))▸n
 there:=λb u q _=>%[u|k b u q]
 tups:=λb xs q=>(ap (av q hn))▸q
 frzs:=λb u xs q=>(ap (av q hn))▸q
 tbls:=λb ps q=>%[#[]|by rw[ap (av q hn),q];simp]
theorem Un.write(f:Mut (H x))(l:e=x\/H e=some (.own x))(k:∀b u,b≠e->h.get? b=some u->h'.get? b=some u)(i:∃u,h'.get? e=some u):Un fs ex H (upd H x o) h h':=by
 have j:∀b,H b=none->b≠x:=λb n z=>by subst z;rw[n]at f;exact f
 have g:∀b,H b=none->b≠e:=λb n z=>by
  simp_all
 have c:∀b u,H b=some u-> ¬ Mut (some u)->b≠x:=λb u q m z=>by simp_all
 refine%[λb u q n _ _=>k b u (g b n) q,λb u q n _ _=>%[u.slots|k b u (g b n) q],λb u q n _=>(ap (j b n))▸n,λb u q _=>?_,
  λb xs q=>(ap (c b _ q λz=>z))▸q,λb u xs q=>(ap (c b _ q λz=>z))▸q|λb ps q=>%[#[]|by rw[ap (c b _ q λz=>z),q];simp]]
 by_cases d:b=e
 .simp_all
 .exact%[u|k b u d q]
end
noncomputable def trk(h:Heap)(H:Hp):List Addr:=(List.range h.objs.size).filter λa=>(H a).isSome
noncomputable def vP(h:Heap)(H:Hp):Heap:=PySem.W.hideAll h (trk h H)
theorem vQ(h:Heap)(H:Hp):(vP h H).objs.size=h.objs.size:=PySem.W.hideAll_size _ _
theorem xM(e:h.get? b=some o)(n:H b=none):(vP h H).get? b=some o:=
 PySem.W.hideAll_get _ e λa=>by
  have q:=(List.mem_filter.mp a).2;rw[n]at q;simp at q
theorem Ah(e:(vP h H).get? b=some o):h.get? b=some o/\H b=none:=by
 have a:=PySem.W.of_hideAll _ e;refine%[a|?_];cases q:H b with
 | none=>rfl
 | some x=>
   have z:(vP h H).get? b=none:=PySem.W.hideAll_none _ (List.mem_filter.mpr %[mem_range.mpr (Zv a)|by simp[q]])
   grind
noncomputable def Ai(g h:Heap)(L:Addr):ZE:=(List.range h.objs.size).filterMap λa=>if a=L\/(g.get? a).isSome=true then none else(h.get? a).map λo=>(a,o)
noncomputable def rest(g h:Heap)(L d:Addr):ZE:=(Ai g h L).filter λp=>decide (p.1≠d)
structure Mod (K:ZA) (mg:ZC) (base:Heap):Prop where
 kin:K.In base
 glob:base.Ns mainGlobals mg
 blt:∃mb,base.Ns builtinsNs mb/\∀x:Str,x≠"__name__"->mb x=bootBuiltins x
 nolimit:base.NoLimit
structure Cx where
 prog:Program
 w:World
 K:ZA
 mg:Str->Option Value
 base:Heap
 A:Around
 N:ZB
 s₀:Shared
 H₀:Hp
 env:Env
 outer:List Env
 stack:List Env
 ex:List Addr
 fn:Str->Bool
 calm:Bool
 pn:ZE
 xe:Value->Shared->Prop
noncomputable def frs(l:List Env):List Addr:=l.filterMap (·.frame)
noncomputable abbrev Cx.fs(X:Cx):List Addr:=frs X.outer
def Vis(a:Scope)(x:Str):Prop:=a.names.lookup x=some .local\/a.names.lookup x=some .cell\/a.names.lookup x=some .free
def Loc(a:Scope)(x:Str):Prop:=a.names.lookup x=some .local\/a.names.lookup x=some .cell
def Look(env:Env)(h:Heap)(m:ZC)(x:Str)(u:Value):Prop:=
 (env.kindOf x=some .local/\m x=some u)\/((env.kindOf x=some .cell\/env.kindOf x=some .free)/\∃c,env.cells.lookup x=some c/\h.IsCell c (some u))
structure Cx.Ok (X:Cx):Prop where
 mod:Mod X.K X.mg X.base
 kind:X.env.scope.kind= .function
 glob:X.env.globals=mainGlobals
 blt:X.env.builtins=builtinsNs
 above:X.s₀.heap.objs.size<=X.env.locals
 inj:∀x y c,X.env.cells.lookup x=some c->X.env.cells.lookup y=some c->x=y
 has:∀x,(X.env.kindOf x=some .cell\/X.env.kindOf x=some .free)->∃c,X.env.cells.lookup x=some c
 cab:∀x c,X.fn x=true->X.env.cells.lookup x=some c->X.s₀.heap.objs.size<=c
 hd:X.calm=true->X.A.handled=none
 frames:X.A.frames=some X.stack
 stk:X.stack=X.outer\/(X.stack=X.env::X.outer/\X.env.frame=some X.env.locals)
 exf:∀b∈X.ex,b≠X.env.locals/\∀x c,X.env.cells.lookup x=some c->c≠b
 bs:∀b o,X.base.get? b=some o->X.s₀.heap.get? b=some o/\X.H₀ b=none
 bsz:X.base.objs.size<=X.s₀.heap.objs.size
 noex:∀b o,X.base.get? b=some o->b∉X.ex
 exfs:∀b∈X.ex,b∉X.fs
 funs:X.s₀.heap.FunFrames X.base X.outer
 frf:∀b∈X.fs,X.H₀ b=none
structure Inv (X:Cx) (pins:List _) (σ:List _) (H:Hp) (s:Shared):Prop where
 ok:X.Ok
 os:s.os=X.s₀.os
 bare:AllBare s.gens
 base:Un X.fs X.ex X.H₀ H X.s₀.heap s.heap
 loc:∃m,s.heap.Ns X.env.locals m/\∀(i:Nat) x v,X.N[i]? =some x->σ[i]? =some (some v)->Vis X.env.scope x->∃u,aL v u/\Look X.env s.heap m x u
 cell:∀x c,X.env.cells.lookup x=some c->∃v,s.heap.IsCell c v
 free:H X.env.locals=none
 freeC:∀x c,X.env.cells.lookup x=some c->H c=none
 pin:∀p∈X.pn++pins,s.heap.get? p.1=some p.2/\H p.1=none/\p.1≠X.env.locals/\p.1∉X.fs/\∀v,p.2.data≠ .cell v
 hok:HOk X.prog X.w H s.heap
 len:σ.length=X.N.length
section
variable{X:Cx}{pins:ZE}{σ:List (Option V)}{H H':Hp}{s:Shared}{h':Heap}
theorem Cx.Ok.nofr(ok:X.Ok)(e:X.base.get? b=some o):b∉X.fs:=λa=>by
 have:=(ok.funs.mem a).1
 grind
theorem Inv.bs(I:Inv X pins σ H s):∀b o,X.base.get? b=some o->s.heap.get? b=some o/\H b=none:=λb o e=>
 %[I.base.keep b o (I.ok.bs b o e).1 (I.ok.bs b o e).2 (I.ok.nofr e) (I.ok.noex b o e)|I.base.free b o (I.ok.bs b o e).1 (I.ok.bs b o e).2 (I.ok.noex b o e)]
theorem Inv.bk(I:Inv X pins σ H s):∀b o,X.base.get? b=some o->s.heap.get? b=some o:=λb o e=>(I.bs b o e).1
theorem Inv.mod(I:Inv X pins σ H s):Mod X.K X.mg X.base:=I.ok.mod
theorem Inv.kIn(I:Inv X pins σ H s):X.K.In s.heap:=I.ok.mod.kin.keeps I.bk
theorem Inv.lt(I:Inv X pins σ H s):X.env.locals<⇑s:=let⟨_,a,_⟩:=I.loc;a.lt
theorem Inv.sz(I:Inv X pins σ H s):X.s₀.heap.objs.size<=⇑s:=Yj I.ok.above (Yh I.lt)
theorem Inv.nofs(I:Inv X pins σ H s)(h:⇑s<=a):a∉X.fs:=λb=>by
 obtain⟨_,o,c,_⟩:=I.ok.funs.mem b;exact absurd (Zg (Zv c) (Yj I.sz h)) (Xm _)
theorem Inv.cne(I:Inv X pins σ H s):∀x c,X.env.cells.lookup x=some c->c≠X.env.locals:=λx c e z=>by
 obtain⟨v,o,d,f⟩:=I.cell x c e;obtain⟨m,⟨g,h,i,a,b,_⟩,_⟩:=I.loc
 grind
theorem Inv.funs(I:Inv X pins σ H s):s.heap.FunFrames X.base X.outer:=by
 have all:∀l,(∀b∈frs l,b∈X.fs)->X.s₀.heap.FunFrames X.base l->s.heap.FunFrames X.base l:=by
  intro l
  induction l with
  | nil=>intro _ _;trivial
  | cons env r g=>
    intro f h;obtain⟨i,⟨L,o,a,j,m,n⟩,p⟩:=h;have c:=f L (by unfold frs;rw[Y3,a];exact Zm);obtain⟨q,e⟩:=I.base.slot L o m (I.ok.frf L c) c λz=>I.ok.exfs L z c
    exact%[i,%[L,_,a,j,e|n]|g (λb d=>f b (by unfold frs;rw[Y3,a];exact Zk _ d)) p]
 exact all X.outer (λ_ d=>d) I.ok.funs
theorem Inv.stack(I:Inv X pins σ H s):s.heap.FunFrames X.base X.stack:=by
 rcases I.ok.stk with e|⟨e,a⟩
 .exact e▸I.funs
 .rw[e];obtain⟨m,b,_⟩:=I.loc;exact .cons (by rw[I.ok.kind];decide) a b (Heap.get?_none_of_le (Yj I.ok.bsz I.ok.above)) I.funs
theorem Inv.stkSub(I:Inv X pins σ H s):∀b∈frs X.stack,b∈X.env.locals::X.fs:=λb a=>by
 rcases I.ok.stk with e|⟨e,c⟩
 .rw[e]at a;exact Zk _ a
 .rw[e]at a;unfold frs at a;rw[Y3,c]at a;exact a
theorem Inv.stkFree(I:Inv X pins σ H s):∀b∈frs X.stack,H b=none:=λb a=>by
 rcases mem_cons.mp (I.stkSub b a)with e|a
 .exact e▸I.free
 .obtain⟨_,o,c,_⟩:=I.ok.funs.mem a;exact I.base.free b o c (I.ok.frf b a) λz=>I.ok.exfs b z a
theorem Inv.step{d':Drawn}{ch:List Addr}(I:Inv X pins σ H s)
 (f:∀b∈ch,(b∈X.ex\/X.s₀.heap.objs.size<=b)/\b≠X.env.locals/\(∀x c,X.env.cells.lookup x=some c->c≠b)/\∀p∈X.pn++pins,p.1≠b)
 (keep:∀b o,b≠X.env.locals->b∉X.fs->b∉ch->s.heap.get? b=some o->H b=none->h'.get? b=some o)
 (slot:∀b o,b≠X.env.locals->b∈X.fs->b∉ch->s.heap.get? b=some o->H b=none->∃E,h'.get? b=some {o with slots:=E}) (free:∀b o,b∉ch->s.heap.get? b=some o->H b=none->H' b=none)
 (there:∀b o,b∉ch->s.heap.get? b=some o->∃A,h'.get? b=some A)
 (tups:∀b xs,H b=some (.tup xs)->H' b=some (.tup xs)) (frzs:∀b o u,H b=some (.frz o u)->H' b=some (.frz o u)) (tbls:∀b ps,H b=some (.tbl ps)->∃more,H' b=some (.tbl (ps++more)))
 (Q:∀m,s.heap.Ns X.env.locals m->h'.Ns X.env.locals m) (G:HOk X.prog X.w H' h') (T:AllBare g'):
 Inv X pins σ H' {s with heap:=h',gens:=g',drawn:=d',toks:=t'}:=by
 have B:∀b o,X.s₀.heap.get? b=some o->b≠X.env.locals:=λb o e=>Zt (Zg (Zv e) I.ok.above)
 have j:∀b o,X.s₀.heap.get? b=some o->b∉X.ex->b∉ch:=λb o e a w=>by
  rcases(f b w).1 with z|z
  .exact a z
  .exact absurd (Zg (Zv e) z) (Xm _)
 have g:∀x c,X.env.cells.lookup x=some c->∀v,s.heap.IsCell c v->h'.IsCell c v:=λx c e v ⟨o,y,J⟩=>by
  have h:=λz=>(f c z).2.2.1 x c e rfl
  by_cases M:c∈X.fs
  .obtain⟨E,q⟩:=slot c o (I.cne x c e) M h y (I.freeC x c e);exact%[_,q|J]
  .exact%[o,keep c o (I.cne x c e) M h y (I.freeC x c e)|J]
 refine%[I.ok,I.os,T,%[λb o e n w a=>?_,λb o e n w a=>?_,λb o e n a=>?_,λb o e a=>?_,λb xs e=>tups b xs (I.base.tups b xs e),λb o xs e=>frzs b o xs (I.base.frzs b o xs e)|λb ps e=>?_],?_,λx c e=>?_,?_,λx c e=>?_,λp N=>?_,G|I.len]
 .exact keep b o (B b o e) w (j b o e a) (I.base.keep b o e n w a) (I.base.free b o e n a)
 .obtain⟨E,t⟩:=I.base.slot b o e n w a;obtain⟨L,C⟩:=slot b _ (B b o e) w (j b o e a) t (I.base.free b o e n a);exact%[L|C]
 .obtain⟨A,t⟩:=I.base.there b o e a;exact free b A (j b o e a) t (I.base.free b o e n a)
 .obtain⟨A,t⟩:=I.base.there b o e a;exact there b A (j b o e a) t
 .obtain⟨U,t⟩:=I.base.tbls b ps e;obtain⟨m2,C⟩:=tbls b _ t;exact%[U++m2|by rw[C,Array.append_assoc]]
 .obtain⟨m,Y,hl⟩:=I.loc;refine%[m,Q m Y|λi x v t C e3=>?_];obtain⟨u,r,l⟩:=hl i x v t C e3;refine%[u,r|?_];rcases l with l|⟨k,c,e,z⟩
  .exact .inl l
  .exact .inr %[k,c,e|g x c e _ z]
 .obtain⟨v,z⟩:=I.cell x c e;exact%[v|g x c e v z]
 .obtain⟨m,⟨o,_,_,y,_⟩,_⟩:=I.loc;exact free _ o (λz=>(f _ z).2.1 rfl) y I.free
 .obtain⟨v,o,y,J⟩:=I.cell x c e;exact free c o (λz=>(f c z).2.2.1 x c e rfl) y (I.freeC x c e)
 .obtain⟨e,n,ne,O,d⟩:=I.pin p N;have h:=λz=>(f p.1 z).2.2.2 p N rfl
  exact%[keep p.1 p.2 ne O h e n,free p.1 p.2 h e n,ne,O|d]
theorem Inv.un{t':Nat}(I:Inv X pins σ H s)(u:Un X.fs [] H H' s.heap h')(c:HOk X.prog X.w H' h'):Inv X pins σ H' {s with heap:=h',toks:=t'}:=by
 obtain⟨m,⟨o,p,q,h,r⟩,_⟩:=id I.loc;obtain⟨t,i⟩:=u.any h I.free ∅;exact I.step (ch:=[]) (λ_ z=>nomatch z) (λb o _ d _ e n=>u.keep b o e n d ∅) (λb o _ d _ e n=>u.slot b o e n d ∅) (λb o _ e n=>u.free b o e n ∅) (λb o _ e=>u.there b o e ∅) u.tups u.frzs u.tbls (λv j=>by
  obtain⟨w,f,g,a,l⟩:=j;rw[h]at a;cases a;exact%[_,f,g,i|l]) c I.bare
theorem Inv.call{d':Drawn}{ch:List Addr}(I:Inv X pins σ H s)(u:Un (frs X.stack) ch H H' s.heap h')(g:HOk X.prog X.w H' h')(q:AllBare g')
 (d:∀b∈ch,(b∈X.ex\/X.s₀.heap.objs.size<=b)/\b≠X.env.locals/\(∀x c,X.env.cells.lookup x=some c->c≠b)/\∀p∈X.pn++pins,p.1≠b):
 Inv X pins σ H' {s with heap:=h',gens:=g',drawn:=d',toks:=t'}:=by
 obtain⟨m,⟨o,y,A,l,r⟩,_⟩:=id I.loc;obtain⟨B,h⟩:=u.any l I.free λz=>(d _ z).2.1 rfl
 exact I.step d (λb o h t a e n=>u.keep b o e n (λz=>(mem_cons.mp (I.stkSub b z)).elim h t) a) (λb o _ _ a e n=>u.any e n a) (λb o a e n=>u.free b o e n a) (λb o a e=>u.there b o e a) u.tups u.frzs u.tbls (λC v=>by
  obtain⟨E,i,j,f,w⟩:=v;rw[l]at f;cases f;exact%[_,i,j,h|w]) g q
theorem Inv.turned{a:Addr}(I:Inv X pins σ H s)(k:∀b o,b≠a->s.heap.get? b=some o->h'.get? b=some o)(B:H a=none)(g:a≠X.env.locals)
 (h:a∈X.ex\/X.s₀.heap.objs.size<=a) (i:∀x c,X.env.cells.lookup x=some c->c≠a) (j:∀p∈X.pn++pins,p.1≠a):Inv X pins σ H {s with heap:=h',toks:=t'}:=by
 have f:∀b u,H b=some u->b≠a:=λb u e z=>by lia
 refine I.step (ch:=[a]) (λb l=>?_) (λb o _ _ d e _=>k b o (λz=>d (by simp[z])) e) (λb o _ _ d e _=>%[o.slots|k b o (λz=>d (by simp[z])) e]) (λ_ _ _ _ n=>n)
  (λb o d e=>%[o|k b o (λz=>d (by simp[z])) e]) (λ_ _ e=>e) (λ_ _ _ e=>e) (λb ps e=>%[#[]|by rw[e];simp]) (λm t=>?_) (λb u e=>?_) I.bare
 .have e:=by simpa using l
  subst e;exact%[h,g,i|j]
 .obtain⟨o,w,y,A,r⟩:=t;exact%[o,w,y,k _ o (Ne.symm g) A|r]
 .refine(I.hok b u e).stay (λc v d q=>k c v ?_ q) (λ_ q=>q) λ_ _ q=>q
  rcases d with z|z
  .exact z▸f b u e
  .exact f c _ z
theorem Inv.tok(I:Inv X pins σ H s)(t:Nat):Inv X pins σ H {s with toks:=t}:=I.un Un.refl I.hok
theorem Inv.kept(I:Inv X pins σ H s)(k:∀b u,s.heap.get? b=some u->h'.get? b=some u):Inv X pins σ H {s with heap:=h',toks:=t'}:=I.un (Un.kept k) (I.hok.kept k)
theorem Inv.laid{a:Addr}{o:HO}{t':Nat}(I:Inv X pins σ H s)(k:∀b u,s.heap.get? b=some u->h'.get? b=some u)(c:⇑s<=a)(new:dg X.prog X.w (upd H a o) h' a o):
 Inv X pins σ (upd H a o) {s with heap:=h',toks:=t'}:=I.un (Un.laid k c (I.hok.fresh c)) (I.hok.laid k c new)
theorem Inv.write(I:Inv X pins σ H s)(c:Mut (H x))(d:e=x\/H e=some (.own x))(k:∀b u,b≠e->s.heap.get? b=some u->h'.get? b=some u)(a:∃u,h'.get? e=some u)
 (new:dg X.prog X.w (upd H x o) h' x o):Inv X pins σ (upd H x o) {s with heap:=h',toks:=t'}:=I.un (Un.write c d k a) (I.hok.write c d k a new)
theorem Inv.pins_of(I:Inv X pins σ H s)(h:∀p∈a,s.heap.get? p.1=some p.2/\H p.1=none/\p.1≠X.env.locals/\p.1∉X.fs/\∀v,p.2.data≠ .cell v):Inv X a σ H s:=
 %[I.ok,I.os,I.bare,I.base,I.loc,I.cell,I.free,I.freeC,λp b=>(Xp b).elim (λz=>I.pin p (Yw _ z)) (h p),I.hok|I.len]
theorem mr{N:ZB}(c:N.Nodup){i j:Nat}{x:Str}(a:N[i]? =some x)(b:N[j]? =some x):i=j:=by
 obtain⟨f,d⟩:=Xo a;obtain⟨g,e⟩:=Xo b;exact(List.getElem_inj c).mp (d.trans e.symm)
theorem vS{A:Around}{E:ZD}{i:Nat}{x:Str}{v:V}{u:Value}{Q:Unit->Shared->Prop}(I:Inv X pins σ H s)(hN:X.N.Nodup)(hi:X.N[i]? =some x)(w:Loc X.env.scope x)(r:aL v u)
 (h:∀s',Inv X pins (σ.set i (some v)) H s'->(∃a,SameBut a s.heap s'.heap/\(a=X.env.locals\/X.env.cells.lookup x=some a))->Q () s') (hf:X.fn x=true\/X.env.scope.names.lookup x=some .local):wpAny M A (storeName X.env x u) Q E s:=by
 obtain⟨m,hn,hl⟩:=id I.loc;have G:i<σ.length:=I.len▸(Xo hi).1;have cne:=I.cne;have g:∀{a:Addr} {h':Heap},(∃o,s.heap.get? a=some o/\H a=none)->SameBut a s.heap h'->HOk X.prog X.w H h':=λ{a h'} ha f b ob e=>by
  obtain⟨_,_,B⟩:=ha;refine(I.hok b ob e).stay (λc w' t q=>(f.2 c ?_).trans q) (λ_ q=>q) λ_ _ q=>q
  rintro rfl;rcases t with rfl|t
  .rw[B]at e;cases e
  .rw[B]at t;cases t
 rcases w with J|J
 .refine wpAny_storeName_local J hn (λh' ac f=>?_) (by rw[I.ok.kind];rfl);obtain⟨oL,_,_,ag,_⟩:=id hn;refine h _ %[I.ok,I.os,I.bare,%[λb o e n L w=>?_,λb o e n L w=>?_,I.base.free,λb o e w=>?_,I.base.tups,I.base.frzs|I.base.tbls],%[_,ac|λj y v' l C e3=>?_],λy c e=>?_,I.free,I.freeC,λp hp=>?_,g %[oL,ag|I.free] f|by simpa using I.len] %[_,f|.inl rfl]
  .exact(f.2 b (Zt (Zg (Zv e) I.ok.above))).trans (I.base.keep b o e n L w)
  .obtain⟨sl,l⟩:=I.base.slot b o e n L w;exact%[sl|(f.2 b (Zt (Zg (Zv e) I.ok.above))).trans l]
  .obtain⟨o',l⟩:=I.base.there b o e w;exact%[o'|(f.2 b (Zt (Zg (Zv e) I.ok.above))).trans l]
  .by_cases N:j=i
   .subst N;rw[hi]at l;cases l;rw[List.getElem?_set_self G]at C;cases C;exact%[u,r|.inl %[J|by simp]]
   .rw[List.getElem?_set_ne (Ne.symm N)]at C;obtain⟨u',r',q⟩:=hl j y v' l C e3;refine%[u',r'|?_];rcases q with⟨k,e⟩|⟨k,c,e,z⟩
    .refine .inl %[k|?_];have:y≠x:=λe=>N (mr hN l (e▸hi))
     simp[this,e]
    .exact .inr %[k,c,e|z.sameBut f (cne y c e)]
  .obtain⟨w',z⟩:=I.cell y c e;exact%[w'|z.sameBut f (cne y c e)]
  .obtain⟨e,n,ne,nf,d⟩:=I.pin p hp;exact%[(f.2 p.1 ne).trans e,n,ne,nf|d]
 .have O:X.fn x=true:=by
   rcases hf with z|z
   .exact z
   .rw[z]at J;cases J
  obtain⟨c,t⟩:=I.ok.has x (.inl J);obtain⟨w',z⟩:=I.cell x c t;refine wpAny_storeName_cell I.ok.kind J t z (λh' T f=>?_);obtain⟨oc,U,Y⟩:=id z;refine h _ %[I.ok,I.os,I.bare,%[λb o e n L w=>?_,λb o e n L w=>?_,I.base.free,λb o e w=>?_,I.base.tups,I.base.frzs|I.base.tbls],%[m,hn.sameBut f (Ne.symm (cne x c t))|λj y v' l C e3=>?_],λy c' e=>?_,I.free,I.freeC,λp hp=>?_,g %[oc,U|I.freeC x c t] f|by simpa using I.len] %[c,f|.inr t]
  .exact(f.2 b (Zt (Zg (Zv e) (I.ok.cab x c O t)))).trans (I.base.keep b o e n L w)
  .obtain⟨sl,l⟩:=I.base.slot b o e n L w;exact%[sl|(f.2 b (Zt (Zg (Zv e) (I.ok.cab x c O t)))).trans l]
  .obtain⟨o',l⟩:=I.base.there b o e w;exact%[o'|(f.2 b (Zt (Zg (Zv e) (I.ok.cab x c O t)))).trans l]
  .by_cases N:j=i
   .subst N;rw[hi]at l;cases l;rw[List.getElem?_set_self G]at C;cases C;exact%[u,r|.inr %[.inl J,c,t|T]]
   .rw[List.getElem?_set_ne (Ne.symm N)]at C;obtain⟨u',r',q⟩:=hl j y v' l C e3;refine%[u',r'|?_];rcases q with q|⟨k,c',e,z'⟩
    .exact .inl q
    .refine .inr %[k,c',e|z'.sameBut f ?_];rintro rfl;exact N (mr hN l (I.ok.inj _ _ _ e t▸hi))
  .by_cases ab:c'=c
   .subst ab;exact%[_|T]
   .obtain⟨w2,z2⟩:=I.cell y c' e;exact%[w2|z2.sameBut f ab]
  .obtain⟨e,n,ne,nf,d⟩:=I.pin p hp;refine%[(f.2 p.1 ?_).trans e,n,ne,nf|d];intro q;rw[q,U]at e;exact d w' ((Za e)▸Y)
theorem mt(I:Inv X pins σ H s)(a:X.N.Nodup)(hi:X.N[i]? =some x)(b:Loc X.env.scope x)(r:aL v u)
 (h:∀s',Inv X pins (σ.set i (some v)) H s'->Q () s') (c:X.fn x=true\/X.env.scope.names.lookup x=some .local):wpAny M A (storeName X.env x u) Q E s:=
 vS I a hi b r (λs' d _=>h s' d) c
theorem Inv.call'(I:Inv X pins σ H s)(e:s'.os=s.os)(u:Un (frs X.stack) ch H H' s.heap s'.heap)(a:HOk X.prog X.w H' s'.heap)(f:AllBare s'.gens)
 (d:∀b∈ch,(b∈X.ex\/X.s₀.heap.objs.size<=b)/\b≠X.env.locals/\(∀x c,X.env.cells.lookup x=some c->c≠b)/\∀p∈X.pn++pins,p.1≠b):Inv X pins σ H' s':=by
 obtain⟨h',g',d',t',g⟩:=s';subst e;exact I.call u a f d
end
noncomputable abbrev XK:=Value->ZI->Hp->Prop
noncomputable abbrev St:=List (Option V)
noncomputable abbrev VK:=V->Hp->Prop
noncomputable abbrev TE:=St->Hp->VK->Prop
noncomputable abbrev TT:=St->Hp->(Bool->Hp->Prop)->Prop
noncomputable abbrev TA:=St->Hp->(List V->Hp->Prop)->Prop
structure lK where
 nx:St->Hp->Prop
 rt:VK
 bk:St->Hp->Prop:=λ_ _=>False
 ct:St->Hp->Prop:=λ_ _=>False
noncomputable abbrev TS:=lK->St->Hp->Prop
def EP(X:Cx)(pins:ZE)(b:St)(Q:VK)(u:Value)(s':Shared):Prop:=∃v a,Inv X pins b a s'/\aL v u/\Q v a
def TP(X:Cx)(pins:ZE)(c:St)(Q:Bool->Hp->Prop)(b:Bool)(s':Shared):Prop:=∃a,Inv X pins c a s'/\Q b a
def AP(X:Cx)(pins:ZE)(b:St)(Q:List V->Hp->Prop)(us:ZF)(s':Shared):Prop:=∃vs a,Inv X pins b a s'/\aF vs us/\Q vs a
def SP(X:Cx)(pins:ZE)(D:lK)(f:Flow)(s':Shared):Prop:=
 match f with
 | .next=>∃a b,Inv X pins a b s'/\D.nx a b
 | .brk=>∃a b,Inv X pins a b s'/\D.bk a b
 | .cont=>∃a b,Inv X pins a b s'/\D.ct a b
 | .ret u=>∃v a b,Inv X pins a b s'/\aL v u/\D.rt v b
def PE(X:Cx)(e:Expr)(t:TE):Prop:=
 ∀pins s (a:St) H Q,Inv X pins a H s->t a H Q->(~~~X) (eval e X.env) (EP X pins a Q) X.xe s
def PT(X:Cx)(e:Expr)(t:TT):Prop:=
 ∀pins s (a:St) H Q,Inv X pins a H s->t a H Q->(~~~X) (isTrue e X.env (eval e X.env)) (TP X pins a Q) X.xe s
def PW(X:Cx)(e:Expr)(t:TT):Prop:=
 ∀a pins s (b:St) H Q,Inv X pins b H s->t b H Q->(~~~X) (isTrue e X.env a) (TP X pins b Q) X.xe s
theorem PW.pt{X:Cx}(h:PW X e t):PT X e t:=h _
def PA(X:Cx)(b:List Expr)(t:TA):Prop:=
 ∀pos pins s (a:St) H Q,Inv X pins a H s->t a H Q->(~~~X) (spliced (backTo pos (starEach b X.env))) (AP X pins a Q) X.xe s
def PS(X:Cx)(st:Stmt)(t:TS):Prop:=
 ∀pins s (a:St) H D,Inv X pins a H s->t D a H->(~~~X) (exec st X.env) (SP X pins D) X.xe s
def PSs(X:Cx)(st:List Stmt)(t:TS):Prop:=
 ∀pins s (a:St) H D,Inv X pins a H s->t D a H->(~~~X) (execs st X.env) (SP X pins D) X.xe s
theorem thn{b:Type}{t:Sem b}{Q c:b->Shared->Prop}{M:Model}{A:Around}{E:ZD}{s:Shared}(h:wpAny M A t Q E s)(d:∀a s,Q a s->c a s):wpAny M A t c E s:=wpAny_mono h d λ_ _ x=>x
theorem thP{c d:Type}{t:Sem c}{X:Cx}{pins:ZE}{e:St}{R:d->c->Prop}{Q:d->Hp->Prop}{f:c->Shared->Prop}{M:Model}{A:Around}{E:ZD}{s:Shared}(h:wpAny M A t (λa s=>∃v b,Inv X pins e b s/\R v a/\Q v b) E s)(g:∀a s v b,Inv X pins e b s->R v a->Q v b->f a s):wpAny M A t f E s:=wpAny_mono h (λa s ⟨v,b,i,r,q⟩=>g a s v b i r q) λ_ _ x=>x
theorem thT{c:Type}{t:Sem c}{X:Cx}{pins:ZE}{d:St}{Q:c->Hp->Prop}{e:c->Shared->Prop}{M:Model}{A:Around}{E:ZD}{s:Shared}(h:wpAny M A t (λa s=>∃b,Inv X pins d b s/\Q a b) E s)(f:∀a s b,Inv X pins d b s->Q a b->e a s):wpAny M A t e E s:=wpAny_mono h (λa s ⟨b,i,q⟩=>f a s b i q) λ_ _ x=>x
section
variable{X:Cx}
def asI(x:V)(f:Int->Prop):Prop:=match x with| .int i=>f i|_=>False
def asB(x:V)(f:Bool->Prop):Prop:=match x with| .bl i=>f i|_=>False
def asR(x:V)(f:Addr->Prop):Prop:=match x with| .ref i=>f i|_=>False
theorem Ej:asI (.int i) f=f i:=rfl
theorem Ek:asB (.bl i) f=f i:=rfl
theorem El:asR (.ref i) f=f i:=rfl
theorem iz{x:V}{f:Int->Prop}(h:asI x f):∃i,x= .int i/\f i:=by
 cases x<;> first|exact⟨_,rfl,h⟩|exact h.elim
theorem oC{x:V}{f:Bool->Prop}(h:asB x f):∃i,x= .bl i/\f i:=by
 cases x<;> first|exact⟨_,rfl,h⟩|exact h.elim
theorem fW{x:V}{f:Addr->Prop}(h:asR x f):∃i,x= .ref i/\f i:=by
 cases x<;> first|exact⟨_,rfl,h⟩|exact h.elim
theorem Em:asI x f=∃i,x= .int i/\f i:=propext %[iz|λ⟨_,e,q⟩=>by subst e;exact q]
theorem En:asB x f=∃i,x= .bl i/\f i:=propext %[oC|λ⟨_,e,q⟩=>by subst e;exact q]
theorem Eo:asR x f=∃i,x= .ref i/\f i:=propext %[fW|λ⟨_,e,q⟩=>by subst e;exact q]
def nQ:Nat->TE
 | 0,some v::_,H,Q=>Q v H
 | i+1,_::a,H,Q=>nQ i a H Q
 | _,_,_,_=>False
theorem B9:nQ 0 (some v::a) H Q=Q v H:=rfl
theorem Ca:nQ (i+1) (o::a) H Q=nQ i a H Q:=rfl
theorem xN:∀{i:Nat} {a:St},nQ i a H Q->∃v,a[i]? =some (some v)/\Q v H
 | 0,some v::_,h=>%[v,rfl|h]
 | 0,none::_,h=>h.elim
 | 0,[],h=>h.elim
 | _+1,[],h=>h.elim
 | i+1,_::a,h=>xN (i:=i) h
def tC(v:V):TE:=λ_ H Q=>Q v H
theorem xO(n:X.N[i]? =some x)(o:Vis X.env.scope x)(f:(x==("__debug__":Str))=false)(g:(x==("__classdict__":Str))=false):PE X (.Name x pos) (nQ i):=by
 intro pins s p H Q I h;obtain⟨v,e,h⟩:=xN h;obtain⟨m,q,t⟩:=I.loc;obtain⟨u,r,l⟩:=t i x v n e o;have b:EP X pins p Q u s:=%[v,H,I,r|h]
 rcases l with⟨d,w⟩|⟨d,c,j,a⟩
 .exact wpAny_Name (wpAny_loadName_local I.ok.kind d q w b) f
 .rcases d with d|d
  .exact wpAny_Name (wpAny_loadName_cell I.ok.kind d j a b) f
  .exact wpAny_Name (wpAny_loadName_free I.ok.kind d j a b g) f
theorem Cb{i j pos}:PE X (.Constant (.int i) j pos) (tC (.int i)):=λ_ _ _ H _ I h=>wpAny_Constant_int %[.int i,H,I.tok _,%[_|rfl]|h]
theorem Ep{b j pos}:PE X (.Constant (.bool b) j pos) (tC (.bl b)):=λ_ _ _ H _ I h=>Constant_bool %[.bl b,H,I,rfl|h]
theorem Cc{j pos}:PE X (.Constant .none j pos) (tC .non):=λ_ _ _ H _ I h=>Constant_none %[.non,H,I,rfl|h]
theorem Cd{x j pos}:PE X (.Constant (.str x) j pos) (tC (.str x)):=λ_ _ _ H _ I h=>Calls.Constant_str %[.str x,H,I.tok _,%[_|rfl]|h]
def Gl(X:Cx)(x:Str):Prop:=X.env.kindOf x=some .globalImplicit
theorem pR(I:Inv X pins d H s)(a:Gl X x)(b:X.mg x=some u)(h:Q u s)
 (c:(x==("__debug__":Str))=false):(~~~X) (eval (.Name x pos) X.env) Q E s:=
 Calls.Name_function_global I.ok.kind a (Calls.loadGlobal_global (I.ok.glob▸I.mod.glob.keeps I.bk) b h) c
theorem iA(I:Inv X pins i H s)(a:Gl X x)(b:X.mg x=none)(c:bootBuiltins x=some u)(h:Q u s)
 (d:x≠"__name__":=by decide) (e:(x==("__debug__":Str))=false:=by decide):(~~~X) (eval (.Name x pos) X.env) Q E s:=by
 obtain⟨j,f,g⟩:=I.mod.blt;exact Calls.Name_function_global I.ok.kind a (Calls.loadGlobal_builtin (I.ok.glob▸I.mod.glob.keeps I.bk) b (I.ok.blt▸f.keeps I.bk) ((g x d).trans c) h) e
theorem Aj(a:Gl X x)(b:X.mg x=some u)(r:aL v u)(c:(x==("__debug__":Str))=false):PE X (.Name x pos) (tC v):=
 λ_ _ _ H _ I h=>pR I a b %[v,H,I,r|h] c
theorem Ak(a:Gl X x)(b:X.mg x=none)(c:bootBuiltins x=some u)(r:aL v u)(d:x≠"__name__")(e:(x==("__debug__":Str))=false):PE X (.Name x pos) (tC v):=
 λ_ _ _ H _ I h=>iA I a b c %[v,H,I,r|h] d e
variable{a b:Expr}{ta tb:TE}{pos:Pos}
def PC(X:Cx)(op:CmpOp)(a b:Expr)(t:TE):Prop:=
 ∀pins s (e:St) H Q,Inv X pins e H s->t e H Q->
  (~~~X) (eval a X.env) (λv c=>(~~~X) (eval b X.env) (λu d=>(~~~X) (compareOp op v u) (EP X pins e Q) X.xe d) X.xe c) X.xe s
theorem Er(b:Expr)(h:op≠ .In)(e:op≠ .NotIn):behindInMarks op b=false:=by
 have c:(op==CmpOp.In)=false:=by lia
 have d:(op==CmpOp.NotIn)=false:=by lia
 cases b<;> simp[behindInMarks,c,d]
def tB(t:TE):TT:=λd H Q=>t d H λx e=>asB x λc=>Q c e
theorem xP{op:CmpOp}(h:PC X op a b t)(e:behindInMarks op b=false):PT X (.Compare a [op] [b] pos) (tB t):=by
 intro pins s f H Q I hw;refine wpAny_isTrue_Compare1 (thn (h pins s f H _ I hw) λv n e=>thn e λu o g=>thn g λc p ⟨x,i,j,l,m⟩=>?_) e;obtain⟨d,rfl,q⟩:=oC m;cases l;exact wpAny_truthy_bool %[i,j|q]
variable{tA tB':TT}{rest:List Expr}
def Al(t u:TT):TT:=λd H Q=>t d H λc e=>if c=true then u d e Q else Q false e
def tOr(t u:TT):TT:=λd H Q=>t d H λc e=>if c=true then Q true e else u d e Q
def Ce(t:TT):TT:=λd H Q=>t d H λc e=>Q (!c) e
theorem Am(d:PT X a tA):PW X (.BoolOp .And [a] pos) tA:=by
 intro g pins s f H Q I h;refine isTrue_and (thn (d pins s f H Q I h) λc i e=>?_);cases c with
 | true=>exact isTrue_and_nil e
 | false=>exact e
theorem Cf(d:PT X a tA):PW X (.BoolOp .Or [a] pos) tA:=by
 intro g pins s f H Q I h;refine isTrue_or (thn (d pins s f H Q I h) λc i e=>?_);cases c with
 | false=>exact isTrue_or_nil e
 | true=>exact e
theorem Cg(i:PT X a tA)(j:PW X (.BoolOp .And (b::rest) pos) tB'):PW X (.BoolOp .And (a::b::rest) pos) (Al tA tB'):=by
 intro l pins s d H Q I h;refine isTrue_and (thT (i pins s d H _ I h) λc m e f g=>?_);cases c with
 | true=>exact j l pins m d e Q f g
 | false=>exact%[e,f|g]
theorem Es(i:PT X a tA)(j:PW X (.BoolOp .Or (b::rest) pos) tB'):PW X (.BoolOp .Or (a::b::rest) pos) (tOr tA tB'):=by
 intro l pins s d H Q I h;refine isTrue_or (thT (i pins s d H _ I h) λc m e f g=>?_);cases c with
 | true=>exact%[e,f|g]
 | false=>exact j l pins m d e Q f g
theorem Ch(c:PT X a tA):PT X (.UnaryOp .Not a pos) (Ce tA):=by
 intro pins s d H Q I h;exact isTrue_not (c pins s d H _ I h)
def xQ(ta tb:TE):TE:=λd H Q=>ta d H λx e=>asB x λc=>if c=true then tb d e Q else Q (.bl false) e
def Ci(ta tb:TE):TE:=λd H Q=>ta d H λx e=>asB x λc=>if c=true then Q (.bl true) e else tb d e Q
theorem Cj{op}(h:PE X a t):PE X (.BoolOp op [a] pos) t:=λpins s c H Q I hw=>BoolOp_one (h pins s c H Q I hw)
theorem Ck(i:PE X a ta)(j:PE X (.BoolOp .And (b::rest) pos) tb):PE X (.BoolOp .And (a::b::rest) pos) (xQ ta tb):=by
 intro pins s e H Q I h;refine BoolOp_and (thP (i pins s e H _ I h) λv l x f g m d=>?_);obtain⟨c,rfl,d⟩:=oC d;cases m;refine wpAny_truthy_bool ?_;cases c with
 | true=>exact j pins l e f Q g d
 | false=>exact%[.bl false,f,g,rfl|d]
theorem Et(i:PE X a ta)(j:PE X (.BoolOp .Or (b::rest) pos) tb):PE X (.BoolOp .Or (a::b::rest) pos) (Ci ta tb):=by
 intro pins s e H Q I h;refine BoolOp_or (thP (i pins s e H _ I h) λv l x f g m d=>?_);obtain⟨c,rfl,d⟩:=oC d;cases m;refine wpAny_truthy_bool ?_;cases c with
 | false=>exact j pins l e f Q g d
 | true=>exact%[.bl true,f,g,rfl|d]
end
def SqL(K:ZA)(H:Hp)(a:Addr)(xs:List V):Prop:=
 Rd H a (.lst xs)\/
  ∃o its n,K.lookup a=some o/\o.cls= .type "list"/\o.dict=none/\o.data= .seq its n/\its.size<=sizeLine/\aF xs its.toList
def SqT(K:ZA)(H:Hp)(a:Addr)(xs:List V):Prop:=
 Rd H a (.tup xs)\/
  ∃o its n,K.lookup a=some o/\o.cls= .type "tuple"/\o.data= .seq its n/\its.size<=sizeLine/\aF xs its.toList
noncomputable def absV:Value->Option V
 | .none=>some .non
 | .bool b=>some (.bl b)
 | .int i _=>some (.int i)
 | .str x _=>some (.str x)
 | .bytes b _=>some (.byt b)
 | .float b _=>some (.flt b)
 | .ref a=>some (.ref a)
 | .type n=>some (.ty n)
 | _=>none
theorem aL.abs(r:aL x u):absV u=some x:=by
 cases x with
 | non=>cases r;rfl
 | bl _=>cases r;rfl
 | int _=>obtain⟨t,rfl⟩:=r;rfl
 | str _=>obtain⟨t,rfl⟩:=r;rfl
 | byt _=>obtain⟨t,rfl⟩:=r;rfl
 | flt _=>obtain⟨t,rfl⟩:=r;rfl
 | ref _=>cases r;rfl
 | ty _=>cases r;rfl
theorem aL.inj(r:aL x u)(q:aL y u):x=y:=Za (r.abs.symm.trans q.abs)
theorem aF.inj:∀{xs ys:List V} {us:ZF},aF xs us->aF ys us->xs=ys
 | _,_,_,.nil,.nil=>rfl
 | _,_,_,.cons r t,.cons a t'=>by rw[r.inj a,aF.inj t t']
section
#version
variable{a:Addr}{xs ys:List V}
theorem SqL.of{K:ZA}(h:H a=some (.lst xs)):SqL K H a xs:= .inl (.inl h)
theorem SqT.of{K:ZA}(h:H a=some (.tup xs)):SqT K H a xs:= .inl (.inl h)
theorem Inv.list(I:Inv X pins σ H s)(h:SqL X.K H a xs):∃its:ZF,aF xs its/\PlainL s.heap a its.toArray/\xs.length<=sizeLine:=by
 rcases h with h|⟨o,its,n,b,c,d,f,g,r⟩
 .obtain⟨z,its,n,r,e⟩:=h.ok I.hok;exact%[its,r,%[_,n,e,rfl,rfl|rfl]|z]
 .refine%[its.toList,r,%[o,n,I.kIn a o b,c,d|f]|?_];have e:=r.length
  simp_all
theorem Inv.tuple(I:Inv X pins σ H s)(h:SqT X.K H a xs):∃its:ZF,aF xs its/\IsTup s.heap a its.toArray/\xs.length<=sizeLine:=by
 rcases h with h|⟨o,its,n,b,c,d,f,r⟩
 .obtain⟨z,its,r,p⟩:=h.ok I.hok;exact%[its,r,p|z]
 .refine%[its.toList,r,%[o,I.kIn a o b,c,n|d]|?_];have e:=r.length;simp only[Zb]at e
  lia
theorem Inv.list_inj(I:Inv X pins σ H s)(h:SqL X.K H a xs)(h':SqL X.K H a ys):xs=ys:=by
 obtain⟨its,r,⟨o,n,e,_,_,d⟩,_⟩:=I.list h;obtain⟨its',c,⟨g,i,b,_,_,d'⟩,_⟩:=I.list h';rw[e]at b;cases b;rw[d]at d';injection d' with f _
 have:=congrArg Array.toList f;subst this;exact r.inj c
theorem Inv.tuple_inj(I:Inv X pins σ H s)(h:SqT X.K H a xs)(h':SqT X.K H a ys):xs=ys:=by
 obtain⟨its,r,⟨o,e,_,n,d⟩,_⟩:=I.tuple h;obtain⟨its',c,⟨g,b,_,i,d'⟩,_⟩:=I.tuple h';rw[e]at b;cases b;rw[d]at d';injection d' with f _
 have:=congrArg Array.toList f;subst this;exact r.inj c
end
noncomputable abbrev Cx.wish(X:Cx)(E:ZD):Cx:={X with xe:=E}
noncomputable abbrev Cx.nox(X:Cx):Cx:=X.wish λ_ _=>False
theorem Cx.Ok.wish{X:Cx}(ok:X.Ok)(E:ZD):(X.wish E).Ok:=
 %[ok.mod,ok.kind,ok.glob,ok.blt,ok.above,ok.inj,ok.has,ok.cab,ok.hd,ok.frames,ok.stk,ok.exf,ok.bs,ok.bsz,ok.noex,ok.exfs,ok.funs|ok.frf]
theorem Cx.Ok.unwish{X:Cx}{E:ZD}(ok:(X.wish E).Ok):X.Ok:=
 %[ok.mod,ok.kind,ok.glob,ok.blt,ok.above,ok.inj,ok.has,ok.cab,ok.hd,ok.frames,ok.stk,ok.exf,ok.bs,ok.bsz,ok.noex,ok.exfs,ok.funs|ok.frf]
section
#version
variable{E:ZD}
theorem Inv.wish(I:Inv X pins σ H s)(E:ZD):Inv (X.wish E) pins σ H s:=%[I.ok.wish E,I.os,I.bare,I.base,I.loc,I.cell,I.free,I.freeC,I.pin,I.hok|I.len]
theorem Inv.unwish(I:Inv (X.wish E) pins σ H s):Inv X pins σ H s:=%[I.ok.unwish,I.os,I.bare,I.base,I.loc,I.cell,I.free,I.freeC,I.pin,I.hok|I.len]
theorem SP.unwish{D:lK}{f:Flow}{s':Shared}(h:SP (X.wish E) pins D f s'):SP X pins D f s':=by
 cases f with
 | next=>obtain⟨a,b,I,q⟩:=h;exact%[a,b,I.unwish|q]
 | brk=>obtain⟨a,b,I,q⟩:=h;exact%[a,b,I.unwish|q]
 | cont=>obtain⟨a,b,I,q⟩:=h;exact%[a,b,I.unwish|q]
 | ret u=>obtain⟨v,a,b,I,r,q⟩:=h;exact%[v,a,b,I.unwish,r|q]
theorem PSs.nox{st:List Stmt}(h:PSs X.nox st t):PSs X st t:=λpins s σ H D I hw=>
 wpAny_mono (h pins s σ H D (I.wish _) hw) (λ_ _ q=>q.unwish) λ_ _ z=>False.elim z
end
section
variable{X:Cx}{st:Stmt}{rest:List Stmt}{t u:TS}{e:Expr}{te:TE}{pos:Pos}
def xR:TS:=λD a H=>D.nx a H
def bv(t u:TS):TS:=λD a H=>t {D with nx:=u D} a H
theorem An:PSs X [] xR:=λ_ _ a H _ I h=>wpAny_execs_nil %[a,H,I|h]
theorem xS(b:PS X st t)(c:PSs X rest u):PSs X (st::rest) (bv t u):=by
 intro pins s d H D I h;refine wpAny_execs_cons (thn (b pins s d H _ I h) λf g q=>?_);cases f with
 | next=>
   obtain⟨a,i,j,q⟩:=q;exact c pins g a i D j q
 | ret v=>exact q
 | brk=>exact q
 | cont=>exact q
theorem Ao(a:PS X st t):PSs X [st] t:=by
 intro pins s b H D I h;refine wpAny_execs_cons (thn (a pins s b H D I h) λf c q=>?_);cases f with
 | next=>exact wpAny_execs_nil q
 | ret v=>exact q
 | brk=>exact q
 | cont=>exact q
theorem Inv.quiet{pins:List _}{a:St}{H:Hp}{s:Shared}(I:Inv X pins a H s):interactive X.env=false:=by simp[interactive,I.ok.kind]
def jJ(te:TE):TS:=λD a H=>te a H λ_ b=>D.nx a b
theorem Ap(b:PE X e te)(c:swapsWith e none pos.line X.env=pure false):PS X (.Expr e pos) (jJ te):=by
 intro pins s a H D I h;exact wpAny_Expr_any (thP (b pins s a H _ I h) λv i x d f j g=>%[a,d,f|g]) I.quiet c
def jd(te:TE):TS:=λD a H=>te a H D.rt
theorem Cl(b:PE X e te):PS X (.Return (some e) pos) (jd te):=by
 intro pins s a H D I h;exact wpAny_Return_some (thP (b pins s a H _ I h) λv i x c d f g=>%[x,a,c,d,f|g])
def lL(c:TT)(t u:TS):TS:=λD a H=>c a H λb d=>if b=true then t D a d else u D a d
theorem Eu{c:Expr}{a b:List Stmt}(m:PT X c n)(o:PSs X a t)(p:PSs X b u):PS X (.If c a b pos) (lL n t u):=by
 intro pins s f H D I h;refine wpAny_If (thT (m pins s f H _ I h) λd g i j l=>?_);cases d with
 | true=>exact o pins g f i D j l
 | false=>exact p pins g f i D j l
def xT:TS:=λ_ _ _=>False
theorem xU:PS X st xT:=λ_ _ _ _ _ _ h=>h.elim
end
noncomputable abbrev TG:=V->St->Hp->(St->Hp->Prop)->Prop
noncomputable abbrev TGs:=List V->St->Hp->(St->Hp->Prop)->Prop
def PG(X:Cx)(a:Expr)(t:TG):Prop:=
 ∀pins s (c:St) H v u Q,Inv X pins c H s->aL v u->t v c H Q->
  (~~~X) (assign a X.env u) (λ_ s'=>∃b d,Inv X pins b d s'/\Q b d) X.xe s
def PGs(X:Cx)(ts:List Expr)(t:TGs):Prop:=
 ∀pins s (b:St) H vs us Q,Inv X pins b H s->aF vs us->t vs b H Q->
  (~~~X) (assignInOrder ((assignEach ts X.env).map (·.2)) us) (λ_ s'=>∃a c,Inv X pins a c s'/\Q a c) X.xe s
section
variable{X:Cx}{pos:Pos}
def jm(i:Nat):TG:=λv a H Q=>Q (a.set i (some v)) H
theorem Aq(a:X.N.Nodup)(hi:X.N[i]? =some x)(b:Loc X.env.scope x)(c:X.fn x=true\/X.env.scope.names.lookup x=some .local):PG X (.Name x pos) (jm i):=by
 intro pins s e H v u Q I r h;exact wpAny_assign_Name (mt I a hi b r (λs' d=>%[_,H,d|h]) c)
def Cm:TGs:=λvs a H Q=>vs=[]/\Q a H
def xV(t:TG)(u:TGs):TGs:=λvs b H Q=>∃v r,vs=v::r/\t v b H λa c=>u r a c Q
theorem Ar:PGs X [] Cm:=by
 intro pins s a H vs us Q I r h;obtain⟨e,h⟩:=h;exact assignInOrder_nil %[a,H,I|h]
theorem xW{e:Expr}{u:TGs}(c:PG X e t)(d:PGs X a u)
 (f:(assignEach (e::a) X.env).map (·.2)=assign e X.env::(assignEach a X.env).map (·.2)):PGs X (e::a) (xV t u):=by
 intro pins s g H vs us Q I r h;obtain⟨v,o,i,h⟩:=h;subst i;cases r with
 | cons r rr=>
   rw[f];exact assignInOrder_cons (thn (c pins s g H _ _ _ I r h) λ_ j ⟨b,l,m,n⟩=>d pins j b l _ _ Q m rr n)
def As(K:ZA)(n:Nat)(t:TGs):TG:=λv b H Q=>asR v λa=>∃xs,SqT K H a xs/\xs.length=n/\t xs b H Q
theorem Cn(g:X.calm=true)(h:PGs X c t)
 (i:(assignEach c X.env).length=n) (d:(assignEach c X.env).findIdx? (·.1)=none):PG X (.Tuple c k pos) (As X.K n t):=by
 intro pins s j H v u Q I r hw;obtain⟨a,l,xs,m,p,hw⟩:=fW hw;clear ‹As _ _ _ _ _ _ _›;subst l;cases r;obtain⟨its,f,q,y⟩:=I.tuple m;exact assign_Tuple_tuple (I.ok.hd g) q (by simp[i,<-p,f.length]) d λh' w=>h pins _ j H xs _ Q (I.kept λb o e=>w b o (Zt (Zv e)) e) (f) hw
def nR(b:TE)(g:TG):TS:=λD a H=>b a H λx c=>g x a c D.nx
theorem Co{a e:Expr}{g:TG}(c:PE X e d)(f:PG X a g)(i:swapsWithSole [a] e pos.line X.env=pure false)(hw:swappedStores [a] e X.env=pure none)
 (j:(assignEach [a] X.env).map (·.2)=[assign a X.env]):PS X (.Assign [a] e pos) (nR d g):=by
 intro pins s b H D I h;refine wpAny_Assign_stores (thP (c pins s b H _ I h) λv l x m n o p=>?_) i hw;rw[j];exact thn (f pins l b m x v _ n o p) λ_ r q=>q
theorem xX{i:Nat}{x:Str}{e:Expr}(b:X.N.Nodup)(hi:X.N[i]? =some x)(c:Loc X.env.scope x)(d:PE X e f)(g:swapsWith e (some (.Name x a)) pos.line X.env=pure false)(j:X.fn x=true\/X.env.scope.names.lookup x=some .local):
 PS X (.Assign [.Name x a] e pos) (nR f (jm i)):=by
 intro pins s l H D I h;exact wpAny_Assign_Name (thP (d pins s l H _ I h) λv r y m n o p=>mt n b hi c o (λt q=>%[_,m,q|p]) j) g
end
section
variable{X:Cx}{pos:Pos}
def xY(c:TT)(h:TS):TS:=λD a H=>∃W:Nat->St->Hp->Prop,(∃m,W m a H)/\∀m a H,W m a H->
 c a H λb e=>if b=true then∃N:St->Hp->Prop,(∀d f,N d f->∃g,g<m/\W g d f)/\h {D with nx:=N,ct:=N,bk:=D.nx} a e else D.nx a e
theorem xZ(u:PassesOwn (model X.prog X.w) X.A X.env X.xe)(C:PT X c E)(G:PSs X e J):PS X (.While c e [] pos) (xY E J):=by
 intro pins s L H D I h;obtain⟨W,⟨M,O⟩,g⟩:=h;refine wpAny_While (codeAny_whileLoop (λn s'=>∃i w,Inv X pins i w s'/\W n i w) ?_ M %[L,H,I|O]);rintro n Q ⟨d,y,T,U⟩;refine wpAny_passesOwn u (thT (C pins Q d y _ T (g n d y U)) λb Y z A l=>?_);cases b with
 | true=>
   obtain⟨N,B,l⟩:=l;refine wpAny_passesOwn u (thn (G pins Y d z _ A l) λf s3 m=>?_);cases f with
   | next=>
     obtain⟨a,j,o,p⟩:=m;obtain⟨q,r,t⟩:=B a j p;exact%[q,r,a,j,o|t]
   | cont=>
     obtain⟨a,j,o,p⟩:=m;obtain⟨q,r,t⟩:=B a j p;exact%[q,r,a,j,o|t]
   | brk=>exact m
   | ret v=>exact m
 | false=>
   exact wpAny_execs_nil %[d,z,A|l]
end
structure It where
 go:Nat->Hp->Prop
 yld:Nat->Hp->V->Hp->Prop
 stop:Nat->Hp->Prop
def lM(X:Cx)(pins:ZE)(H:Hp)(b:Addr):Prop:=
 H b=none/\b≠X.env.locals/\b∉X.fs/\(b∈X.ex\/X.s₀.heap.objs.size<=b)/\(∀x c,X.env.cells.lookup x=some c->c≠b)/\∀p∈X.pn++pins,p.1≠b
theorem Inv.fpOk{X:Cx}(I:Inv X pins h H s)(a:⇑s<=b)(d:f b=none):lM X pins f b:=by
 refine%[d,X3 (Zg I.lt a),I.nofs a,.inr (Yj I.sz a),λx c e z=>?_|λp g z=>?_]
 .obtain⟨v,q⟩:=I.cell x c e;exact absurd (Zg q.lt (z▸a)) (Xm _)
 .exact absurd (Zg (Zv (I.pin p g).1) (z▸a)) (Xm _)
structure pS (P:Program) (w:World) (K:ZA) (tg:Expr) (J:It) (fp:List Addr) (it:Addr) (tn:Nat->Heap->Prop):Prop where
 mem:it∈fp
 obj:∀i h,tn i h->∀b∈fp,∃o,h.get? b=some o/\∀v,o.data≠ .cell v
 keep:∀i h h',tn i h->(∀b∈fp,∀o,h.get? b=some o->h'.get? b=some o)->tn i h'
 item:∀(X:Cx),X.prog=P->X.w=w->X.K=K->X.calm=true->∀i (pins:ZE) s (σ:St) H (E:ZD),Inv X pins σ H s->(∀b∈fp,lM X pins H b)->tn i s.heap->J.go i H->
  wpAny (model P w) X.A (pyNext (.ref it)) (λr s1=>∃u,r=some u/\
   wpAny (model P w) X.A (letOwnedTupleGo tg (.ref it) u) (λ_ s2=>∃x H',Inv X pins σ H' s2/\aL x u/\J.yld i H x H'/\tn (i+1) s2.heap/\∀b∈fp,H' b=none) E s1) E s
 done:∀X,X.prog=P->X.w=w->X.K=K->X.calm=true->∀i pins s (σ:St) H E,Inv X pins σ H s->(∀b∈fp,lM X pins H b)->tn i s.heap->J.stop i H->
  wpAny (model P w) X.A (pyNext (.ref it)) (λr s1=>r=none/\Inv X pins σ H s1) E s
 self:∀A i s Q E,tn i s.heap->Q (.ref it) s->wpAny (model P w) A (pyIter (.ref it)) Q E s
noncomputable abbrev TI:=St->Hp->(It->Hp->Prop)->Prop
def PIE(X:Cx)(pins:ZE)(h:St)(i:Expr)(R:It->Hp->Prop)(a:Value)(d:Shared):Prop:=
 ∃e f g J c,a= .ref e/\Inv X pins h c d/\pS X.prog X.w X.K i J f e g/\g 0 d.heap/\(∀b∈f,lM X pins c b)/\R J c
def PI(X:Cx)(b cf:Expr)(c:TI):Prop:=
 ∀pins s (a:St) H R,Inv X pins a H s->c a H R->
  (~~~X) (eval cf X.env) (λv d=>(~~~X) (pyIter v) (PIE X pins a b R) X.xe d) X.xe s
theorem q0(b:s.heap.get? c=some o)(d:o.cls= .type n)(e:o.data= .fields vs)
 (f:["enumerate","zip","dict_itemiterator","dict_reverseitemiterator","odict_iterator","itertools.zip_longest","itertools.pairwise"].contains n=false) (a:Q () s):wpAny M A (letOwnedTupleGo g (.ref c) u) Q E s:=by
 cases g<;> first
  | exact Z3 a
  |(cases u<;> first
   | exact Z3 a
   |(refine Z2 (wpAny_load b ?_)
     rw[d,e];show wpAny M A (if(["enumerate","zip","dict_itemiterator","dict_reverseitemiterator","odict_iterator","itertools.zip_longest","itertools.pairwise"].contains n&&vs[0]? ==some _)=true then _ else _) Q E s;rw[if_neg (by intro h;rw[f,Bool.false_and]at h;cases h)];exact Z3 a))
noncomputable def Itl(K:ZA)(a:Addr):It:=
 ⟨λi H=>∃xs x,SqL K H a xs/\xs[i]? =some x,λi H x b=>b=H/\∀xs,SqL K H a xs->xs[i]? =some x,λi H=>∃xs,SqL K H a xs/\xs.length<=i⟩
noncomputable def Itt(K:ZA)(a:Addr):It:=
 ⟨λi H=>∃xs x,SqT K H a xs/\xs[i]? =some x,λi H x b=>b=H/\∀xs,SqT K H a xs->xs[i]? =some x,λi H=>∃xs,SqT K H a xs/\xs.length<=i⟩
noncomputable def Itr(lo:Int)(n:Nat):It:=%[λi _=>i<n,λi H x a=>a=H/\x= .int (lo+i)|λi _=>n<=i]
theorem vT{P:Program}{K:ZA}(a it:Addr):pS P w K tg (Itl K a) [it] it (λi h=>h.IsListIter it a i) where
 mem:=by simp
 obj:=λi h st b hb=>by
  have e:=by simpa using hb
  subst e;obtain⟨o,e,c,d⟩:=st;exact%[o,e|λv z=>by rw[d]at z;cases z]
 keep:=λi h h' st k=>st.at λo e=>k it ∅ o e
 item:=by
  intro X hP hw hK hc i pins s σ H E I hf st hg;subst hP hw hK;obtain⟨xs,x,hq,hx⟩:=hg;obtain⟨its,rv,p,hz⟩:=I.list hq;obtain⟨u,hu,ru⟩:=rv.get hx;obtain⟨f0,f1,f2,f3,f4,f5⟩:=hf it ∅;refine wpAny_pyNext_list_item st p.isList (by simpa using hu) λh' st' sb=>?_
  obtain⟨o,e,c,d⟩:=id st';exact%[u,rfl|q0 e c d (by decide) %[x,H,(I.turned (λb o hb e=>(sb.2 b hb).trans e) f0 f1 f3 f4 f5),ru,%[rfl|λys hy=>(I.list_inj hy hq)▸hx],st'|λb hb=>(hf b hb).1]]
 done:=by
  intro X hP hw hK hc i pins s σ H E I hf st hg;subst hP hw hK;obtain⟨xs,hq,hx⟩:=hg;obtain⟨its,rv,p,hz⟩:=I.list hq;obtain⟨f0,f1,f2,f3,f4,f5⟩:=hf it ∅;have hl:=rv.length;exact wpAny_pyNext_list_end (I.ok.hd hc) st p.isList (by simp;lia) λh' eb=>%[rfl|I.turned (λb o hb e=>eb b o hb e) f0 f1 f3 f4 f5]
 self:=λ_ _ _ _ _ st h=>wpAny_pyIter_listiter st h
theorem tE{P:Program}{K:ZA}(a it:Addr):pS P w K tg (Itt K a) [it] it (λi h=>h.IsTupleIter it a i) where
 mem:=by simp
 obj:=λi h st b hb=>by
  have e:=by simpa using hb
  subst e;obtain⟨o,e,c,d⟩:=st;exact%[o,e|λv z=>by rw[d]at z;cases z]
 keep:=λi h h' st k=>st.at λo e=>k it ∅ o e
 item:=by
  intro X hP hw hK hc i pins s σ H E I hf st hg;subst hP hw hK;obtain⟨xs,x,hq,hx⟩:=hg;obtain⟨its,rv,p,hz⟩:=I.tuple hq;obtain⟨u,hu,ru⟩:=rv.get hx;obtain⟨f0,f1,f2,f3,f4,f5⟩:=hf it ∅;refine wpAny_pyNext_tuple_item st (p) (by simpa using hu) λh' st' sb=>?_
  obtain⟨o,e,c,d⟩:=id st';exact%[u,rfl|q0 e c d (by decide) %[x,H,(I.turned (λb o hb e=>(sb.2 b hb).trans e) f0 f1 f3 f4 f5),ru,%[rfl|λys hy=>(I.tuple_inj hy hq)▸hx],st'|λb hb=>(hf b hb).1]]
 done:=by
  intro X hP hw hK hc i pins s σ H E I hf st hg;subst hP hw hK;obtain⟨xs,hq,hx⟩:=hg;obtain⟨its,rv,p,hz⟩:=I.tuple hq;obtain⟨f0,f1,f2,f3,f4,f5⟩:=hf it ∅;have hl:=rv.length;exact wpAny_pyNext_tuple_end (I.ok.hd hc) st (p) (by simp;lia) λh' eb=>%[rfl|I.turned (λb o hb e=>eb b o hb e) f0 f1 f3 f4 f5]
 self:=λ_ _ _ _ _ st h=>wpAny_pyIter_tupleiter st h
theorem tF{P:Program}{K:ZA}(it:Addr)(lo:Int)(n:Nat):pS P w K tg (Itr lo n) [it] it (λi h=>IsRangeIter h it (lo+(i:Nat)*1) ((n:Int) -(i:Nat)) 1) where
 mem:=by simp
 obj:=λi h st b hb=>by
  simp_all
 keep:=λi h h' st k=>k it ∅ _ st
 item:=by
  intro X hP hw hK hc i pins s σ H E I hf st hg;subst hP hw hK;obtain⟨f0,f1,f2,f3,f4,f5⟩:=hf it ∅;refine(Walks.range (prog:=X.prog) (w:=X.w) (I.ok.hd hc) it lo 1 n).item i s _ _ hg st λv h' tk hv st' kk=>?_
  obtain⟨t,rfl⟩:=hv;refine%[_,rfl|q0 st' rfl rfl (by decide) %[.int _,H,(I.turned (λb o hb e=>kk b o (by simpa using hb) e) f0 f1 f3 f4 f5),%[t|?_],%[rfl|rfl],st'|λb hb=>(hf b hb).1]];rw[Int.mul_one]
 done:=by
  intro X hP hw hK hc i pins s σ H E I hf st hg;obtain⟨f0,f1,f2,f3,f4,f5⟩:=hf it ∅;exact wpAny_pyNext_range_end (I.ok.hd hc) st (by have:n<=i:=hg;lia) λh' eb=>%[rfl|I.turned (λb o hb e=>eb b o hb e) f0 f1 f3 f4 f5]
 self:=λ_ _ _ _ _ st h=>wpAny_pyIter_rangeiter st h
section
variable{X:Cx}{tg:Expr}
theorem rc{R:It->Hp->Prop}{lo hi:Int}(I:Inv X pins c H s)(d: -(2^62)<=lo)(f:lo<2^62)(g: -(2^62)<=hi)(h:hi<2^62)
 (q:R (Itr lo (hi-lo).toNat) H):(~~~X) (pyIter (.ref ⇑s)) (PIE X pins c tg R) E {s with heap:=s.heap.push {cls:= .type "range",data:= .fields #[.int lo t,.int hi u,.int 1 v]},toks:=tk}:=by
 refine wpAny_pyIter_range (IsRange.new ..) (small_one d f g h) ?_;have a:Inv X pins c H {s with heap:=s.heap.push {cls:= .type "range",data:= .fields #[.int lo t,.int hi u,.int 1 v]},toks:=tk}:=I.kept λb o e=>Z7 _ e
 refine%[(s.heap.push _).objs.size,[(s.heap.push _).objs.size],_,_,H,rfl,
  a.kept λb o e=>Z7 _ e,tF _ lo _,?_,λb i=>?_|q]
 .have j:lo+((0:Nat))*1=lo:=by simp
  have l:(((hi-lo).toNat)) -((0:Nat))=Builtin.Range.rangeSize lo hi 1:=by rw[rangeSize_one];split<;> lia
  rw[j,l];exact Zj _ rfl
 .have e:b=(s.heap.push {cls:= .type "range",data:= .fields #[.int lo t,.int hi u,.int 1 v]}).objs.size:=by simpa using i
  subst e;exact a.fpOk (Zi _) (a.hok.fresh (Zi _))
def x4(a:TA):TI:=λb H R=>a b H λvs c=>∃j:Int,vs=[.int j]/\ -(2^62)<=j/\j<2^62/\R (Itr 0 j.toNat) c
def x5(a:TA):TI:=λb H R=>a b H λvs c=>∃i j:Int,vs=[.int i,.int j]/\(-(2^62)<=i/\i<2^62/\ -(2^62)<=j/\j<2^62)/\R (Itr i (j-i).toNat) c
theorem vU{a:Expr}(c:Gl X "range")(d:X.mg "range"=none)(f:PA X [a] g)(i:starEach [a] X.env=[(false,eval a X.env)]):PI X tg (.Call (.Name "range" p) [a] [] pos) (x4 g):=by
 intro pins s l H R I h;refine Call_ (iA I c d boot_range (PyProof.Rows.callWith_type1 (thP (f pos pins s l H _ I h) λus u vs v m n b=>?_) i rfl));obtain⟨j,e,b,o,q⟩:=b;subst e;cases n with
 | cons r rr=>
   cases rr;obtain⟨t,rfl⟩:=r;exact call_range_1 (rc m ⋯ ⋯ b o (by simpa using q))
theorem vV(f:Gl X "range")(g:X.mg "range"=none)(l:PA X [a,b] m)(n:starEach [a,b] X.env=[(false,eval a X.env),(false,eval b X.env)])(c:starEach [b] X.env=[(false,eval b X.env)]):
 PI X tg (.Call (.Name "range" p) [a,b] [] pos) (x5 m):=by
 intro pins s o H R I h;refine Call_ (iA I f g boot_range (PyProof.Rows.callWith_type1 (thP (l pos pins s o H _ I h) λus B vs C u v d=>?_) (by rw[n,c]) (by rw[c];rfl)));obtain⟨i,j,e,⟨d,w,y,z⟩,q⟩:=d;subst e;cases v with
 | cons r rr=>
   cases rr with
   | cons A rr=>
     cases rr;obtain⟨t,rfl⟩:=r;obtain⟨t',rfl⟩:=A;exact call_range_2 (rc u d w y z q)
def vW(f:TI)(g:TG)(h:TS):TS:=λD a H=>f a H λJ j=>∃W:Nat->Nat->St->Hp->Prop,(∃m,W 0 m a j)/\∀i m a H,W i m a H->
 (J.stop i H/\D.nx a H)\/(J.go i H/\∃N:St->Hp->Prop,(∀b c,N b c->∃e,e<m/\W (i+1) e b c)/\∀x c,J.yld i H x c->g x a c λd l=>h {D with nx:=N,ct:=N,bk:=D.nx} d l)
noncomputable def pT(a:List Addr)(h:Heap):ZE:=a.filterMap λb=>(h.get? b).map λo=>(b,o)
theorem eR(a:b∈c)(e:h.get? b=some o):(b,o)∈pT c h:=mem_filterMap.mpr %[b,a|by rw[e];rfl]
theorem vX(a:p∈pT c h):p.1∈c/\h.get? p.1=some p.2:=by
 obtain⟨b,d,e⟩:=mem_filterMap.mp a;cases q:h.get? b with
 | none=>simp_all
 | some o=>
   rw[q]at e;have f:=Za e;subst f;exact%[d|q]
theorem Inv.pinned(I:Inv X pins g H s)(h:∀b∈a,lM X pins H b)(i:∀b∈a,∃o,s.heap.get? b=some o/\∀v,o.data≠ .cell v):Inv X (pins++pT a s.heap) g H s:=
 I.pins_of λp j=>(Xp j).elim (λz=>I.pin p (Yx _ z)) λz=>by
  obtain⟨c,e⟩:=vX z;obtain⟨l,m,n,_⟩:=h p.1 c;obtain⟨o,f,d⟩:=i p.1 c;rw[e]at f;cases f;exact%[e,l,m,n|d]
theorem Inv.unpinned(I:Inv X (pins++pl) a H s):Inv X pins a H s:=I.pins_of λp b=>I.pin p (Yx _ (Yw _ b))
theorem Cp(A:PassesOwn (model X.prog X.w) X.A X.env X.xe)(hc:X.calm=true)(hi:PI X tg cf wi)(hg:PG X tg g)(c:PSs X B tb)
 (hs:∀x,foldedSetIterable cf X.env x=pure x):PS X (.For tg cf B [] pos) (vW wi g tb):=by
 intro pins s σ H D I h;refine wpAny_For (thn (hi pins s σ H _ I h) λv s1 h1=>thn h1 λac s2 h2=>?_) hs;obtain⟨it,M,tn,J,H2,e,I2,T,Q,f2,W,⟨m0,w0⟩,C⟩:=h2;subst e;have j:∀{w:Hp},(∀b∈M,w b=none)->∀b∈M,lM X pins w b:=λhn b c=>%[hn b c|(f2 b c).2]
 refine codeAny_forLoop_any (λn s'=>∃i l w,Inv X pins l w s'/\tn i s'.heap/\(∀b∈M,w b=none)/\W i n l w) ?_ m0 %[0,σ,H2,I2,Q,λb c=>(f2 b c).1|w0];rintro n s3 ⟨i,p,O,I3,E,G,w3⟩;rcases C i n p O w3 with⟨stop,qn⟩|⟨go,N,hN,step⟩
 .refine wpAny_passesOwn A (thn (T.done X rfl rfl rfl hc i pins s3 p O X.xe I3 (j G) E stop) λr s4 ⟨U,I4⟩=>?_);subst U;exact wpAny_execs_nil %[p,O,I4|qn]
 .refine wpAny_passesOwn A (thn (T.item X rfl rfl rfl hc i pins s3 p O X.xe I3 (j G) E go) λr s4 ⟨u,U,h4⟩=>?_);subst U;refine wpAny_passesOwn A (thn h4 λ_ s5 ⟨x,H5,I5,r5,y5,z,Y⟩=>wpAny_passesOwn A (thn (hg _ s5 p H5 x u _ (I5.pinned (j Y) (T.obj _ _ z)) r5 (step x H5 y5)) λ_ s6 ⟨ab,H6,I6,q6⟩=>wpAny_passesOwn A (thn (c _ s6 ab H6 _ I6 q6) λf s7 y=>?_)));have again:∀{a:St} {q:Hp},Inv X _ a q s7->N a q->∃m,m<n/\∃i l w,Inv X pins l w s7/\tn i s7.heap/\(∀b∈M,w b=none)/\W i m l w:=λ{a q} t L=>by
   obtain⟨m',hm,w7⟩:=hN a q L;refine%[m',hm,i+1,a,q,t.unpinned,T.keep _ _ _ z λb c o e=>(t.pin _ (Yx _ (Yx _ (eR c e)))).1,λb c=>?_|w7];obtain⟨o,e,d⟩:=T.obj _ _ z b c;exact(t.pin _ (Yx _ (Yx _ (eR c e)))).2.1
  cases f with
  | next=>obtain⟨a,q,t,L⟩:=y;exact again t L
  | cont=>obtain⟨a,q,t,L⟩:=y;exact again t L
  | brk=>obtain⟨a,q,t,y⟩:=y;exact%[a,q,t.unpinned|y]
  | ret v=>obtain⟨x7,a,q,t,r7,y⟩:=y;exact%[x7,a,q,t.unpinned,r7|y]
end
theorem bj{K:ZA}{g:TG}{l:TS}{D:lK}(Pv:Nat->St->Hp->Prop)(o:Pv 0 b H)(r:∀i b H,i<=xs.length->Pv i b H->SqL K H a xs)
 (s:∀i x b H,xs[i]? =some x->Pv i b H->g x b H λc h=>l {D with nx:=Pv (i+1),ct:=Pv (i+1),bk:=D.nx} c h) (t:∀b H,Pv xs.length b H->D.nx b H):
 ∃W:Nat->Nat->St->Hp->Prop,(∃m,W 0 m b H)/\∀i m b H,W i m b H->
  ((Itl K a).stop i H/\D.nx b H)\/((Itl K a).go i H/\∃N:St->Hp->Prop,(∀d f,N d f->∃n,n<m/\W (i+1) n d f)/\∀x f,(Itl K a).yld i H x f->g x b f λc h=>l {D with nx:=N,ct:=N,bk:=D.nx} c h):=by
 refine%[λi m b H=>m=xs.length-i/\i<=xs.length/\Pv i b H,%[xs.length,by simp,Xh _|o]|?_];rintro i m b H ⟨rfl,hi,p⟩;have q:=r i b H hi p;by_cases j:i<xs.length
 .refine .inr %[%[xs,xs[i],q|by simp],Pv _,λd f u=>%[xs.length-(i+1),⋯,rfl,j|u]|λx f y=>?_];obtain⟨e,y⟩:=y;subst e;exact s i x b _ (y xs q) p
 .have e:i=xs.length:=by lia
  subst e;exact .inl %[%[xs,q|Zi _]|t b H p]
theorem cJ{lo:Int}{g:TG}{j:TS}{D:lK}(Pv:Nat->St->Hp->Prop)(o:Pv 0 a H)
 (q:∀i a H,i<n->Pv i a H->g (.int (lo+i)) a H λb h=>j {D with nx:=Pv (i+1),ct:=Pv (i+1),bk:=D.nx} b h) (r:∀a H,Pv n a H->D.nx a H):
 ∃W:Nat->Nat->St->Hp->Prop,(∃m,W 0 m a H)/\∀i m a H,W i m a H->
  ((Itr lo n).stop i H/\D.nx a H)\/((Itr lo n).go i H/\∃N:St->Hp->Prop,(∀c d,N c d->∃l,l<m/\W (i+1) l c d)/\∀x d,(Itr lo n).yld i H x d->g x a d λb h=>j {D with nx:=N,ct:=N,bk:=D.nx} b h):=by
 refine%[λi m a H=>m=n-i/\i<=n/\Pv i a H,%[n,by simp,Xh _|o]|?_];rintro i m a H ⟨rfl,hi,p⟩;by_cases f:i<n
 .refine .inr %[f,Pv _,λc d s=>%[n-(i+1),⋯,rfl,f|s]|λx d y=>?_];obtain⟨e,y⟩:=y;subst e y;exact q i a _ f p
 .have e:i=n:=by lia
  subst e;exact .inl %[Zi _|r a H p]
noncomputable abbrev R2:=V->V->Hp->VK->Prop
def OpR(X:Cx)(f:Value->Value->Sem Value)(r:R2):Prop:=
 ∀pins s (a:St) H x y v u Q,Inv X pins a H s->aL x v->aL y u->r x y H Q->
  (~~~X) (f v u) (EP X pins a Q) X.xe s
def UnR(X:Cx)(f:Value->Sem Value)(r:V->Hp->VK->Prop):Prop:=
 ∀pins s (a:St) H x v Q,Inv X pins a H s->aL x v->r x H Q->
  (~~~X) (f v) (EP X pins a Q) X.xe s
def cx(X:Cx)(f:Value)(r:List V->Hp->VK->Prop):Prop:=
 ∀pins s (a:St) H xs us Q,Inv X pins a H s->aF xs us->r xs H Q->
  (~~~X) (call f us) (EP X pins a Q) X.xe s
def TruR(X:Cx)(r:V->Hp->(Bool->Hp->Prop)->Prop):Prop:=
 ∀pins s (a:St) H x v Q,Inv X pins a H s->aL x v->r x H Q->
  (~~~X) (truthy v) (TP X pins a Q) X.xe s
def tOp(r:R2)(b c:TE):TE:=λa H Q=>b a H λx d=>c a d λy e=>r x y e Q
def tUn(r:V->Hp->VK->Prop)(a:TE):TE:=λb H Q=>a b H λx c=>r x c Q
def rI(C:Int->Int->Prop)(g:Int->Int->V):R2:=λx y H Q=>asI x λi=>asI y λj=>C i j/\Q (g i j) H
def rI0(g:Int->Int->V):R2:=λx y H Q=>asI x λi=>asI y λj=>Q (g i j) H
def rU(g:Int->V):V->Hp->VK->Prop:=λx H Q=>asI x λi=>Q (g i) H
section
variable{X:Cx}{a b c:Expr}{ta tb tc:TE}{pos:Pos}
theorem Cq(m:PE X a ta)(n:PE X b tb){pins:List _}{s:Shared}{d:St}{H:Hp}{R:V->V->Hp->Prop}(I:Inv X pins d H s)
 (h:ta d H λx l=>tb d l λy e=>R x y e) {Q:ZD} {f:Value->Value->Sem Value}
 (o:∀v u j x y e,Inv X pins d e j->aL x v->aL y u->R x y e->(~~~X) (f v u) Q X.xe j):
 (~~~X) (eval a X.env) (λv g=>(~~~X) (eval b X.env) (λu i=>(~~~X) (f v u) Q X.xe i) X.xe g) X.xe s:=by
 exact thP (m pins s d H _ I h) λv p x l q r t=>thP (n pins p d l _ q t) λu j y e w z A=>o v u j x y e w r z A
theorem Ev{r:R2}(d:OpR X (binaryOp op) r)(e:PE X a ta)(f:PE X b tb):PE X (.BinOp a op b pos) (tOp r ta tb):=by
 intro pins s g H Q I h;exact wpAny_BinOp (Cq e f I h λv u i x y j l m n q=>d pins i g j x y v u Q l m n q)
theorem Ew(e:UnR X (unaryOp op) r)(f:PE X a ta):PE X (.UnaryOp op a pos) (tUn r ta):=by
 intro pins s d H Q I h;exact UnaryOp_ (thP (f pins s d H _ I h) λv g x i j l m=>e pins g d i x v Q j l m)
theorem opI{f:Value->Value->Sem Value}{C:Int->Int->Prop}{g:Int->Int->Int}
 (rule:∀i j t u s Q E,C i j->Q (.int (g i j) s.toks) {s with toks:=s.toks+1}->(~~~X) (f (.int i t) (.int j u)) Q E s):
 OpR X f (rI C λi j=> .int (g i j)):=by
 intro pins s n H x y v u Q I d e h;obtain⟨i,rfl,l⟩:=iz h;obtain⟨j,rfl,m,q⟩:=iz l;obtain⟨t,rfl⟩:=d;obtain⟨t',rfl⟩:=e;exact rule i j t t' s _ _ m %[.int _,H,I.tok _,%[_|rfl]|q]
theorem Ex{g:Int->Int->Int}
 (rule:∀(i j:Int) (t u:Tok) (s:Shared) (Q:ZD) (E:ZD),Q (.int (g i j) s.toks) {s with toks:=s.toks+1}->(~~~X) (f (.int i t) (.int j u)) Q E s):
 OpR X f (rI0 λi j=> .int (g i j)):=by
 intro pins s m H x y v u Q I d e h;obtain⟨i,rfl,l⟩:=iz h;obtain⟨j,rfl,q⟩:=iz l;obtain⟨t,rfl⟩:=d;obtain⟨t',rfl⟩:=e;exact rule i j t t' s _ _ %[.int _,H,I.tok _,%[_|rfl]|q]
theorem Cr{g:Int->Int->Bool}
 (rule:∀(i j:Int) (t u:Tok) (s:Shared) (Q:ZD) (E:ZD),Q (.bool (g i j)) s->(~~~X) (f (.int i t) (.int j u)) Q E s):
 OpR X f (rI0 λi j=> .bl (g i j)):=by
 intro pins s m H x y v u Q I d e h;obtain⟨i,rfl,l⟩:=iz h;obtain⟨j,rfl,q⟩:=iz l;obtain⟨t,rfl⟩:=d;obtain⟨t',rfl⟩:=e;exact rule i j t t' s _ _ %[.bl _,H,I,rfl|q]
def Ey(i j:Int):Prop:=0<j/\j<1073741824
def x6(i j:Int):Prop:=(-(2^64)<i/\i<2^64)\/(-(2^64)<j/\j<2^64)
theorem x6.ok{i j:Int}(h:x6 i j):IntMulOk i j:=by
 rcases h with⟨d,e⟩|⟨d,e⟩
 .exact .of_left (intBits_le_64 d e)
 .exact .of_right (intBits_le_64 d e)
theorem x8:OpR X (binaryOp .Add) (rI0 λi j=> .int (i+j)):=Ex λ_ _ _ _ _ _ _ q=>add_int q
theorem Cs:OpR X (binaryOp .Sub) (rI0 λi j=> .int (i-j)):=Ex λ_ _ _ _ _ _ _ q=>sub_int q
theorem x9:OpR X (binaryOp .Mult) (rI x6 λi j=> .int (i*j)):=opI λ_ _ _ _ _ _ _ d q=>mul_int q d.ok
theorem At:OpR X (binaryOp .FloorDiv) (rI Ey λi j=> .int (i/j)):=opI λi j _ _ _ _ _ d q=>by
 have e:(0:Int)<j:=d.1;have f:j<1073741824:=d.2;exact floordiv_int ⋯ (by rw[Int.fdiv_eq_ediv_of_nonneg i ⋯];exact q) (.inl (PyProof.noPylong_small ⋯))
theorem Ct:OpR X (binaryOp .Mod) (rI (λ_ j=>0<j) λi j=> .int (i%j)):=opI λi j _ _ _ _ _ d q=>by
 have e:(0:Int)<j:=d;exact mod_int' ⋯ (by rw[Int.fmod_eq_emod_of_nonneg i ⋯];exact q)
theorem unI{g:Int->Int}
 (rule:∀(i:Int) (t:Tok) (s:Shared) (Q:ZD) (E:ZD),Q (.int (g i) s.toks) {s with toks:=s.toks+1}->(~~~X) (f (.int i t)) Q E s):
 UnR X f (rU λi=> .int (g i)):=by
 intro pins s e H x v Q I d h;obtain⟨i,rfl,q⟩:=iz h;obtain⟨t,rfl⟩:=d;exact rule i t s _ _ %[.int _,H,I.tok _,%[_|rfl]|q]
theorem Cu:UnR X (unaryOp .USub) (rU λi=> .int (-i)):=unI λ_ _ _ _ _ q=>neg_int q
end
noncomputable def Cv:V->V->Bool
 | .non,.non=>true| .non,.int _=>true| .int _,.non=>true| .non,.bl _=>true| .bl _,.non=>true| .non,.str _=>true| .str _,.non=>true
 | .int _,.int _=>true| .bl _,.bl _=>true| .str _,.str _=>true| .byt _,.byt _=>true
 | .int _,.str _=>true| .str _,.int _=>true| .bl _,.str _=>true| .str _,.bl _=>true
 | _,_=>false
theorem zqD:(Cv .non .non=true)/\(∀j,Cv .non (.int j)=true)/\(∀i,Cv (.int i) .non=true)/\(∀j,Cv .non (.bl j)=true)/\(∀i,Cv (.bl i) .non=true)/\(∀j,Cv .non (.str j)=true)/\(∀i,Cv (.str i) .non=true)/\(∀i j,Cv (.int i) (.int j)=true)/\(∀i j,Cv (.bl i) (.bl j)=true)/\(∀i j,Cv (.str i) (.str j)=true)/\(∀i j,Cv (.byt i) (.byt j)=true)/\(∀i j,Cv (.int i) (.str j)=true)/\(∀i j,Cv (.str i) (.int j)=true)/\(∀i j,Cv (.bl i) (.str j)=true)/\(∀i j,Cv (.str i) (.bl j)=true):=by and_intros<;> intros<;> rfl
def rEq:R2:=λx y H Q=>Cv x y=true/\Q (.bl (decide (x=y))) H
def rNe:R2:=λx y H Q=>Cv x y=true/\Q (.bl (!decide (x=y))) H
theorem u9:decide (V.int i=V.int j)=(i==j):=by
 rw[Bool.eq_iff_iff];simp
theorem ya:decide (V.bl i=V.bl j)=(i==j):=by
 rw[Bool.eq_iff_iff];simp
theorem va:decide (V.str i=V.str j)=(i==j):=by
 rw[Bool.eq_iff_iff];simp
theorem vb:decide (V.byt i=V.byt j)=(i.toList==j.toList):=by
 rw[Bool.eq_iff_iff]
 simp_all
section
variable{X:Cx}{a b c:Expr}{ta tb tc:TE}{pos:Pos}
theorem aT(I:Inv X pins d H s)(q:Q (.bl k) H)(e:k=f):EP X pins d Q (.bool f) s:=by
 subst e;exact%[.bl k,H,I,rfl|q]
theorem Ez:OpR X (compareOp .Eq) rEq:=by
 intro pins s g H x y v u Q I f d h;obtain⟨e,q⟩:=h;cases x with
 | non=>
   cases f;cases y with
   | non=>cases d;exact PySem.EqNone.eq_none_none (aT I q ∅)
   | bl j=>cases d;exact PySem.EqNone.eq_none_bool (aT I q ∅)
   | int j=>obtain⟨t',rfl⟩:=d;exact PySem.EqNone.eq_none_int (aT I q ∅)
   | str j=>obtain⟨t',rfl⟩:=d;exact PySem.EqNone.eq_none_str (aT I q ∅)
   | _=>exact absurd (show false=true from e) Zu
 | bl i=>
   cases f;cases y with
   | non=>cases d;exact PySem.EqNone.eq_bool_none (aT I q ∅)
   | bl j=>cases d;exact eq_bool (aT I q ya)
   | str j=>obtain⟨t',rfl⟩:=d;exact PySem.EqMixed.eq_bool_str (aT I q ∅)
   | _=>exact absurd (show false=true from e) Zu
 | int i=>
   obtain⟨t,rfl⟩:=f;cases y with
   | non=>cases d;exact PySem.EqNone.eq_int_none (aT I q ∅)
   | int j=>obtain⟨t',rfl⟩:=d;exact eq_int (aT I q u9)
   | str j=>obtain⟨t',rfl⟩:=d;exact PySem.EqMixed.eq_int_str (aT I q ∅)
   | _=>exact absurd (show false=true from e) Zu
 | str i=>
   obtain⟨t,rfl⟩:=f;cases y with
   | non=>cases d;exact PySem.EqNone.eq_str_none (aT I q ∅)
   | bl j=>cases d;exact PySem.EqMixed.eq_str_bool (aT I q ∅)
   | int j=>obtain⟨t',rfl⟩:=d;exact PySem.EqMixed.eq_str_int (aT I q ∅)
   | str j=>obtain⟨t',rfl⟩:=d;exact eq_str (aT I q va)
   | _=>exact absurd (show false=true from e) Zu
 | byt i=>
   obtain⟨t,rfl⟩:=f;cases y with
   | byt j=>obtain⟨t',rfl⟩:=d;exact PySem.W.eq_bytes (aT I q vb)
   | _=>exact absurd (show false=true from e) Zu
 | _=>cases y<;> exact absurd (show false=true from e) Zu
theorem EA:OpR X (compareOp .NotEq) rNe:=by
 intro pins s g H x y v u Q I f d h;obtain⟨e,q⟩:=h;cases x with
 | non=>
   cases f;cases y with
   | non=>cases d;exact PySem.EqNone.ne_none_none (aT I q ∅)
   | bl j=>cases d;exact PySem.EqNone.ne_none_bool (aT I q ∅)
   | int j=>obtain⟨t',rfl⟩:=d;exact PySem.EqNone.ne_none_int (aT I q ∅)
   | str j=>obtain⟨t',rfl⟩:=d;exact PySem.EqNone.ne_none_str (aT I q ∅)
   | _=>exact absurd (show false=true from e) Zu
 | bl i=>
   cases f;cases y with
   | non=>cases d;exact PySem.EqNone.ne_bool_none (aT I q ∅)
   | bl j=>cases d;exact ne_bool (aT I q (congrArg not ya))
   | str j=>obtain⟨t',rfl⟩:=d;exact PySem.EqMixed.ne_bool_str (aT I q ∅)
   | _=>exact absurd (show false=true from e) Zu
 | int i=>
   obtain⟨t,rfl⟩:=f;cases y with
   | non=>cases d;exact PySem.EqNone.ne_int_none (aT I q ∅)
   | int j=>obtain⟨t',rfl⟩:=d;exact ne_int (aT I q (congrArg not u9))
   | str j=>obtain⟨t',rfl⟩:=d;exact PySem.EqMixed.ne_int_str (aT I q ∅)
   | _=>exact absurd (show false=true from e) Zu
 | str i=>
   obtain⟨t,rfl⟩:=f;cases y with
   | non=>cases d;exact PySem.EqNone.ne_str_none (aT I q ∅)
   | bl j=>cases d;exact PySem.EqMixed.ne_str_bool (aT I q ∅)
   | int j=>obtain⟨t',rfl⟩:=d;exact PySem.EqMixed.ne_str_int (aT I q ∅)
   | str j=>obtain⟨t',rfl⟩:=d;exact ne_str (aT I q (congrArg not va))
   | _=>exact absurd (show false=true from e) Zu
 | byt i=>
   obtain⟨t,rfl⟩:=f;cases y with
   | byt j=>obtain⟨t',rfl⟩:=d;exact PySem.W.ne_bytes (aT I q (congrArg not vb))
   | _=>exact absurd (show false=true from e) Zu
 | _=>cases y<;> exact absurd (show false=true from e) Zu
theorem EB:OpR X (compareOp .Lt) (rI0 λi j=> .bl (decide (i<j))):=Cr λ_ _ _ _ _ _ _ q=>lt_int q
theorem EC:OpR X (compareOp .LtE) (rI0 λi j=> .bl (decide (i<=j))):=Cr λ_ _ _ _ _ _ _ q=>le_int q
theorem ED:OpR X (compareOp .Gt) (rI0 λi j=> .bl (decide (j<i))):=Cr λ_ _ _ _ _ _ _ q=>gt_int q
theorem vY:OpR X (compareOp .In) (λx y H Q=>∃i j,x= .str i/\y= .str j/\Q (.bl (!(Builtin.Str.occurrences j i 0 j.length 1).isEmpty)) H):=by
 intro pins s f H x y v u Q I d e h;obtain⟨i,j,rfl,rfl,q⟩:=h;obtain⟨t,rfl⟩:=d;obtain⟨t',rfl⟩:=e;exact in_str (aT I q rfl)
theorem Cw:OpR X (compareOp .Is) (λx y H Q=>y= .non/\Q (.bl (decide (x= .non))) H):=by
 intro pins s f H x y v u Q I d e h;obtain⟨rfl,q⟩:=h;cases e;refine is_none_gen (aT I q ?_);cases x<;> first
  | lia
  |(obtain⟨t,rfl⟩:=d;rfl)
theorem Au:OpR X (compareOp .IsNot) (λx y H Q=>y= .non/\Q (.bl (!decide (x= .non))) H):=by
 intro pins s f H x y v u Q I d e h;obtain⟨rfl,q⟩:=h;cases e;refine isnot_none_gen (aT I q ?_);cases x<;> first
  | lia
  |(obtain⟨t,rfl⟩:=d;rfl)
theorem OpR.or(h:OpR X f r)(h':OpR X f i):OpR X f (λx y H Q=>r x y H Q\/i x y H Q):=by
 intro pins s d H x y v u Q I e g q;rcases q with q|q
 .exact h pins s d H x y v u Q I e g q
 .exact h' pins s d H x y v u Q I e g q
theorem nomark(b:Expr)(h:op≠ .In)(f:op≠ .NotIn):behindInMarks op b=false:=by
 have d:(op==CmpOp.In)=false:=by lia
 have e:(op==CmpOp.NotIn)=false:=by lia
 cases b<;> simp[behindInMarks,d,e]
theorem Av{r:R2}(d:OpR X (compareOp op) r)(e:PE X a ta)(f:PE X b tb)(g:behindInMarks op b=false):PE X (.Compare a [op] [b] pos) (tOp r ta tb):=by
 intro pins s i H Q I h;exact wpAny_Compare1 (Cq e f I h λv u j x y l m n o q=>d pins j i l x y v u Q m n o q) g
def yb(t:TE):TT:=λd H Q=>t d H λx e=>asB x λk=>Q k e
theorem Aw(f:OpR X (compareOp op) r)(g:PE X a ta)(i:PE X b tb)(j:behindInMarks op b=false):PT X (.Compare a [op] [b] pos) (yb (tOp r ta tb)):=by
 intro pins s d H Q I h;refine wpAny_isTrue_Compare1 (thP (g pins s d H _ I h) λv l x m n o p=>thP (i pins l d m _ n p) λu q y t w A B=>
  thP (f pins q d t x y v u _ w o A B) λc J z C E G e=>?_) j
 obtain⟨k,rfl,e⟩:=oC e;cases G;exact wpAny_truthy_bool %[C,E|e]
def tG(r f:R2)(ta tb tc:TE):TE:=λd H Q=>ta d H λx g=>tb d g λy h=>r x y h λz e=>asB z λk=>
 (if k=true then tc d e λi j=>f y i j Q else Q (.bl false) e)
theorem yc(n:OpR X (compareOp op) r)(i:OpR X (compareOp e) o)(p:PE X a ta)(q:PE X b tb)(t:PE X c tc)
 (w:lastMarks [op,e] [b,c]=false):PE X (.Compare a [op,e] [b,c] pos) (tG r o ta tb tc):=by
 intro pins s f H Q I h;refine Compare_chain (thP (p pins s f H _ I h) λv A x B C E G=>chain_link (thP (q pins A f B _ C G) λu J y L M j N=>
  thP (n pins J f L x y v u _ M E j N) λd O z l m T g=>?_)) w
 obtain⟨k,rfl,g⟩:=oC g;cases T;refine wpAny_truthy_bool ?_;cases k with
 | false=>exact ite_ff %[.bl false,l,m,rfl|g]
 | true=>exact ite_tt (chain_last (thP (t pins O f l _ m g) λU Y z' H4 I4 r4 q4=>i pins Y f H4 y z' u U Q I4 j r4 q4))
def yd(K:ZA)(x:V)(H:Hp)(k:Bool):Prop:=
 match x with
 | .non=>k=false
 | .bl b=>k=b
 | .int i=>k=(i != 0)
 | .str y=>y.length<=sizeLine/\k=((y.length:Int) != 0)
 | .byt y=>y.size<=sizeLine/\k=((y.size:Int) != 0)
 | .ref p=>(∃xs,SqL K H p xs/\k=!xs.isEmpty)\/(∃xs,SqT K H p xs/\k=!xs.isEmpty)\/∃d,H p=some (.dK d)/\k=!d.isEmpty
 | _=>False
theorem tH{e:Type}{d:List (e×V)}{vs:List _}(r:KV d vs):(!vs.isEmpty)=!d.isEmpty:=by
 cases r<;> rfl
theorem mv(r:aF xs its):(!its.toArray.isEmpty)=!xs.isEmpty:=by
 cases r<;> simp
theorem pU:sizeLine<2^63:=by decide
theorem Cy:TruR X (λx H Q=>∃k,yd X.K x H k/\Q k H):=by
 intro pins s w H x v Q I j h;obtain⟨k,e,q⟩:=h;have z:=pU;have A:sizeLine=16777216:=sizeLine_eq;cases x with
 | non=>
   cases j;have d:k=false:=e;subst d;exact truthy_none %[H,I|q]
 | bl b=>
   cases j;have d:k=b:=e;subst d;exact wpAny_truthy_bool %[H,I|q]
 | int i=>
   obtain⟨t,rfl⟩:=j;have d:k=(i != 0):=e;subst d;exact PySem.P.truthy_int %[H,I|q]
 | str y=>
   obtain⟨t,rfl⟩:=j;obtain⟨o,d⟩:y.length<=sizeLine/\k=((y.length:Int) != 0):=e;subst d;exact PySem.P.truthy_str ⋯ %[H,I.tok _|q]
 | byt y=>
   obtain⟨t,rfl⟩:=j;obtain⟨o,d⟩:y.size<=sizeLine/\k=((y.size:Int) != 0):=e;subst d;exact PySem.W.truthy_bytes ⋯ %[H,I.tok _|q]
 | ref p=>
   cases j;have d:(∃xs,SqL X.K H p xs/\k=!xs.isEmpty)\/(∃xs,SqT X.K H p xs/\k=!xs.isEmpty)\/∃f,H p=some (.dK f)/\k=!f.isEmpty:=e;rcases d with⟨xs,l,d⟩|⟨xs,l,d⟩|⟨f,l,d⟩
   .subst d;obtain⟨its,r,pl,n⟩:=I.list l;have g:=r.length;exact wpAny_truthy_list pl.isList (by simp only[Zp];lia) %[H,I.tok _|(mv r)▸q]
   .subst d;obtain⟨its,r,pl,n⟩:=I.tuple l;have g:=r.length;exact truthy_tuple pl (by simp only[Zp];lia) %[H,I.tok _|(mv r)▸q]
   .subst d;obtain⟨n,u,vs,r,m⟩:f.length<=sizeLine/\(p==sysModules)=false/\∃vs,KV f vs/\s.heap.DictOf (aP X.prog X.w) p vs:=I.hok p _ l;have g:f.length=vs.length:=Paired.length r;exact wpAny_truthy_dict u m ⋯ %[H,I.tok _|(tH r)▸q]
 | _=>exact(show False from e).elim
theorem yf(g:PE X a ta)(i:∀d,isTrue a X.env d=(do let v<-d;standAt a.pos;holding [v] (truthy v))):
 PT X a (λe H Q=>ta e H λx f=>∃k,yd X.K x f k/\Q k f):=by
 intro pins s e H Q I h;exact isTrue_plain (thP (g pins s e H _ I h) λv j x l m n o=>Cy pins j e l x v Q m n o) (i _)
theorem tJ:OpR X (binaryOp .Add) (λx y H Q=>∃i j,x= .str i/\y= .str j/\i.length+j.length<=sizeLine/\Q (.str (i++j)) H):=by
 intro pins s g H x y v u Q I d e h;obtain⟨i,j,rfl,rfl,f,q⟩:=h;obtain⟨t,rfl⟩:=d;obtain⟨t',rfl⟩:=e;exact add_str (λt' tk=>%[.str _,H,I.tok _,%[_|rfl]|q]) f
theorem dh(r:aF [x] us):∃u,us=[u]/\aL x u:=by
 cases r with
 | cons d e=>cases e;exact%[_,rfl|d]
theorem jK(r:aF [x,y] us):∃u d,us=[u,d]/\aL x u/\aL y d:=by
 cases r with
 | cons e f=>
   cases f with
   | cons g h=>cases h;exact%[_,_,rfl,e|g]
theorem yg:cx X (.builtin "abs") (λxs H Q=>∃i,xs=[.int i]/\Q (.int (if i<0 then -i else i)) H):=by
 intro pins s d H xs us Q I r h;obtain⟨i,rfl,q⟩:=h;obtain⟨u,rfl,t,rfl⟩:=dh r;exact call_abs_int λu tk=>%[.int _,H,I.tok _,%[_|rfl]|q]
theorem vZ(e:X.calm=true):cx X (.builtin "max") (λxs H Q=>∃i j,xs=[.int i,.int j]/\Q (.int (if j>i then j else i)) H):=by
 intro pins s f H xs us Q I r h;obtain⟨i,j,rfl,q⟩:=h;obtain⟨u,g,rfl,⟨t,rfl⟩,t',rfl⟩:=jK r;refine max_two_ints (I.ok.hd e) λh' tk k=>%[_,H,I.kept k,?_|q]
 by_cases d:j>i
 .rw[if_pos d,if_pos d];exact%[_|rfl]
 .rw[if_neg d,if_neg d];exact%[_|rfl]
theorem v4(e:X.calm=true):cx X (.builtin "min") (λxs H Q=>∃i j,xs=[.int i,.int j]/\Q (.int (if j<i then j else i)) H):=by
 intro pins s f H xs us Q I r h;obtain⟨i,j,rfl,q⟩:=h;obtain⟨u,g,rfl,⟨t,rfl⟩,t',rfl⟩:=jK r;refine min_two_ints (I.ok.hd e) λh' tk k=>%[_,H,I.kept k,?_|q]
 by_cases d:j<i
 .rw[if_pos d,if_pos d];exact%[_|rfl]
 .rw[if_neg d,if_neg d];exact%[_|rfl]
theorem v5:cx X (.type "int") (λxs H Q=>(∃i,xs=[.int i]/\Q (.int i) H)\/∃k,xs=[.bl k]/\Q (.int (if k then 1 else 0)) H):=by
 intro pins s e H xs us Q I r h;rcases h with⟨i,rfl,q⟩|⟨k,rfl,q⟩
 .obtain⟨u,rfl,t,rfl⟩:=dh r;exact call_int_int %[.int i,H,I,%[_|rfl]|q]
 .obtain⟨u,rfl,d⟩:=dh r;cases d;exact call_int_bool %[.int _,H,I.tok _,%[_|rfl]|q]
def Ax(K:ZA)(x:V)(H:Hp)(n:Nat):Prop:=
 match x with
 | .str y=>y.length<=sizeLine/\n=y.length
 | .byt y=>y.size<=sizeLine/\n=y.size
 | .ref p=>(∃xs,SqL K H p xs/\n=xs.length)\/∃xs,SqT K H p xs/\n=xs.length
 | _=>False
theorem yh:cx X (.builtin "len") (λxs H Q=>∃x n,xs=[x]/\Ax X.K x H n/\Q (.int n) H):=by
 intro pins s o H xs us Q I r h;obtain⟨x,n,rfl,e,q⟩:=h;obtain⟨u,rfl,g⟩:=dh r;have v:=sizeLine_eq;cases x with
 | str y=>
   obtain⟨t,rfl⟩:=g;obtain⟨l,f⟩:y.length<=sizeLine/\n=y.length:=e;subst f;exact len_str ⋯ %[.int _,H,I.tok _,%[_|rfl]|q]
 | byt y=>
   obtain⟨t,rfl⟩:=g;obtain⟨l,f⟩:y.size<=sizeLine/\n=y.size:=e;subst f;exact PySem.W.len_bytes ⋯ %[.int _,H,I.tok _,%[_|rfl]|q]
 | ref p=>
   cases g;have f:=e;rcases f with⟨xs,i,f⟩|⟨xs,i,f⟩
   .subst f;obtain⟨its,j,pl,m⟩:=I.list i;have d:=j.length;exact Calls.call_len_list pl.isList (by simp only[Zp];lia) %[.int xs.length,H,I.tok _,%[_|by simp only[Zp];rw[d]]|q]
   .subst f;obtain⟨its,j,pl,m⟩:=I.tuple i;have d:=j.length;exact len_tuple pl (by simp only[Zp];lia) %[.int xs.length,H,I.tok _,%[_|by simp only[Zp];rw[d]]|q]
 | _=>exact(e).elim
end
structure tK (h:Heap) (x dx C:Addr) (mA:ZC):Prop where
 obj:h.get? x=some (instObj C dx)
 ns:h.Ns1 dx mA
 ne:dx≠x
theorem v6{h:Heap}{c:ZC}(n:h.Ns1 f c):∃d,h.get? f=some d/\∀name,lookIn name d=some (c name):=by
 obtain⟨o,g,r,i,j,l,_,m⟩:=n;refine%[o,i|λname=>?_];have e:=m name;unfold nsFind findBy at e;rw[<-Array.find?_toList]at e;unfold lookIn;rw[j];dsimp only
 split
 .rename_i y q
  rw[q]at e;exact congrArg some e
 .rename_i q
  rw[q]at e;have a:g.toList.any (·.refKey)=false:=by
   rw[List.any_eq_false];intro y p;obtain⟨z,t,b⟩:=l y (mem_toList_iff.mp p);simp[DictEntry.refKey,b]
  rw[if_neg (a▸Zu)];exact congrArg some e
theorem tK.look(I:tK h x b C c):∃a,PySem.W.InstAt h x (instObj C b) C (some a)/\∀name,lookIn name a=some (c name):=
 let⟨a,d,e⟩:=v6 I.ns
 %[a,%[I.obj,rfl,rfl|d]|e]
section
#where
variable{K:ZA}{x dx C f:Addr}{mA:ZC}{name:Str}{v:Value}
theorem Ay(X:K.In s.heap)(I:tK s.heap x dx C mA)(c:plainGet K C name=true)(d:hasDictIn K C=true)
 (e:findIn K (.ref C) name=some none) (g:mA name=some v) (a:handedIn v=true) (h:Q v {s with toks:=s.toks+1}):
 ↥A (getAttr (.ref x) name b) Q E s:=by
 obtain⟨j,J,i⟩:=I.look;exact PySem.W.get_value X J (plainGet_of c).1 (PySem.W.findObj_own d e rfl (by rw[i,g])) a h
theorem yi(X:K.In s.heap)(I:tK s.heap x dx C mA)(a:plainGet K C name=true)
 (b:findIn K (.ref C) name=some (some (.ref f))) (c:isFn K (.ref f)=true) (d:mA name=none) (h:Q (.ref f,[.ref x]) s):
 ↥A (getMethod (.ref x) name pl) Q E s:=by
 obtain⟨e,J,g⟩:=I.look;exact PySem.W.method_fn X J (plainGet_of a).1 (plainGet_of a).2 b (beq_iff_eq.mp c) (by show(lookIn name e).map _=some false;rw[g,d];rfl) h
theorem Az(X:K.In s.heap)(I:tK s.heap x dx C mA)
 (j:findIn K (.ref C) "__setattr__"=some (some (.builtin "object.__setattr__"))) (l:plainOver K C=true) (m:takerIn K C name=some none) (n:hasDictIn K C=true)
 (hw:PySem.Within mA o) (p:o.length<=sizeLine)
 (h:∀h',tK h' x dx C (λy=>if y=name then some v else mA y)->SameBut dx s.heap h'->Q () {s with heap:=h',toks:=s.toks+2}):
 ↥A (setAttr (.ref x) name v) Q E s:=by
 obtain⟨u,J,z⟩:=I.look;refine PySem.W.set_plain X J j (PySem.W.osa_open X J l m λb=>?_);obtain⟨B,q,d⟩:=PySem.W.any_some n;refine Z2 (Z3 (Z2 (Z2 (wpAny_loadPart I.obj (Z2 (Looks.here (PySem.W.looks_clsIn X q) ?_))))));rw[d];refine Z3 (Z2 (Z3 (Z2 (wpAny_nsSet1 I.ns λh' a c=>?_))));obtain⟨G,r,t,e,g,i⟩:=a.count (PySem.Within.cons name v hw);exact Z2 (wpAny_lookBehind e (g▸pastItsLine_dict (Yj i (by simp_all))) (Z3 (h _ %[(c.2 _ (Ne.symm I.ne)).trans I.obj,a|I.ne] c)))
theorem yj{R:Result->Shared->Prop}(X:K.In s.heap)(b:makesIn K C=true)
 (hi:findIn K (.ref C) "__init__"=some (some (.ref f))) (c:PySem.W.typeIn K (.ref f)=some (.type "function"))
 (h:codeAny (model prog w) (A.under (.builtin "type.__call__" %[.ref C::vs|a])) (.call (.ref f) %[.ref (⇑s+1)::vs|a]) (PySem.W.InitBack (⇑s+1) R)
  (s>>>(s.heap.push emptyDict).push (instObj C ⇑s))):
 codeAny (model prog w) A (.call (.ref C) %[vs|a]) R s:=by
 exact PySem.W.make_core (PySem.W.makes_of X b) (PySem.W.looks_findIn X hi) (λself=>PySem.W.bind_fn X self c) (.inl rfl) h
end
noncomputable def dz(f:Str)(v:V):List (Str×V)->List (Str×V)
 |[]=>[(f,v)]
 |(g,x)::r=>if g=f then(g,v)::r else(g,x)::dz f v r
theorem lg(f g:Str)(v:V):∀fs,(dz f v fs).lookup g=if g=f then some v else fs.lookup g
 |[]=>by
  show List.lookup g [(f,v)]=_;by_cases h:g=f
  .have a:=beq_iff_eq.mpr h;simp only[List.lookup,a,if_pos h]
  .have a:=beq_eq_false_iff_ne.mpr h;simp only[List.lookup,a,if_neg h]
 |(k,x)::r=>by
  rw[show dz f v _=(if k=f then(k,v)::r else(k,x)::dz f v r)from rfl];by_cases b:k=f
  .rw[if_pos b];by_cases h:g=k
   .have a:=beq_iff_eq.mpr h;simp only[List.lookup,a,if_pos (h.trans b)]
   .have a:=beq_eq_false_iff_ne.mpr h;simp only[List.lookup,a,if_neg (λe:g=f=>h (e.trans b.symm))]
  .rw[if_neg b];by_cases h:g=k
   .have a:=beq_iff_eq.mpr h;simp only[List.lookup,a,if_neg (λe=>b (h.symm.trans e))]
   .have a:=beq_eq_false_iff_ne.mpr h;simp only[List.lookup,a];exact(lg f g v r)
theorem km(f:Str)(v:V):∀fs:List (Str×V),f∈(dz f v fs).map (·.1)/\∀g,g∈fs.map (·.1)->g∈(dz f v fs).map (·.1)
 |[]=>%[by simp[dz]|λg h=>by simp at h]
 |(k,x)::r=>by
  obtain⟨a,b⟩:=km f v r;rw[show dz f v _=(if k=f then(k,v)::r else(k,x)::dz f v r)from rfl]
  grind
theorem lh(f:Str)(v:V):∀fs,(dz f v fs).length<=fs.length+1
 |[]=>by simp[dz]
 |(k,x)::r=>by
  have a:=lh f v r;rw[show dz f v _=(if k=f then(k,v)::r else(k,x)::dz f v r)from rfl];by_cases b:k=f
  .simp_all
  simp_all
theorem fV.some_of(r:fV (some v) o):∃u,o=some u/\aL v u:=by
 cases o with
 | none=>exact(r).elim
 | some u=>exact%[u,rfl|r]
theorem fV.none_of(r:fV none o):o=none:=by
 cases o with
 | none=>rfl
 | some u=>exact(r).elim
theorem v7(r:aL v u):handedIn u=true:=by
 cases v with
 | non=>cases(r);rfl
 | bl b=>cases(r);rfl
 | int i=>obtain⟨t,e⟩:=(r);cases e;rfl
 | str x=>obtain⟨t,e⟩:=(r);cases e;rfl
 | byt b=>obtain⟨t,e⟩:=(r);cases e;rfl
 | flt b=>obtain⟨t,e⟩:=(r);cases e;rfl
 | ref a=>cases(r);rfl
 | ty n=>cases(r);rfl
section
variable{P:Program}{w:World}{H H':Hp}{h h':Heap}{a C dx:Addr}{fs fs':List (Str×V)}
theorem lW(c:HOk P w H h)(e:H a=some (.ins C dx fs)):∃b,tK h a dx C b/\(∀f,fV (fs.lookup f) (b f))/\PySem.Within b (fs.map (·.1))/\fs.length<=1000/\H dx=some (.own a):=by
 obtain⟨d,z,ne,g,b,n,r,q⟩:=(c a _ e)
 exact%[b,%[g,n|ne],r,q,z|d]
end
structure Cls (K:ZA) (C:Addr):Prop where
 pg:plainGet K C Str.empty=true
 hd:hasDictIn K C=true
 po:plainOver K C=true
 sa:findIn K (.ref C) "__setattr__"=some (some (.builtin "object.__setattr__"))
theorem Cls.get{K:ZA}{C:Addr}(c:Cls K C)(f:Str):plainGet K C f=true:=c.pg
def fO(K:ZA)(C:Addr)(f:Str):Prop:=findIn K (.ref C) f=some none
theorem fO.taker{K:ZA}{C:Addr}{f:Str}(n:fO K C f):takerIn K C f=some none:=by
 unfold takerIn;rw[n];rfl
structure AA (K:ZA) (C:Addr) (m:Str) (f:Addr):Prop where
 at_:findIn K (.ref C) m=some (some (.ref f))
 fn:isFn K (.ref f)=true
 kp:keepIn K (.ref f)=true
section
#version
variable{a C dx:Addr}{fs:List (Str×V)}{f:Str}{v:V}{A:Around}{E:ZD}
theorem tL(I:Inv X pins σ H s)(e:H a=some (.ins C dx fs))(c:Cls X.K C)(n:fO X.K C f)(l:fs.lookup f=some v)
 (h:∀u s',Inv X pins σ H s'->aL v u->Q u s'):wpAny (model X.prog X.w) A (getAttr (.ref a) f b) Q E s:=by
 obtain⟨i,O,r,_,_,_⟩:=lW I.hok e;obtain⟨u,g,d⟩:=fV.some_of (l▸r f);exact Ay I.kIn O (c.get f) c.hd n g (v7 d) (h u _ (I.tok _) d)
theorem tM(I:Inv X pins σ H s)(e:H a=some (.ins C dx fs))(c:Cls X.K C)(k:AA X.K C m g)(l:fs.lookup m=none)
 (h:Q (.ref g,[.ref a]) s):wpAny (model X.prog X.w) A (getMethod (.ref a) m pl) Q E s:=by
 obtain⟨b,O,r,_,_,_⟩:=lW I.hok e;exact yi I.kIn O (c.get m) k.at_ k.fn (fV.none_of (l▸r m)) h
theorem tN(I:Inv X pins σ H s)(e:H a=some (.ins C dx fs))(c:Cls X.K C)(n:fO X.K C f)(G:fs.length<1000)(l:aL y u)
 (h:∀s',Inv X pins σ (upd H a (.ins C dx (dz f y fs))) s'->Q () s'):wpAny (model X.prog X.w) A (setAttr (.ref a) f u) Q E s:=by
 obtain⟨m,O,r,i,_,j⟩:=lW I.hok e;refine Az I.kIn O c.sa c.po n.taker c.hd i (by rw[Z6,sizeLine_eq];lia) λh' d p=>h _ (I.write (e▸True.intro) (.inr j) (λb q t z=>(p.2 b t).trans z) (let⟨o,_,_,w,_⟩:=d.ns;%[o|w]) %[(ap O.ne)▸j,?_,O.ne,d.obj,_,d.ns,λg=>?_|λg B=>?_])
 .have:=lh f y fs;lia
 .rw[lg];by_cases q:g=f
  .rw[if_pos q,if_pos q];exact l
  .rw[if_neg q,if_neg q];exact r g
 .by_cases q:g=f
  .exact q▸(km f y fs).1
  .refine(km f y fs).2 g (i g λz=>B ?_);show(if g=f then some u else m g)=none;rw[if_neg q];exact z
theorem Inv.made(I:Inv X pins σ H s):Inv X pins σ (upd (upd H ⇑s (.own (⇑s+1))) (⇑s+1) (.ins C ⇑s []))
 (s>>>(s.heap.push emptyDict).push (instObj C ⇑s)):=by
 have c:(s.heap.push emptyDict).get? ⇑s=some emptyDict:=Zj s.heap rfl;have d:=by
  have:=Zj (s.heap.push emptyDict) (o:=instObj C ⇑s) rfl;rwa[Zq]at this
 refine(I.laid (o:= .own (⇑s+1)) (t':=s.toks) (λb u q=>Z7 _ q) (Zi _) %[_|c]).laid (λb u q=>Z7 _ q) (Nat.le_of_eq (Zq _ _)) ?_;have ne:⇑s≠⇑s+1:=Zt (Yr _);refine%[by rw[ap ne,aa],Xh _,ne,d,λ_=>none,(Heap.Ns1.of_empty %[emptyDict,#[],_,c,rfl,(λe g=>absurd g ∅)|λ_=>rfl]).at λo q=>Z7 _ q,λ_=>True.intro|λy h=>absurd rfl h]
theorem AB(c:attributeBase e f env (eval e env)=eval e env)
 (h:↥A (eval e env) (λo b=>↥A (getAttr o f true) Q E b) E s):↥A (eval (.Attribute e f pos) env) Q E s:=
 Attribute_any_ h (by rw[arm_eval_Attribute,c])
end
def Cz(K:ZA)(c:TE)(f:Str):TE:=λd H Q=>c d H λx b=>∃a C e fs v,x= .ref a/\b a=some (.ins C e fs)/\Cls K C/\fO K C f/\fs.lookup f=some v/\Q v b
def CA(K:ZA)(e g:TE)(f:Str):TS:=λD b H=>g b H λy h=>e b h λx c=>∃a C d fs,x= .ref a/\c a=some (.ins C d fs)/\Cls K C/\fO K C f/\fs.length<1000/\
 D.nx b (upd c a (.ins C d (dz f y fs)))
section
variable{X:Cx}{o e value:Expr}{f:Str}{pos pos' tpos:Pos}{ta tv:TE}
theorem CB(b:PE X e ta)(d:attributeBase e f X.env (eval e X.env)=eval e X.env):PE X (.Attribute e f pos) (Cz X.K ta f):=by
 intro pins s g H Q I h;refine AB d (thP (b pins s g H _ I h) λu w x i j m ⟨a,C,y,fs,v,ex,p,c,n,l,q⟩=>?_);subst ex;obtain rfl:u=Value.ref a:=m;exact tL j p c n l λz A r t=>%[v,i,r,t|q]
theorem CC(d:PE X o ta)(g:PE X value tv)(i:swapsWith value (some (.Attribute o f pos')) pos.line X.env=pure false):PS X (.Assign [.Attribute o f pos'] value pos) (CA X.K ta tv f):=by
 intro pins s b H D I h;refine plainObj_wpAny_Assign_Attribute (thP (g pins s b H _ I h) λu j y m p r q=>thP (d pins j b m _ p q) λt E x G v w ⟨a,C,J,fs,ex,z,c,n,l,A⟩=>?_) i;subst ex;obtain rfl:t=Value.ref a:=w;exact tN v z c n l r λL B=>%[b,_,B|A]
end
section
#version
variable{A:Around}{E:ZD}{Q:ZD}{c:Value}{b:Bool}
inductive jp (K:ZA) (H:Hp):V->Value->Prop where
 | non:jp K H .non (.type "NoneType")
 | bl (x:Bool):jp K H (.bl x) (.type "bool")
 | int (i:Int):jp K H (.int i) (.type "int")
 | str (x:Str):jp K H (.str x) (.type "str")
 | flt (x:UInt64):jp K H (.flt x) (.type "float")
 | lst {a:Addr} {xs:List V} (e:H a=some (.lst xs)):jp K H (.ref a) (.type "list")
 | frz {a:Addr} {o:Obj} {xs:List V} (e:H a=some (.frz o (.lst xs))):jp K H (.ref a) (.type "list")
 | tup {a:Addr} {xs:List V} (e:H a=some (.tup xs)):jp K H (.ref a) (.type "tuple")
 | dK {a:Addr} {kvs:List _} (e:H a=some (.dK kvs)):jp K H (.ref a) (.type "dict")
 | dT {a:Addr} {kvs:List _} (e:H a=some (.dT kvs)):jp K H (.ref a) (.type "dict")
 | ins {a C dx:Addr} {fs:List _} (e:H a=some (.ins C dx fs)) (cl:Cls K C) (ha:findIn K (.ref C) "__class__"=some (some (.builtin "object.__class__")))
  (hn:PySem.W.specialIn K (.builtin "object.__class__") "__get__"=some (some (.builtin "getset_descriptor.__get__"))) (htk:PySem.W.takesIn K (.builtin "object.__class__")=some true)
  (hm:PySem.W.mroIn K C (.type "object")=some true):jp K H (.ref a) (.ref C)
theorem v8(I:Inv X pins σ H s)(d:aL x u)(ty:jp X.K H x t)(e:kitOne X.K t c=some b)(h:∀tk,Q (.bool b) {s with toks:=tk}):
 wpAny (model X.prog X.w) A (call (.builtin "isinstance") [u,c]) Q E s:=by
 cases ty with
 | non=>cases(d);exact kia_one PySem.W.kitx_none I.kIn True.intro e (λz=>nomatch z) h
 | bl y=>cases(d);exact kia_one PySem.W.kitx_bool I.kIn True.intro e (λz=>nomatch z) h
 | int i=>obtain⟨t,q⟩:=(d);cases q;exact kia_one PySem.W.kitx_int I.kIn True.intro e (λz=>nomatch z) h
 | str y=>obtain⟨t,q⟩:=(d);cases q;exact kia_one PySem.W.kitx_str I.kIn True.intro e (λz=>nomatch z) h
 | flt y=>obtain⟨t,q⟩:=(d);cases q;exact kia_one PySem.W.kitx_float I.kIn True.intro e (λz=>nomatch z) h
 | @lst a xs f=>
   cases(d);obtain⟨_,_,n,_,g⟩:=(I.hok a _ f)
   exact kia_one kitx_list I.kIn %[_,g|rfl] e (λz=>nomatch z) h
 | @frz a M xs f=>
   cases(d);obtain⟨_,_,_,n,_,g⟩:=(I.hok a _ f)
   exact kia_one kitx_list I.kIn %[_,g|rfl] e (λz=>nomatch z) h
 | @tup a xs f=>
   cases(d);obtain⟨_,_,_,p⟩:=(I.hok a _ f)
   obtain⟨o,g,j,_⟩:=p;exact kia_one PySem.W.kitx_tuple I.kIn %[o,g|j] e (λz=>nomatch z) h
 | @dK a l f=>
   cases(show u=Value.ref a from d);obtain⟨_,_,vs,_,p⟩:=(I.hok a _ f)
   obtain⟨o,v,w,g,j,_⟩:=p;exact kia_one kitx_dict I.kIn %[o,g|j.1] e (λz=>nomatch z) h
 | @dT a l f=>
   cases(show u=Value.ref a from d);obtain⟨_,_,xs,_,o,v,w,g,j,_⟩:=(I.hok a _ f)
   exact kia_one kitx_dict I.kIn %[o,g|j.1] e (λz=>nomatch z) h
 | @ins a C N fs f r B G m L=>
   cases(d);obtain⟨T,O,_⟩:=lW I.hok f;obtain⟨U,J,_⟩:=O.look;exact kia_one (PySem.W.kitx_own (r.get _) r.hd B G m L) I.kIn J e (λz=>nomatch z) h
end
structure ce (k:Nat) (A:Around):Prop where
 hd:A.handled=none
 dp:A.depth+3*k+5<recursionLimit
 un:A.units+16*k+200<cLine
 gd:A.guards=some []
theorem ce.mono(r:ce k A)(h:j<=k):ce j A:=%[r.hd,by have:=r.dp;lia,by have:=r.un;lia|r.gd]
theorem ce.deeper(r:ce (k+1) A)(env:Env):ce k (A.deeper env):=
 %[r.hd,by have:=r.dp;show A.depth+1+3*k+5<_;lia,by have:=r.un;show A.units+3+16*k+200<_;lia|r.gd]
theorem tO{A:Around}:(A.under (.builtin "type.__call__" %[.ref C::us|a])).depth=A.depth+1:=by
 first|rfl|lia
theorem tP{A:Around}:(A.under (.builtin "type.__call__" %[.ref C::us|a])).units=A.units+1:=by
 first|rfl|lia
theorem ce.make(r:ce (k+1) A)(C:Addr)(us:ZF)(a:List (Str×Value)):ce k (A.under (.builtin "type.__call__" %[.ref C::us|a])):=
 %[r.hd,by have:=r.dp;rw[tO];lia,by have:=r.un;rw[tP];lia|r.gd]
theorem ce.depth(r:ce k A):A.depth<recursionLimit:=by have:=r.dp;lia
theorem ce.units(r:ce k A):A.units+64<cLine:=by have:=r.un;lia
def v9:TA:=λ_ H Q=>Q [] H
def yk(b:TE)(c:TA):TA:=λa H Q=>b a H λx d=>c a d λxs e=>Q (x::xs) e
section
variable{X:Cx}{e:Expr}{es:List Expr}{te:TE}{t:TA}{pos:Pos}
theorem CD:PA X [] v9:=λ_ _ _ _ H Q I h=>Calls.spliced_nil %[[],H,I,.nil|h]
theorem AC(b:PE X e te)(c:PA X es t)(d:starEach (e::es) X.env=(false,eval e X.env)::starEach es X.env):PA X (e::es) (yk te t):=by
 intro pos pins s a H Q I h;rw[d];show wpAny _ _ (spliced ((false,eval e X.env)::backTo pos _)) _ _ s;exact Calls.spliced_cons (thP (b pins s a H _ I h) λu f x g i j l=>thP (c pos pins f a g _ i l) λus q xs m n o p=>%[x::xs,m,n,.cons j o|p])
def CF(t:TA):TE:=λb H Q=>t b H λxs a=>xs.length<=sizeLine/\∀p,a p=none->Q (.ref p) (upd a p (.tup xs))
def CG(t:TA):TE:=λb H Q=>t b H λxs a=>xs.length<=sizeLine/\∀p,a p=none->Q (.ref p) (upd a p (.lst xs))
theorem CH{d}(h:PA X es t):PE X (.Tuple es d pos) (CF t):=by
 intro pins s f H Q I g;refine wpAny_Tuple_spliced (thP (h pos pins s f H _ I g) λus a xs i c r ⟨z,q⟩=>%[r.length▸z|?_]);have j:=c.hok.fresh (Zi _);refine%[.ref ⇑a,upd i ⇑a _,c.laid (λb u e=>Z7 _ e) (Zi _) ?_,rfl|q _ j];exact%[z,us,r,_,Zj _ rfl,rfl,_|rfl]
theorem CI(h:PA X es t):PE X (.List es pos) (CG t):=by
 intro pins s d H Q I f;refine wpAny_List_spliced (thP (h pos pins s d H _ I f) λus a xs g c r ⟨z,q⟩=>%[r.length▸z|?_]);have i:=c.hok.fresh (Zi _);refine%[.ref ⇑a,upd g ⇑a _,c.laid (λb u e=>Z7 _ e) (Zi _) ?_,rfl|q _ i];exact%[z,us,0,r|Zj _ rfl]
end
noncomputable abbrev Sp:=List V->Hp->VK->XK->Prop
noncomputable abbrev CXT:=List Env->Hp->Shared->XK->Value->Shared->Prop
structure wa (P:Program) (w:World) (K:ZA) (mg:ZC) (base:Heap) (A:Around) (outer:List Env) (s:Shared) (H:Hp):Prop where
 frames:A.frames=some outer
 mod:Mod K mg base
 bs:∀b o,base.get? b=some o->s.heap.get? b=some o/\H b=none
 bsz:base.objs.size<=⇑s
 funs:s.heap.FunFrames base outer
 frf:∀b∈frs outer,H b=none
 hok:HOk P w H s.heap
 bare:AllBare s.gens
def CE(outer:List Env)(P:Program)(w:World)(H:Hp)(s:Shared)(Q:VK)(u:Value)(s':Shared):Prop:=
 ∃v a,s'.os=s.os/\AllBare s'.gens/\Un (frs outer) [] H a s.heap s'.heap/\HOk P w a s'.heap/\aL v u/\Q v a
def CR(CX:CXT)(outer:List Env)(P:Program)(w:World)(H:Hp)(s:Shared)(Q:VK)(E:XK)(r:Result)(s':Shared):Prop:=
 match r with
 | .ok (.ret u)=>CE outer P w H s Q u s'
 | .ok _=>False
 | .error e=>CX outer H s E e s'
structure jq (P:Program) (w:World) (K:ZA) (mg:ZC) (base:Heap) (CX:CXT) (k:Nat) (f:Addr) (fd:FuncData) (ps:ZB) (sp:Sp):Prop where
 len:∀vs H Q E,sp vs H Q E->vs.length=ps.length
 run:∀A outer s H args us vs Q E,ce k A->wa P w K mg base A outer s H->BindsTo s fd args (ps.zip us)->aF vs us->sp vs H Q E->
  codeAny (model P w) A (.call (.ref f) args) (CR CX outer P w H s Q E) s
theorem wa.make{P:Program}{K:ZA}(e:wa P w K mg base A outer s H)(C:Addr)(us:ZF)(a:List (Str×Value)):
 wa P w K mg base (A.under (.builtin "type.__call__" %[.ref C::us|a])) outer s H:=⟨by first|exact e.frames|lia,e.mod,e.bs,e.bsz,e.funs,e.frf,e.hok,e.bare⟩
section
variable{X:Cx}{pins:ZE}{σ:St}{H:Hp}{s s':Shared}
theorem Inv.env0(I:Inv X pins σ H s):wa X.prog X.w X.K X.mg X.base X.A X.stack s H:=
 %[I.ok.frames,I.ok.mod,I.bs,Yj I.ok.bsz I.sz,I.stack,I.stkFree,I.hok|I.bare]
theorem Inv.after(I:Inv X pins σ H s)(h:CE X.stack X.prog X.w H s Q u s'):EP X pins σ Q u s':=by
 obtain⟨v,f,os,a,un,c,r,q⟩:=h;obtain⟨i,g,d,t,e⟩:=s';obtain rfl:e=s.os:=os;exact%[v,f,I.call un c a (λb z=>absurd z ∅),r|q]
end
def re(sp:Sp)(dvs:List V)(E:XK)(t:TA):TE:=λa H Q=>t a H λvs b=>sp (vs++dvs) b Q E
def vc(C:Addr)(m:Str)(sp:Sp)(dvs:List V)(E:XK)(d:TE)(t:TA):TE:=λb H Q=>d b H λx c=>∃a e fs,x= .ref a/\c a=some (.ins C e fs)/\fs.lookup m=none/\
 t b c λvs f=>sp (x::(vs++dvs)) f Q E
def vd(C:Addr)(sp:Sp)(dvs:List V)(E:XK)(t:TA):TE:=λc H Q=>t c H λvs b=>∀x a,b x=none->b a=none->a≠x->
 sp (.ref x::(vs++dvs)) (upd (upd b a (.own x)) x (.ins C a [])) (λv d=>v= .non/\Q (.ref x) d) E
def fE(K:ZA)(a:FuncData)(ps:ZB)(ds:ZF):Prop:=
 ∀s us,K.In s.heap->(us++ds).length=ps.length->BindsTo s a %[us|[]] (ps.zip (us++ds))
theorem fE.all{K:ZA}(h:∀us:ZF,us.length=ps.length->bindArgs b %[us|[]]=pure (ps.zip us)):fE K b ps []:=λs us _ a=>by
 rw[Zz]at a ⊢;exact .of_eq (h us a)
def jr(CX:CXT)(X:Cx)(E:XK):Prop:=∀pins (a:St) H s e s',Inv X pins a H s->CX X.stack H s E e s'->X.xe e s'
section
variable{X:Cx}{CX:CXT}{k:Nat}{f C:Addr}{fd:FuncData}{ps:ZB}{sp:Sp}{dvs:List V}{ds:ZF}{E:XK}{x m:Str}{p pos apos:Pos}{e o:Expr}{es:List Expr}{ta:TE}{t:TA}
theorem ym(F:jq X.prog X.w X.K X.mg X.base CX k f fd ps sp)(d:ce k X.A)(g:fE X.K fd ps ds)(i:aF dvs ds)(j:jr CX X E)
 (I:Inv X pins b H s) (r:aF vs us) (h:sp (vs++dvs) H Q E):(~~~X) (call (.ref f) us) (EP X pins b Q) X.xe s:=by
 have c:=r.append i;refine wpAny_call (codeAny_mono (F.run X.A X.stack s H _ _ _ Q E d I.env0 (g s us I.kIn (c.length▸F.len _ _ _ _ h)) c h) λr s' a=>?_);cases r with
 | error e=>exact j pins b H s e s' I a
 | ok l=>
   cases l with
   | ret u=>exact I.after a
   | next=>exact False.elim a
   | brk=>exact False.elim a
   | cont=>exact False.elim a
theorem AD(F:jq X.prog X.w X.K X.mg X.base CX k f fd ps sp)(d:ce k X.A)(g:Gl X x)(i:X.mg x=some (.ref f))(j:keepIn X.K (.ref f)=true)(l:fE X.K fd ps ds)(n:aF dvs ds)(u:jr CX X E)
 (v:PA X (e::es) t) (a:(x==("__debug__":Str))=false) (w:starEach (e::es) X.env=(false,eval e X.env)::starEach es X.env) (b:(backTo pos (starEach es X.env)).any (·.1)=false):
 PE X (.Call (.Name x p) (e::es) [] pos) (re sp dvs E t):=by
 intro pins s y H Q I h;exact wpAny_Call_Name_kw (pR I g i (callWith_K I.ok.mod.kin j (thP (v pos pins s y H _ I h) λus z vs A c r q=>%[c.kIn|ym F d l n u c r q]) w b) a)
theorem yn(i:PE X o ta)(c:Cls X.K C)(d:AA X.K C m f)(F:jq X.prog X.w X.K X.mg X.base CX k f fd ps sp)(j:ce k X.A)(n:fE X.K fd ps ds)(r:aF dvs ds)(v:jr CX X E)
 (w:eval (.Call (.Attribute o m apos) [] [] pos) X.env=(do
  let g<-eval o X.env
  standAt apos.atName
  let(f,first)<-holding [g] (getMethod g m pl)
  callWith pos f first (backTo pos (starEach [] X.env)) (backToKw pos (keywordEach [] X.env)))):
 PE X (.Call (.Attribute o m apos) [] [] pos) (vc C m sp dvs E ta v9):=by
 intro pins s y H Q I h;refine PySem.W.methodCall_KW (thP (i pins s y H _ I h) λu B x G b z ⟨a,J,fs,ex,A,l,q⟩=>?_) w;subst ex;obtain rfl:u=Value.ref a:=z;exact tM b A c d l (PySem.W.callWith_K0 b.kIn d.kp (ym (us:=[.ref a]) (vs:=[.ref a]) F j n r v b (.cons rfl .nil) q))
structure Mk (K:ZA) (C f:Addr):Prop where
 makes:makesIn K C=true
 init:findIn K (.ref C) "__init__"=some (some (.ref f))
 fn:isFn K (.ref f)=true
 kp:keepIn K (.ref C)=true
theorem yo(M:Mk X.K C f)(F:jq X.prog X.w X.K X.mg X.base CX k f fd ps sp)(j:ce (k+1) X.A)(l:fE X.K fd ps ds)(n:aF dvs ds)
 (q:jr CX X E) (I:Inv X pins d H s) (r:aF vs us)
 (h:∀x b,H x=none->H b=none->b≠x->sp (.ref x::(vs++dvs)) (upd (upd H b (.own x)) x (.ins C b [])) (λv w=>v= .non/\Q (.ref x) w) E):
 (~~~X) (call (.ref C) us) (EP X pins d Q) X.xe s:=by
 have g:=h (⇑s+1) ⇑s (I.hok.fresh (Yi _)) (I.hok.fresh (Zi _)) (Zt (Yr _));have c:=Inv.made (C:=C) I;have i:aF (V.ref (⇑s+1)::(vs++dvs)) _:= .cons rfl (r.append n);have y:=by
  have e:=i.length;rw[F.len _ _ _ _ g]at e;exact e.symm
 refine wpAny_call (yj I.kIn M.makes M.init (beq_iff_eq.mp M.fn) (codeAny_mono (F.run _ X.stack _ _ _ _ _ _ E (j.make C us [])
  (c.env0.make C us []) (l _ _ c.kIn y) i g) λr s' a=>?_))
 cases r with
 | error e=>exact q pins d _ _ e s' c a
 | ok z=>
   cases z with
   | ret u=>
     obtain⟨v,A,B,G,J,L⟩:=c.after a;subst J;exact%[G,V.ref _,A,B,rfl|L]
   | next=>exact False.elim a
   | brk=>exact False.elim a
   | cont=>exact False.elim a
theorem AE(M:Mk X.K C f)(F:jq X.prog X.w X.K X.mg X.base CX k f fd ps sp)(d:ce (k+1) X.A)(g:Gl X x)(i:X.mg x=some (.ref C))(j:fE X.K fd ps ds)(l:aF dvs ds)(n:jr CX X E)
 (u:PA X (e::es) t) (a:(x==("__debug__":Str))=false) (v:starEach (e::es) X.env=(false,eval e X.env)::starEach es X.env) (b:(backTo pos (starEach es X.env)).any (·.1)=false):
 PE X (.Call (.Name x p) (e::es) [] pos) (vd C sp dvs E t):=by
 intro pins s w H Q I h;exact wpAny_Call_Name_kw (pR I g i (callWith_K I.ok.mod.kin M.kp (thP (u pos pins s w H _ I h) λus y vs z c r q=>%[c.kIn|yo M F d j l n c r q]) v b) a)
end
section
variable{X:Cx}{CX:CXT}{k:Nat}{f C:Addr}{fd:FuncData}{ps ks:ZB}{sp:Sp}{E:XK}{x m:Str}{p pos apos kpos:Pos}{e o:Expr}{es:List Expr}{kws:List Keyword}{te ta:TE}{t tk:TA}{nm:Option Str}
variable{g:ZF->ZF->ZF}{gV:List V->List V->List V}
end
structure au (N P:ZB) (sc:Scope):Prop where
 kind:sc.kind= .function
 co:sc.isCoroutine=false
 gen:sc.isGenerator=false
 nd:N.Nodup
 pre:N.take P.length=P
 par:∀x∈P,sc.names.lookup x=some .local\/sc.names.lookup x=some .cell
 nofree:∀y∈sc.names,y.2≠ .free
theorem oE{kindOf:Str->Option NameKind}:∀{binds:List (Str×Value)} {m:ZC},(∀v,(x,v)∉binds)->bindL kindOf binds m x=m x
 |[],_,_=>rfl
 |(n,v)::r,m,h=>by
  unfold bindL;rw[oE λw hw=>h w (Zk _ hw)]
  split
  .have:x≠n:=by rintro rfl;exact h v Zm
   simp[this]
  .rfl
theorem oF{kindOf:Str->Option NameKind}:∀{binds:List (Str×Value)} {m:ZC},(∀v,(x,v)∉binds)->bindC kindOf binds m x=m x
 |[],_,_=>rfl
 |(n,v)::r,m,h=>by
  unfold bindC;rw[oF λw hw=>h w (Zk _ hw)]
  split
  .rfl
  .have:x≠n:=by rintro rfl;exact h v Zm
   simp[this]
theorem oG{kindOf:Str->Option NameKind}{x:Str}:∀{P:ZB} {vs:ZF} {i:Nat} {m:ZC},P.Nodup->P[i]? =some x->vs[i]? =some v->kindOf x=some .local->
 bindL kindOf (P.zip vs) m x=some v
 |[],_,_,_,_,h,_,_=>by simp at h
 | _::_,[],_,_,_,_,h,_=>by simp at h
 | p::P,w::vs,0,m,nd,a,b,c=>by
   simp at a b;subst a;subst b;show bindL kindOf ((p,w)::P.zip vs) m p=_;unfold bindL;rw[oE λv d=>(nodup_cons.mp nd).1 (of_mem_zip d).1,if_pos c];simp
 | p::P,w::vs,i+1,m,nd,a,b,c=>by
   show bindL kindOf ((p,w)::P.zip vs) m x=_;exact oG (nodup_cons.mp nd).2 (a) (b) c
theorem oH{kindOf:Str->Option NameKind}{x:Str}:∀{P:ZB} {vs:ZF} {i:Nat} {m:ZC},P.Nodup->P[i]? =some x->vs[i]? =some v->kindOf x≠some .local->
 bindC kindOf (P.zip vs) m x=some v
 |[],_,_,_,_,h,_,_=>by simp at h
 | _::_,[],_,_,_,_,h,_=>by simp at h
 | p::P,w::vs,0,m,nd,a,b,c=>by
   simp at a b;subst a;subst b;show bindC kindOf ((p,w)::P.zip vs) m p=_;unfold bindC;rw[oF λv d=>(nodup_cons.mp nd).1 (of_mem_zip d).1,if_neg c];simp
 | p::P,w::vs,i+1,m,nd,a,b,c=>by
   show bindC kindOf ((p,w)::P.zip vs) m x=_;exact oH (nodup_cons.mp nd).2 (a) (b) c
noncomputable def start(N:ZB)(vs:List V):St:=vs.map some++List.replicate (N.length-vs.length) none
noncomputable def pV(CX:CXT)(P:Program)(w:World)(K:ZA)(mg:ZC)(base:Heap)(N:ZB)(qual:Str)(scope:Scope)(f:Addr)(cd:Value)(A:Around)(outer:List Env)(s:Shared)(H:Hp)(E:XK):Cx where
 prog:=P
 w:=w
 K:=K
 mg:=mg
 base:=base
 A:=A.deeper (envOfC qual scope ⇑s f cd)
 N:=N
 s₀:=s
 H₀:=H
 env:=envOfC qual scope ⇑s f cd
 outer:=outer
 stack:=envOfC qual scope ⇑s f cd::outer
 ex:=[]
 calm:=true
 fn:=λ_=>true
 pn:=[]
 xe:=λe s'=>wpAny (model P w) (A.deeper (envOfC qual scope ⇑s f cd)) (leaving (envOfC qual scope ⇑s f cd) e) (λ_ s''=>CX outer H s E e s'') (λe' s''=>CX outer H s E e' s'') s'
theorem rg{a:Scope}{n:Nat}{x:Str}(h:a.names.lookup x=some .cell):∃c,(cellsFrom n a.names []).lookup x=some c:=by
 exact isSome_iff_exists.mp (cellsFrom_some a.names n [] (.inl h))
theorem wb{P:Program}{K:ZA}
 (S:au N ps a) (I:A.handled=none) (g:wa P w K mg base A outer s H) (Q:vs.length=ps.length) (r:aF vs us)
 (x:InCallC s ⇑s (bindL (envOfC d a ⇑s f B).kindOf (ps.zip us) λ_=>none) (cellsFrom (⇑s+1) a.names []) (bindC (envOfC d a ⇑s f B).kindOf (ps.zip us) λ_=>none) J):
 Inv (pV CX P w K mg base N d a f B A outer s H E) [] (start N vs) H J:=by
 have L:ps.length<=N.length:=by have:=congrArg List.length S.pre;rw[Yo]at this;lia
 obtain⟨t,tk,rfl,C⟩:=x.done;have l:∀b,b∉(pV CX P w K mg base N d a f B A outer s H E).ex:=λb z=>absurd (show b∈([])from z) ∅
 refine%[%[g.mod,S.kind,rfl,rfl,Zi _,λy z c t j=>?_,λy m=>?_,λy c _ h=>?_,λ_=>I,Around.frames_deeper g.frames,.inr %[rfl|rfl],λb z=>absurd z (l b),g.bs,g.bsz,λb _ _=>l b,λb z=>absurd z (l b),g.funs|g.frf],
  rfl,g.bare,Un.kept C,%[_,x.toInCall.ns|λi y v t j T=>?_],λy c h=>%[_|x.cell y c h],g.hok.fresh (Zi _),λy c h=>?_,λp n=>absurd (show p∈([])from n) ∅,g.hok.kept C|?_]
 .exact name_of_addr x.apart (PySem.mem_of_lookup t) (PySem.mem_of_lookup j)
 .rcases m with m|m
  .exact rg m
  .exact absurd rfl (S.nofree _ (PySem.mem_of_lookup m))
 .exact Yh (x.above y c (PySem.mem_of_lookup h))
 .have hi:i<vs.length:=by
   unfold start at j;by_cases hi:i<vs.length
   .exact hi
   .rw[Yb (by simpa using hi)]at j;rw[List.getElem?_replicate]at j
    split at j<;> cases j
  have M:vs[i]? =some v:=by
   unfold start at j;rw[Ya (by simpa using hi),Zl]at j
   simp_all
  obtain⟨u,G,O⟩:=r.get M;have n:ps[i]? =some y:=by
   rw[<-S.pre,List.getElem?_take_of_lt ⋯];exact t
  have o:ps.Nodup:=S.pre▸S.nd.sublist (List.take_sublist _ _);refine%[u,O|?_];rcases S.par y (Z8 n)with k|k
  .exact .inl %[k|oG o n G k]
  .obtain⟨c,e⟩:=rg k;refine .inr %[.inl k,c,e|?_];have q:=x.cell y c e;rw[oH o n G (by show a.names.lookup y≠_;rw[k];decide)]at q;exact q
 .exact g.hok.fresh (Yh (x.above y c (PySem.mem_of_lookup h)))
 .unfold start;show _=N.length;rw[Z9,Z6,List.length_replicate]
  lia
theorem EE{P:Program}{K:ZA}{U kV z Y d ct oc:Value}
 (lk:K.lookup f=some %[oc,od,.func (fnOf name c g i a U kV z Y an d ct)|ab]) (L:codeIn K d c=true) (S:au N ps a)
 (len:∀vs H Q E,sp vs H Q E->vs.length=ps.length)
 (l:∀(A:Around) (outer:List Env) (s:Shared) (H:Hp) (vs:List V) (Q:VK) (E:XK),ce k (A.deeper (envOfC c a ⇑s f d))->sp vs H Q E->
  ∃t,PSs (pV CX P w K mg base N c a f d A outer s H E) i t/\t {nx:=λ_ j=>Q .non j,rt:=Q} (start N vs) H):
 jq P w K mg base CX (k+1) f (fnOf name c g i a U kV z Y an d ct) ps sp:=by
 refine%[len|λA outer s H args us vs Q E M B hb r C=>?_];have KX:=B.mod.kin.keeps λb o e=>(B.bs b o e).1
 have O:=B.mod.nolimit.keeps λb o e=>(B.bs b o e).1
 have m:∀y∈ps.zip us,a.names.lookup y.1=some _\/(a.names.lookup y.1=some _/\((cellsFrom (⇑s+1) a.names []).lookup y.1).isSome=true):=λ⟨n,v⟩ hy=>by
  rcases S.par n (of_mem_zip hy).1 with q|q
  .exact .inl q
  .exact .inr %[q|cellsFrom_some _ _ _ (.inl q)]
 refine codeAny_call_function M.depth (KX _ _ lk) rfl S.co S.gen rfl (PySem.W.codeRec_of KX L) (hb _ _ _ _ (wpAny_newFunctionEnv_cells S.kind m λenv he s1 x=>?_));subst he;refine%[O.keeps x.toInCall.keep|codeAny_func ?_];obtain⟨t,ht,hq⟩:=l A outer s H vs Q E (M.deeper _) C;have I:Inv (pV CX P w K mg base N c a f d A outer s H E) [] _ H s1:=wb S M.hd B (len _ _ _ _ C) r x;refine wpAny_mono (ht [] s1 _ H _ I hq) (λfl s' p=>?_) λe s' p=>p
 have G:∀{h:St} {j:Hp} {v:V} {u:Value},Inv (pV CX P w K mg base N c a f d A outer s H E) [] h j s'->aL v u->Q v j->CE outer P w H s Q u s':=
  λ{h j v u} J T q=>%[v,j,J.os,J.bare,J.base,J.hok,T|q]
 cases fl with
 | ret u=>
   obtain⟨v,h,j,J,T,q⟩:=p;exact G J T q
 | next=>
   obtain⟨h,j,J,q⟩:=p;exact G (v:=V.non) J rfl q
 | brk=>
   obtain⟨_,_,_,q⟩:=p
   simp_all
 | cont=>
   obtain⟨_,_,_,q⟩:=p;exact False.elim q
section
variable{X:Cx}{x:Str}{p pos:Pos}{e:Expr}{es:List Expr}{t:TA}{id T:String}{r:List V->Hp->VK->Prop}
def tCB(r:List V->Hp->VK->Prop)(t:TA):TE:=λa H Q=>t a H λvs b=>r vs b Q
theorem yp(d:cx X (.builtin id) r)(f:Gl X x)(g:X.mg x=none)(i:bootBuiltins x=some (.builtin id))(j:PA X (e::es) t)(l:x≠"__name__")(a:(x==("__debug__":Str))=false)
 (m:starEach (e::es) X.env=(false,eval e X.env)::starEach es X.env) (b:(backTo pos (starEach es X.env)).any (·.1)=false):PE X (.Call (.Name x p) (e::es) [] pos) (tCB r t):=by
 intro pins s c H Q I h;exact wpAny_Call_Name_kw (iA I f g i (PyProof.Rows.callWith_builtin1 (thP (j pos pins s c H _ I h) λus n vs o q u v=>d pins n c o vs us Q q u v) m b) l a)
theorem wc(d:cx X (.type T) r)(f:Gl X x)(g:X.mg x=none)(i:bootBuiltins x=some (.type T))(j:PA X (e::es) t)(l:x≠"__name__")(a:(x==("__debug__":Str))=false)
 (m:starEach (e::es) X.env=(false,eval e X.env)::starEach es X.env) (b:(backTo pos (starEach es X.env)).any (·.1)=false):PE X (.Call (.Name x p) (e::es) [] pos) (tCB r t):=by
 intro pins s c H Q I h;exact wpAny_Call_Name_kw (iA I f g i (PyProof.Rows.callWith_type1 (thP (j pos pins s c H _ I h) λus n vs o q u v=>d pins n c o vs us Q q u v) m b) l a)
end
end L2
namespace HT
open PySem PyProof.Rows
section
open PySem.SeqAt
open PySem.AutoSeq1 (wpAny_loadPart')
open PySem.MeetsSeq PySem.MeetsSeq2 PySem.MeetsSeq3
end
section
#where
noncomputable def sIx(n d:Nat):Option Int->Nat
 | none=>d
 | some v=>if v<0 then(v+n).toNat else min v.toNat n
theorem sIx_none(n d:Nat):sIx n d none=d:=rfl
theorem sIx_nat(n d k:Nat):sIx n d (some k)=min k n:=by
 show(if k<0 then((k:Int) +n).toNat else min _ n)=min k n;rw[if_neg ⋯,Int.toNat_natCast]
theorem vf(v:Int)(n d:Nat):(if v<0 then max (v+n) 0 else min v n)=((sIx n d (some v))):=by
 show(if v<0 then max _ 0 else min v n)=(((if v<0 then(v+n).toNat else min v.toNat n):Nat))
 grind
theorem tQ(lo hi:Option Int)(n:Nat):Builtin.Slice.sliceAdjust lo hi 1 n=(((sIx n 0 lo):Int),((sIx n n hi):Int)):=by
 refine Prod.ext ?_ ?_
 .cases lo with
  | none=>rfl
  | some v=>exact vf v n 0
 .cases hi with
  | none=>rfl
  | some v=>exact vf v n n
theorem tR(i j:Nat):Builtin.Slice.slicePlaces i j 1=j-i:=by
 unfold Builtin.Slice.slicePlaces;have a:(1:Int)>0:=by lia
 simp only[a,if_true,Int.ediv_one]
 split<;> lia
theorem mw(p:IsPart v o)(h:Q o s):↥A (Builtin.Slice.slicePartIndex v) Q E s:=by
 cases p with
 | none=>exact slicePart_none h
 | int i t=>exact slicePart_int h
theorem ko{lo hi:Option Int}{n:Nat}(c:s.heap.IsSliceOf d e f .none)(pl:IsPart e lo)(g:IsPart f hi)
 (h:Q (((sIx n 0 lo:Nat):Int),1,sIx n n hi-sIx n 0 lo) s):↥A (Builtin.Slice.sliceApplied (.ref d) (pure (n:Int))) Q E s:=by
 obtain⟨os,a,i,b⟩:=id c;refine Z2 (Z2 (wpAny_field a b rfl (Z2 (wpAny_field a b rfl (Z2 (wpAny_field a b rfl (Z3 (Z2 (slicePart_none (Z2 (mw pl (Z2 (mw g (Z2 (Z3 ?_)))))))))))))));show wpAny _ _ (match Builtin.Slice.sliceAdjust lo hi 1 n with|(lo,hi)=>pure (lo,(1:Int),Builtin.Slice.slicePlaces lo hi 1)) _ _ s;rw[tQ lo hi n];show wpAny _ _ (pure _) _ _ s;rw[tR];exact Z3 h
theorem yq(xs:ZJ)(i k:Nat):((List.range k).filterMap λ(m:Nat)=>xs[((i:Int) +m*1).toNat]?).toArray=((xs.toList.drop i).take k).toArray:=by
 have e:(λ(m:Nat)=>xs[((i:Int) +m*1).toNat]?)=λm=>xs[i+m]? :=by
  funext m;have:((i:Int) +m*1).toNat=i+m:=by lia
  rw[this]
 rw[e];have:=pick_run xs i k;rw[List.filterMap_map]at this;have a:((λx=>xs[x]?) ∘ λx=>i+x)=λm=>xs[i+m]? :=rfl
 rw[a]at this;rw[this]
theorem getItem_tuple_cut{lo hi:Option Int}(c:IsTup s.heap t a)(g:s.heap.IsSliceOf i j l .none)(pl:IsPart j lo)(m:IsPart l hi)
 (hw: ¬ (sIx a.size 0 lo=0/\sIx a.size a.size hi=a.size))
 (h:Q (.ref ⇑s) {s with heap:=s.heap.push {cls:= .type "tuple",data:= .seq ((a.toList.drop (sIx a.size 0 lo)).take (sIx a.size a.size hi-sIx a.size 0 lo)).toArray}})
 (n:a.size<=sizeLine):↥A (getItem (.ref t) (.ref i)) Q E s:=by
 have b:sizeOk (.seq ((a.toList.drop (sIx a.size 0 lo)).take (sIx a.size a.size hi-sIx a.size 0 lo)).toArray):=by
  show((a.toList.drop _).take _).toArray.size<=sizeLine;rw[Zp,Yo,Yk,Zb]
  lia
 obtain⟨os,d,e,o⟩:=id g;unfold getItem
 try with_reducible refine wpAny_holding ?_
 refine Z2 (wpAny_sequenceKey c.typeIs (by decide) ?_);refine Z2 (wpAny_callSpecial?_slot c.typeIs PyProof.Rows.slot_tuple_getitem
  (wpAny_call_entry PyProof.Rows.slot_tuple_getitem c.typeIs entry_tuple_getitem ?_ (args_tuple_getitem _ _)))
 show wpAny _ _ (Builtin.Tuple.tupleItemsOf _>>= _) _ _ s;refine Z2 (tupleItemsOf_ c (Z2 (wpAny_typeOf %[os,d|e] (Z2 (ko g pl m ?_)))));have f: ¬ ((((sIx a.size 0 lo):Int)==0&&(1:Int)==1&&(sIx a.size a.size hi-sIx a.size 0 lo)==a.size)=true):=by
  lia
 show wpAny _ _ (if(((sIx a.size 0 lo):Int)==0&&(1)==1&&(sIx a.size a.size hi-sIx a.size 0 lo)==a.size)=true then _ else _) _ _ s;rw[if_neg f,yq]
 first
  | exact Z2 (wpAny_newObj_type (Z3 ⟨_,rfl,Z3 h⟩) b)
  | lia
  | lia
  | lia
end
end HT
namespace L2
open PySem PySem.Spec PyProof.Rows
noncomputable abbrev TO:=St->Hp->(Option Int->Hp->Prop)->Prop
def PO(X:Cx)(e:Option Expr)(t:TO):Prop:=
 ∀pins s (a:St) H Q,Inv X pins a H s->t a H Q->
  (~~~X) (evalPart e X.env) (λu s'=>∃o b,Inv X pins a b s'/\IsPart u o/\Q o b) X.xe s
def pW:TO:=λ_ H Q=>Q none H
def yr(t:TE):TO:=λa H Q=>t a H λx b=>asI x λi=>Q (some i) b
section
variable{X:Cx}{e:Expr}{te:TE}{lo hi:Option Expr}{tl th:TO}{pos p2:Pos}
theorem AF:PO X none pW:=by
 intro pins s a H Q I h;exact Z3 %[none,H,I,.none|h]
theorem AG(h:PE X e te):PO X (some e) (yr te):=by
 intro pins s a H Q I hw;refine thP (h pins s a H _ I hw) λu g x b c d f=>?_
 obtain⟨i,rfl,q⟩:=iz f;obtain⟨t,rfl⟩:=d;exact%[some i,b,c,.int i t|q]
def SlR(X:Cx)(r:V->Option Int->Option Int->Hp->VK->Prop):Prop:=
 ∀pins s (a:St) H x v b c lo hi d Q,Inv X pins a H s->aL x v->s.heap.IsSliceOf d b c .none->IsPart b lo->IsPart c hi->r x lo hi H Q->
  ∃T id,typeLookup (.type T) "__getitem__"=pure (some (.builtin id))/\s.TypeIs v T/\(~~~X) (getItem v (.ref d)) (EP X pins a Q) X.xe s
theorem SlR.or(h:SlR X r)(h':SlR X j):SlR X (λx lo hi H Q=>r x lo hi H Q\/j x lo hi H Q):=by
 intro pins s a H x v b c lo hi d Q I f g pl i q;rcases q with q|q
 .exact h pins s a H x v b c lo hi d Q I f g pl i q
 .exact h' pins s a H x v b c lo hi d Q I f g pl i q
def tSl(r:V->Option Int->Option Int->Hp->VK->Prop)(te:TE)(tl th:TO):TE:=λa H Q=>te a H λx b=>tl a b λl c=>th a c λu d=>r x l u d Q
theorem yt(c:SlR X r)(d:PE X e te)(f:PO X lo tl)(g:PO X hi th):PE X (.Subscript e (.Slice lo hi none p2) pos) (tSl r te tl th):=by
 intro pins s a H Q I h;refine Subscript_ (thP (d pins s a H _ I h) λv i x j m n o=>wpAny_Slice (thP (f pins i a j _ m o) λp t l w y pl z=>thP (g pins t a w _ y z) λA B u C E G J=>Z3 ?_));obtain⟨T,id,L,M,N⟩:=c pins _ a C x v p A l u ⇑B Q (E.kept λb O q=>Z7 _ q) n (Heap.IsSliceOf.new ..) pl G J;exact tail_any M L N (by with_unfolding_all rfl)
noncomputable def rh(xs:List V)(lo hi:Option Int):List V:=(xs.drop (HT.sIx xs.length 0 lo)).take (HT.sIx xs.length xs.length hi-HT.sIx xs.length 0 lo)
theorem lj(xs:List V)(lo hi:Option Int):(rh xs lo hi).length<=xs.length:=by
 unfold rh;rw[Yo,Yk]
 lia
def CJ(K:ZA):V->Option Int->Option Int->Hp->VK->Prop:=λx lo hi H Q=>∃a xs,x= .ref a/\SqT K H a xs/\
 ¬ (HT.sIx xs.length 0 lo=0/\HT.sIx xs.length xs.length hi=xs.length)/\∀p,H p=none->Q (.ref p) (upd H p (.tup (rh xs lo hi)))
theorem CL:SlR X (CJ X.K):=by
 intro pins s m H x v n o lo hi p Q I g i pl j h;obtain⟨a,xs,rfl,l,hw,q⟩:=h;cases g;obtain⟨its,r,d,f⟩:=I.tuple l;have c:its.toArray.size=xs.length:=r.length.symm;refine%["tuple",_,PyProof.Rows.slot_tuple_getitem.lookup,d.typeIs|HT.getItem_tuple_cut d i pl j (c▸hw) ?_ (c▸f)];rw[c];refine%[.ref ⇑s,_,I.laid (λb t q=>Z7 _ q) (Zi _) ?_,rfl|q _ (I.hok.fresh (Zi _))];exact%[Yj (lj xs lo hi) f,_,(r.drop _).take _|IsTup.new _ _]
end
noncomputable def ixN(n:Nat)(i:Int):Option Nat:=if 0<=i then(if i<n then some i.toNat else none)else if -n<=i then some (i+n).toNat else none
noncomputable def atI{a:Type}(xs:List a)(i:Int):Option a:=(ixN xs.length i).bind λj=>xs[j]?
theorem AH(h:ixN n i=some j):seqIndex? i n=some j/\j<n/\ -(n:Int)<=i/\i<n:=by
 unfold ixN at h;by_cases b:0<=i
 .rw[if_pos b]at h;by_cases a:i<n
  .rw[if_pos a]at h;exact%[by rw[seqIndex_of b a,(Za h)],⋯,⋯|a]
  simp_all
 .rw[if_neg b]at h;by_cases a: -n<=i
  .rw[if_pos a]at h;exact%[by rw[seqIndex_neg ⋯ a,(Za h)],⋯,a|⋯]
  .rw[if_neg a]at h;cases h
theorem pX{a:Type}{xs:List a}{i:Int}{v:a}(h:atI xs i=some v):∃j,seqIndex? i xs.length=some j/\xs[j]? =some v/\j<xs.length/\ -xs.length<=i/\i<xs.length:=by
 unfold atI at h;cases e:ixN xs.length i with
 | none=>simp_all
 | some j=>
   rw[e]at h;obtain⟨b,c,d,f⟩:=AH e;exact%[j,b,h,c,d|f]
theorem cC{a:Type}{xs:List a}{j:Nat}{v:a}(h:xs[j]? =some v):atI xs j=some v:=by
 have b:=(Xo h).1;have e:ixN xs.length j=some j:=by
  unfold ixN
  simp_all
 unfold atI;exact e▸h
theorem rj(xs:List a)(v:a):atI (xs++[v]) (-1)=some v:=by
 have b:(xs++[v]).length=xs.length+1:=by simp
 have e:ixN (xs++[v]).length (-1)=some xs.length:=by
  unfold ixN;rw[b,if_neg (by decide),if_pos ⋯]
  congr 1
  lia
 unfold atI
 simp_all
def jL(b:Expr):Prop:=∀o i,subscripted b false o i=operate [o,i] (getItem o i)
def IxR(X:Cx)(r:R2):Prop:=
 ∀b a pins s (c:St) H x y v u Q,Inv X pins c H s->aL x v->aL y u->r x y H Q->
  subscripted a false v u=operate [v,u] (getItem v u)->(~~~X) (subscriptTail b a v u) (EP X pins c Q) X.xe s
def MtR(X:Cx)(id:String)(r:V->List V->Hp->VK->Prop):Prop:=
 ∀pins s (a:St) H x xs v us Q,Inv X pins a H s->aL x v->aF xs us->r x xs H Q->
  (~~~X) (call (.builtin id) (v::us)) (EP X pins a Q) X.xe s
section
variable{X:Cx}{a b:Expr}{ta tb:TE}{pos:Pos}
theorem IxR.or(h:IxR X r)(h':IxR X j):IxR X (λx y H Q=>r x y H Q\/j x y H Q):=by
 intro c d pins s e H x y v u Q I f g q i;rcases q with q|q
 .exact h c d pins s e H x y v u Q I f g q i
 .exact h' c d pins s e H x y v u Q I f g q i
theorem vg(c:IxR X r)(d:PE X a ta)(e:PE X b tb)(f:jL b):PE X (.Subscript a b pos) (tOp r ta tb):=by
 intro pins s g H Q I h;exact Subscript_ (Cq d e I h λv u i x y j l m n q=>c a b pins i g j x y v u Q l m n q (f _ _))
def AI(K:ZA):R2:=λx y H Q=>asR x λp=>asI y λi=>∃xs,SqL K H p xs/\∃v,atI xs i=some v/\Q v H
def AJ(K:ZA):R2:=λx y H Q=>asR x λp=>asI y λi=>∃xs,SqT K H p xs/\∃v,atI xs i=some v/\Q v H
def AK:R2:=λx y H Q=>∃z i c,x= .str z/\y= .int i/\z.length<=sizeLine/\atI z.cps.toList i=some c/\Q (.str ⟨#[c]⟩) H
theorem vh:IxR X (AI X.K):=by
 intro e f pins s B H x y v u Q I C E h n;obtain⟨p,rfl,g⟩:=fW h;obtain⟨i,rfl,xs,G,z,J,q⟩:=iz g;cases C;obtain⟨t,rfl⟩:=E;obtain⟨its,r,pl,O⟩:=I.list G;obtain⟨j,d,g,T,L,M⟩:=pX J;obtain⟨w,o,l⟩:=r.get g;have N:=r.length;have U:=pU;have c:EP X pins B Q w s:=%[z,H,I,l|q]
 by_cases A:0<=i
 .have m:=by
   rw[seqIndex_of A M]at d;exact Za d
  exact item_listR pl.isList A ⋯ (by rw[m];simpa using o) c n
 .have m:(i+its.toArray.size).toNat=j:=by
   rw[seqIndex_neg ⋯ L]at d;rw[Zp,<-N];exact Za d
  exact subscriptTail_builtinR pl.isList.typeIs slot_list_getitem.lookup
   (wpAny_getItem_list_neg pl.isList ⋯ (by simp_all) ⋯ (by rw[m];simpa using o) %[rfl|c]) n
theorem yv:IxR X (AJ X.K):=by
 intro c d pins s l H x y v u Q I m n h o;obtain⟨p,rfl,e⟩:=fW h;obtain⟨i,rfl,xs,A,z,B,q⟩:=iz e;cases m;obtain⟨t,rfl⟩:=n;obtain⟨its,r,pl,G⟩:=I.tuple A;obtain⟨j,C,e,J,L,M⟩:=pX B;obtain⟨w,E,f⟩:=r.get e;have N:=pU;have g:EP X pins l Q w s:=%[z,H,I,f|q]
 exact subscriptTail_builtinR pl.typeIs slot_tuple_getitem.lookup
  (getItem_tuple pl ⋯ ⋯ (by rw[Zp,<-r.length];exact C) (by simpa using E) %[rfl|g]) o
theorem yw:IxR X AK:=by
 intro d e pins s A H x y v u Q I g l h m;obtain⟨z,i,c,rfl,rfl,B,n,q⟩:=h;obtain⟨t,rfl⟩:=g;obtain⟨t',rfl⟩:=l;obtain⟨j,f,o,C,p,r⟩:=pX n;have w:z.cps.toList.length=z.length:=by simp[Str.length]
 rw[w]at f p r;have E:=pU;exact tail_any (typeIs_str s z t) slot_str_getitem.lookup (getItem_str (by
  lia) (by rw[f];simpa using o) %[.str _,H,I.tok _,%[_|rfl]|q]) m
def rIx(K:ZA):R2:=λx y H Q=>AI K x y H Q\/AJ K x y H Q\/AK x y H Q
theorem CM:IxR X (rIx X.K):=vh.or (yv.or yw)
theorem pY(lo hi:Option Int)(n:Nat):(sliceBounds lo hi none n).1=((HT.sIx n 0 lo:Nat):Int)/\(sliceBounds lo hi none n).2.1=((HT.sIx n n hi:Nat):Int)/\(sliceBounds lo hi none n).2.2=1:=by
 refine%[?_,?_|rfl]
 .cases lo with
  | none=>simp[sliceBounds,HT.sIx]
  | some i=>
    simp only[sliceBounds,HT.sIx,getD_none,show(1:Int)>0 by decide,if_true];by_cases h:i<0
    .simp only[h,if_true]<;> lia
    .simp only[h,if_false]<;> lia
 .cases hi with
  | none=>simp[sliceBounds,HT.sIx]
  | some i=>
    simp only[sliceBounds,HT.sIx,getD_none,show(1:Int)>0 by decide,if_true];by_cases h:i<0
    .simp only[h,if_true]<;> lia
    .simp only[h,if_false]<;> lia
theorem nS(its:ZF)(lo hi:Option Int):slicePick its.toArray lo hi none=((its.drop (HT.sIx its.length 0 lo)).take (HT.sIx its.length its.length hi-HT.sIx its.length 0 lo)).toArray:=by
 obtain⟨c,d,e⟩:=pY lo hi its.toArray.size;unfold slicePick;rw[c,d,e];simp only[sliceRange_one,pick_run]<;> rfl
def CO(K:ZA):V->Option Int->Option Int->Hp->VK->Prop:=λx lo hi H Q=>∃a xs,x= .ref a/\SqL K H a xs/\∀p,H p=none->Q (.ref p) (upd H p (.lst (rh xs lo hi)))
theorem AL:SlR X (CO X.K):=by
 intro pins s l H x v m n lo hi o Q I e f pl g h;obtain⟨a,xs,rfl,i,q⟩:=h;cases e;obtain⟨its,r,d,j⟩:=I.list i;have c:=r.length;refine%["list",_,slot_list_getitem.lookup,d.isList.typeIs|wpAny_getItem_list_slice d.isList f pl g .none ∅ ?_ (by simp_all)];rw[nS,<-c];refine%[.ref ⇑s,_,I.laid (λb p q=>Z7 _ q) (Zi _) ?_,rfl|q _ (I.hok.fresh (Zi _))];exact%[Yj (lj xs lo hi) j,_,0,(r.drop _).take _|Zj _ rfl]
noncomputable def eS:V->Bool
 | .non=>true
 | .bl _=>true
 | .int _=>true
 | .str _=>true
 | _=>false
noncomputable def eqV:V->V->Bool
 | .non,.non=>true
 | .bl a,.bl b=>a==b
 | .bl a,.int b=>(if a then 1 else 0)==b
 | .int a,.bl b=>a==(if b then 1 else 0)
 | .int a,.int b=>a==b
 | .str a,.str b=>a==b
 | _,_=>false
theorem yx(d:aL y u)(c:aL x v)(f:eS y=true)(e:eS x=true):SeqAt.EqAt A s u v (eqV y x):=by
 cases y with
 | non=>
   cases d;cases x with
   | non=>cases c;exact SeqAt.EqAt.same _
   | bl b=>cases c;exact SeqAt.EqAt.none_bool b
   | int b=>obtain⟨t,rfl⟩:=c;exact SeqAt.EqAt.none_int b t
   | str b=>obtain⟨t,rfl⟩:=c;exact SeqAt.EqAt.none_str b t
   | _=>exact absurd (show false=true from e) Zu
 | bl a=>
   cases d;cases x with
   | non=>cases c;exact SeqAt.EqAt.bool_none a
   | bl b=>cases c;exact SeqAt.EqAt.bool_bool a b
   | int b=>obtain⟨t,rfl⟩:=c;exact SeqAt.EqAt.bool_int a b t
   | str b=>obtain⟨t,rfl⟩:=c;exact SeqAt.EqAt.bool_str a b t
   | _=>exact absurd (show false=true from e) Zu
 | int a=>
   obtain⟨t',rfl⟩:=d;cases x with
   | non=>cases c;exact SeqAt.EqAt.int_none a t'
   | bl b=>cases c;exact SeqAt.EqAt.int_bool a t' b
   | int b=>obtain⟨t,rfl⟩:=c;exact SeqAt.EqAt.int_int a t' b t
   | str b=>obtain⟨t,rfl⟩:=c;exact SeqAt.EqAt.int_str a t' b t
   | _=>exact absurd (show false=true from e) Zu
 | str a=>
   obtain⟨t',rfl⟩:=d;cases x with
   | non=>cases c;exact SeqAt.EqAt.str_none a t'
   | bl b=>cases c;exact SeqAt.EqAt.str_bool a t' b
   | int b=>obtain⟨t,rfl⟩:=c;exact SeqAt.EqAt.str_int a t' b t
   | str b=>obtain⟨t,rfl⟩:=c;exact SeqAt.EqAt.str_str a t' b t
   | _=>exact absurd (show false=true from e) Zu
 | _=>exact absurd (show false=true from f) Zu
noncomputable def eqU(x:V)(u:Value):Bool:=match u with
 | .none=>eqV .non x
 | .bool b=>eqV (.bl b) x
 | .int i _=>eqV (.int i) x
 | .str z _=>eqV (.str z) x
 | _=>false
theorem yy(r:aL y u)(f:eS y=true):eqU x u=eqV y x:=by
 cases y with
 | non=>cases r;rfl
 | bl b=>cases r;rfl
 | int i=>obtain⟨t,rfl⟩:=r;rfl
 | str z=>obtain⟨t,rfl⟩:=r;rfl
 | _=>exact absurd (show false=true from f) Zu
theorem pZ:∀{xs:List V} {us:ZF},aF xs us->xs.all eS=true->us.any (eqU x)=xs.any λy=>eqV y x
 | _,_,.nil,_=>rfl
 | y::xs,u::us,.cons r t,f=>by
   rw[List.all_cons,Zx]at f;rw[Zy,Zy,yy r f.1,pZ t f.2]
theorem my(d:aL x v)(e:eS x=true):∀{xs:List V} {us:ZF},aF xs us->xs.all eS=true->∀u∈us,SeqAt.EqAt A s u v (eqU x u)
 | _,_,.nil,_=>λu c=>by cases c
 | y::xs,u::us,.cons r t,f=>λg c=>by
   rw[List.all_cons,Zx]at f;rcases mem_cons.mp c with rfl|c
   .rw[yy r f.1];exact yx r d f.1 e
   .exact my d e t f.2 g c
noncomputable def inV(x:V)(xs:List V):Bool:=xs.any λy=>eqV y x
def rIn(K:ZA)(c:Bool):R2:=λx y H Q=>∃p xs,y= .ref p/\(SqL K H p xs\/SqT K H p xs)/\eS x=true/\xs.all eS=true/\Q (.bl (if c then !inV x xs else inV x xs)) H
theorem we:OpR X (compareOp .In) (rIn X.K false):=by
 intro pins s i H x y v u Q I d f h;obtain⟨p,xs,rfl,c,e,fs,q⟩:=h;cases f;rcases c with c|c
 .obtain⟨its,r,pl,g⟩:=I.list c;refine SeqAt.in_listAt _ pl.isList (λw hw=>my d e r fs w (by simpa using hw)) %[.bl _,H,I,rfl|?_];rw[show its.toArray.any _=its.any (eqU x) by simp,pZ r fs];exact q
 .obtain⟨its,r,pl,g⟩:=I.tuple c;refine SeqAt.in_tupleAt _ pl (λw hw=>my d e r fs w (by simpa using hw)) %[.bl _,H,I,rfl|?_];rw[show its.toArray.any _=its.any (eqU x) by simp,pZ r fs];exact q
theorem p7:cx X (.type "list") (λxs H Q=>∃p ys,xs=[.ref p]/\(SqL X.K H p ys\/SqT X.K H p ys)/\∀l,H l=none->Q (.ref l) (upd H l (.lst ys))):=by
 intro pins s z H xs us Q I r h;obtain⟨p,ys,rfl,f,q⟩:=h;obtain⟨u,rfl,A⟩:=dh r;cases A;have g:∀its,aF ys its->ys.length<=sizeLine->∀h' d,(∀b y,s.heap.get? b=some y->h'.get? b=some y)->
  h'.get? ⇑s=some _->EP X pins z Q _ (s>>>h'):=λits c i h' d j e=>
  %[.ref ⇑s,_,I.laid j (Zi _) (show dg X.prog X.w _ h' _ (.lst ys)from%[i,its,d,c|e]),rfl|q _ (I.hok.fresh (Zi _))]
 rcases f with f|f
 .obtain⟨its,c,pl,i⟩:=I.list f;have m:=c.length;obtain⟨o,t,v,n,w⟩:=pl.isList;exact call_list_seq p (.inl rfl) t v w (λh' d j e=>g its c i h' d j e) (by simp only[Zp]<;> lia)
 .obtain⟨its,c,pl,i⟩:=I.tuple f;have m:=c.length;obtain⟨o,t,v,n,w⟩:=pl;exact call_list_seq p (.inr rfl) t v w (λh' d j e=>g its c i h' d j e) (by simp only[Zp]<;> lia)
def tyV(K:ZA)(T:String)(x:V)(H:Hp):Prop:=match x with
 | .str _=>T="str"
 | .int _=>T="int"
 | .ref p=>(T="list"/\∃xs,SqL K H p xs)\/(T="tuple"/\∃o,K.lookup p=some o/\o.cls= .type "tuple"/\o.dict=none)\/
  (T="dict"/\((∃c,H p=some (.dK c))\/∃c,H p=some (.dT c)))\/(T="set"/\∃S n,H p=some (.set S n))
 | _=>False
theorem yz(I:Inv X pins q H s)(r:aL x v)(ty:tyV X.K T x H):
 s.TypeIs v T/\∀a,v= .ref a->∃j,s.heap.get? a=some j/\j.dict=none:=by
 cases x with
 | str z=>
   obtain⟨t,rfl⟩:=r;cases(show T="str" from ty);exact%[typeIs_str s z t|λ_ e=>nomatch e]
 | int i=>
   obtain⟨t,rfl⟩:=r;cases(show T="int" from ty);exact%[typeIs_int s i t|λ_ e=>nomatch e]
 | ref p=>
   cases r;rcases ty with⟨rfl,xs,l⟩|⟨rfl,o,d,m,f⟩|⟨rfl,d⟩|⟨rfl,S,n,d⟩
   .obtain⟨its,_,pl,_⟩:=I.list l;refine%[pl.isList.typeIs|λa e=>?_];cases e;obtain⟨o,n,e,c,f,_⟩:=pl;exact%[o,e|f]
   .refine%[%[o,I.kIn p o d|m]|λa e=>?_];cases e;exact%[o,I.kIn _ o d|f]
   .have z:∃o,s.heap.get? p=some o/\o.ExactDict:=by
     rcases d with⟨g,d⟩|⟨g,d⟩
     .obtain⟨_,_,_,_,o,_,_,e,ex,_⟩:=I.hok p _ d;exact%[o,e|ex]
     .obtain⟨_,_,_,_,o,_,_,e,ex,_⟩:=I.hok p _ d;exact%[o,e|ex]
    obtain⟨o,e,ex⟩:=z;refine%[%[o,e|ex.1]|λa h=>?_];cases h;exact%[o,e|ex.2.1]
   .obtain⟨o,_,_,_,e,ex,_⟩:=I.hok p _ d;refine%[%[o,e|ex.1]|λa h=>?_];cases h;exact%[o,e|ex.2.1]
 | _=>exact False.elim ty
def AM(K:ZA)(T:String)(r:V->List V->Hp->VK->Prop)(d:TE):TE:=λe H Q=>d e H λx c=>tyV K T x c/\r x [] c Q
def tBM(K:ZA)(T:String)(r:V->List V->Hp->VK->Prop)(e:TE)(t:TA):TE:=λc H Q=>e c H λx d=>tyV K T x d/\t c d λxs f=>r x xs f Q
variable{o e:Expr}{es:List Expr}{to:TE}{t:TA}{name:Str}{apos cpos:Pos}{T id:String}{r:V->List V->Hp->VK->Prop}
theorem CP(l:PlainAttrs T)(slot:Slot T name id)(f:typeOf (.builtin id)=pure (.type "method_descriptor"))(m:MtR X id r)(n:PE X o to)
 (c:attributeBase o name X.env (eval o X.env)=eval o X.env) (d:(apos.endLine==cpos.line)=true):PE X (.Call (.Attribute o name apos) [] [] cpos) (AM X.K T r to):=by
 intro pins s g H Q I h;refine wpAny_Call_method0_late c d (thP (n pins s g H _ I h) λv p x q i j ⟨ty,u⟩=>?_);obtain⟨w,y⟩:=yz i j ty;exact%[T,id,l,slot,f,w,y|Calls.callWith_builtin rfl (PySem.evalArgs_none (m pins p g q x [] v [] Q i j .nil u))]
theorem EF(p:PlainAttrs T)(slot:Slot T name id)(i:typeOf (.builtin id)=pure (.type "method_descriptor"))(q:MtR X id r)(u:PE X o to)(w:PA X (e::es) t)
 (d:attributeBase o name X.env (eval o X.env)=eval o X.env)
 (g:((backTo cpos (starEach (e::es) X.env)).all (λx=>!x.1)&&(backToKw cpos (keywordEach [] X.env)).all (λx=>x.1.isSome)
  && decide ((e::es).length+([]:List Keyword).length+(if([]:List Keyword).isEmpty then 0 else 1)<30))=true)
 (f:(apos.endLine==cpos.line)=true) (y:starEach (e::es) X.env=(false,eval e X.env)::starEach es X.env) (c:(backTo cpos (starEach es X.env)).any (·.1)=false):
 PE X (.Call (.Attribute o name apos) (e::es) [] cpos) (tBM X.K T r to t):=by
 intro pins s j H Q I h;refine wpAny_Call_method_late d g f rfl (thP (u pins s j H _ I h) λv z x A l m ⟨ty,B⟩=>?_);obtain⟨C,E⟩:=yz l m ty;refine%[T,id,p,slot,i,C,E|?_];have n:=w cpos pins z j A _ l B;rw[y]at n ⊢;exact Calls.callWith_builtin (by show(false||(backTo cpos _).any _)=false;rw[c]<;> rfl) (Calls.evalArgs_plain (thn n λus G ⟨vs,J,L,M,N⟩=>q pins G j J x vs v us Q L m M N))
end
def MtM(X:Cx)(id:String)(r:V->List V->Hp->VK->Prop):Prop:=
 ∀pins s (a:St) H x xs v us Q,Inv X pins a H s->aL x v->aF xs us->r x xs H Q->
  (~~~X) (call (.builtin id) (v::us)) (EP X pins a Q) X.xe s
theorem aF.one:∀{x:V} {us:ZF},aF [x] us->∃u,us=[u]/\aL x u
 | _,_,.cons r .nil=>%[_,rfl|r]
theorem aF.zero:∀{us:ZF},aF [] us->us=[]
 | _,.nil=>rfl
theorem aF.eraseIdx:∀{xs:List V} {us:ZF} i,aF xs us->aF (xs.eraseIdx i) (us.eraseIdx i)
 | _,_,_,.nil=> .nil
 | _,_,0,.cons _ t=>t
 | _,_,i+1,.cons r t=> .cons r (aF.eraseIdx i t)
theorem aF.reverse(h:aF xs us):aF xs.reverse us.reverse:=by
 induction h with
 | nil=>exact .nil
 | cons r t a=>rw[List.reverse_cons,List.reverse_cons];exact aF.append a (.cons r .nil)
theorem aF.rep(h:aF xs us):∀k:Nat,aF (List.replicate k xs).flatten (List.replicate k us).flatten
 | 0=> .nil
 | k+1=>by
   exact aF.append h (aF.rep h k)
theorem oI:∀(l:List a) (i:Nat),(l.eraseIdx i).length<=l.length
 |[],_=>Zi _
 | _::_,0=>Yi _
 | _::r,i+1=>Nat.succ_le_succ (oI r i)
theorem oJ(its:ZF):∀k acc,
 List.foldl (λa x2=>a++x2) acc.toArray (List.replicate k its.toArray)=(acc++(List.replicate k its).flatten).toArray
 | 0,acc=>by simp
 | k+1,acc=>by
   have e:acc.toArray++its.toArray=(acc++its).toArray:=by simp
   have b:(acc++its) ++(List.replicate k its).flatten=acc++(List.replicate (k+1) its).flatten:=by
    rw[List.replicate_succ,List.flatten_cons,Ze]
   rw[<-b,<-oJ its k _,<-e,List.replicate_succ,Y9]
section
#version
variable{l b:Addr}{xs ys zs:List V}
theorem Inv.lset{its its':ZF}{n:Nat}{f:ZJ->ZJ}{t':Nat}(I:Inv X pins σ H s)(a:H l=some (.lst xs))
 (e:s.heap.get? l=some {cls:= .type "list",data:= .seq its.toArray n}) (c:f its.toArray=its'.toArray) (d:aF ys its') (g:ys.length<=sizeLine):
 Inv X pins σ (upd H l (.lst ys)) {s with heap:=s.heap.update l (Obj.mapSeq f),toks:=t'}:=by
 have q:=PySem.IsL.update e f;rw[c]at q;refine I.write (a▸trivial) (.inl rfl) (λj u h i=>(get?_update_other s.heap _ (Ne.symm h)).trans i) %[_|q] ?_;exact%[g,its',_,d|q]
theorem Inv.lnew(I:Inv X pins σ H s)(a:aF ys its)(c:ys.length<=sizeLine):
 Inv X pins σ (upd H ⇑s (.lst ys)) {s with heap:=s.heap.push {cls:= .type "list",data:= .seq its.toArray},toks:=t'}:=
 I.laid (λ_ _ q=>Z7 _ q) (Zi _) %[c,its,0,a|Zj _ rfl]
theorem Inv.fresh(I:Inv X pins σ H s):H ⇑s=none:=I.hok.fresh (Zi _)
theorem Inv.lstM(I:Inv X pins σ H s)(a:H l=some (.lst xs)):xs.length<=sizeLine/\∃its n,aF xs its/\xs.length=its.length/\s.heap.get? l=some {cls:= .type "list",data:= .seq its.toArray n}:=by
 obtain⟨z,its,n,r,e⟩:=I.hok l _ a;exact%[z,its,n,r,r.length|e]
theorem ro{n:Nat}(h:n<=sizeLine):Builtin.List.listTooLong n=false:=by
 unfold Builtin.List.listTooLong
 simp_all
end
section
variable{X:Cx}
def p8:V->List V->Hp->VK->Prop:=λx vs H Q=>asR x λl=>∃y,vs=[y]/\∃xs,H l=some (.lst xs)/\xs.length<sizeLine/\Q .non (upd H l (.lst (xs++[y])))
theorem oK:MtM X "list.append" p8:=by
 intro pins s f H x vs v us Q I b c h;obtain⟨l,rfl,y,rfl,xs,a,g,q⟩:=fW h;cases b;obtain⟨u,rfl,d⟩:=c.one;obtain⟨z,its,n,r,i,e⟩:=I.lstM a;refine call_meets F.slot_list_append %[_,e|rfl] F.entry_list_append (F.args_list_append_2 _ _) (PySem.list_append l its.toArray n u (by simp_all)) %[e,.non,_,I.lset a e ∅ (r.append (.cons d .nil)) ?_,rfl|q];rw[Z9,Yn]
 lia
def p9:V->List V->Hp->VK->Prop:=λx vs H Q=>∃l b xs zs,x= .ref l/\vs=[.ref b]/\H l=some (.lst xs)/\H b=some (.lst zs)/\xs.length+zs.length<=sizeLine/\Q .non (upd H l (.lst (xs++zs)))
theorem wg:MtM X "list.extend" p9:=by
 intro pins s w H x vs v us Q I f g h;obtain⟨l,b,xs,zs,rfl,rfl,d,i,y,q⟩:=h;cases f;obtain⟨u,rfl,j⟩:=g.one;cases j;obtain⟨z,its,n,r,A,e⟩:=I.lstM d;obtain⟨B,its2,m,o,p,t⟩:=I.lstM i;have c:its.toArray.size+its2.toArray.size<=sizeLine:=by simp_all
 have a: ¬ (!its.toArray.isEmpty&&Builtin.List.listTooLong (its.toArray.size+its2.toArray.size))=true:=by
  rw[ro c,Bool.and_false];exact Zu
 refine call_meets F.slot_list_extend %[_,e|rfl] F.entry_list_extend (F.args_list_extend_2 _ _)
  (AutoSeq1.list_extend_list_list_0 l its.toArray n b its2.toArray m a ⋯ ⋯) %[e,t,.non,_,I.lset d e ∅ (r.append o) ?_,rfl|q]
 simp_all
def CQ:R2:=λx y H Q=>∃l b xs zs,x= .ref l/\y= .ref b/\H l=some (.lst xs)/\H b=some (.lst zs)/\xs.length+zs.length<=sizeLine/\∀p,H p=none->Q (.ref p) (upd H p (.lst (xs++zs)))
theorem CS:OpR X (binaryOp .Add) CQ:=by
 intro pins s o H x y v u Q I a c h;obtain⟨l,b,xs,zs,rfl,rfl,d,f,p,q⟩:=h;cases a;cases c;obtain⟨z,its,n,r,t,e⟩:=I.lstM d;obtain⟨w,its2,A,g,i,j⟩:=I.lstM f;refine PySem.P.add_list e j ?_ (by rw[Zp,Zp];lia);have m:its.toArray++its2.toArray=(its++its2).toArray:=by simp
 rw[m];exact%[.ref _,_,I.lnew (r.append g) (by rw[Z9];lia),rfl|q _ I.fresh]
def CT:R2:=λx y H Q=>∃l k xs,x= .ref l/\y= .int k/\H l=some (.lst xs)/\ -(2^63)<=k/\k<2^63/\xs.length*k.toNat<=sizeLine/\
 ∀p,H p=none->Q (.ref p) (upd H p (.lst (List.replicate k.toNat xs).flatten))
theorem AN(xs:List a)(k:Nat):(List.replicate k xs).flatten.length=k*xs.length:=by
 simp
theorem CU:OpR X (binaryOp .Mult) CT:=by
 intro pins s E H x y v u Q I o p h;obtain⟨l,k,xs,rfl,rfl,w,A,B,j,q⟩:=h;cases o;obtain⟨t,rfl⟩:=p;obtain⟨z,its,n,r,C,e⟩:=I.lstM w;have c:its.toArray.size*k.toNat<=sizeLine:=by rw[Zp,<-C];exact j
 have d: ¬ its.toArray.size*k.toNat>(2^63-1)/8:=by
  have:sizeLine<=(2^63-1)/8:=by decide
  lia
 have f: ¬ (!Builtin.List.listFitsIndex k)=true:=by
  rw[fitsIndex_both A B];exact Zu
 have b: ¬ Builtin.List.listTooLong (its.toArray.size*k.toNat)=true:=by
  rw[ro c];exact Zu
 have g:List.foldl (λi x2=>i++x2) #[] (List.replicate (if its.toArray.isEmpty=true then 0 else k.toNat) its.toArray)=(List.replicate k.toNat its).flatten.toArray:=by
  have G:∀m,List.foldl (λi x2=>i++x2) #[] (List.replicate m its.toArray)=(List.replicate m its).flatten.toArray:=λm=>by
   have:=oJ its m []
   simp_all
  cases its with
  | nil=>simp
  | cons a J=>simp_all
 refine wpAny_binaryOp_repeat_ref (by decide) %[_,e|rfl] (λs'=>typeIs_int s' k t) noFill_list_mul F.fills_int_mul F.slot_int_rmul repeat_list F.slot_int_index.lookup
  (call_meets F.slot_int_rmul (typeIs_int s k t) F.entry_int_rmul (F.args_int_rmul_2 _ _) (int___rmul___int_list k t l its.toArray n)
   %[e,rfl,%[_,e|rfl]|call_meets F.slot_list_mul %[_,e|rfl] F.entry_list_mul (F.args_list_mul_2 _ _) (AutoListH.list___mul___list_int_3 l its.toArray n k t f d b) %[e|?_]])
 rw[g];exact%[.ref _,_,I.lnew (r.rep k.toNat) (by rw[AN,Nat.mul_comm];exact j),rfl|q _ I.fresh]
end
section
#where
end
section
variable{X:Cx}
end
section
variable{κ:Type}[DecidableEq κ]
noncomputable def cE(a:List (κ×V))(k:κ):Option V:=(a.find? λb=>decide (b.1=k)).map (·.2)
noncomputable def d8(a:List (κ×V))(k:κ)(v:V):List (κ×V):=
 if(a.any λb=>decide (b.1=k))=true then a.map (λb=>if b.1=k then(b.1,v)else b)else a++[(k,v)]
theorem eT{p:κ×V}{r:List _}{k:κ}(e:p.1=k):cE (p::r) k=some p.2:=by simp[cE,e]
theorem di{p:κ×V}{r:List _}{k:κ}(e: ¬ p.1=k):cE (p::r) k=cE r k:=by simp[cE,e]
theorem iB(k:κ):∀a,(a.any λb=>decide (b.1=k))=(cE a k).isSome
 |[]=>rfl
 | p::r=>by
   rw[Zy];by_cases e:p.1=k
   .simp only[eT e,Zf e,Bool.true_or,Option.isSome_some]
   .rw[di e,Zh e,Bool.false_or];exact iB k r
theorem iC(a:List _)(k:κ)(v:V):(d8 a k v).length<=a.length+1:=by
 unfold d8
 split
 .simp
 simp_all
theorem jM{k:κ}(v:V)(h:cE a k=none):d8 a k v=a++[(k,v)]:=by
 unfold d8;rw[iB,h];exact if_neg (by decide)
theorem fV.isSome_eq(r:fV o u):o.isSome=u.isSome:=by
 cases o with
 | none=>cases u with
   | none=>rfl
   | some _=>exact(r).elim
 | some _=>cases u with
   | none=>exact(r).elim
   | some _=>rfl
theorem fV.getD{o:Option V}{u:Option Value}{d:V}{d':Value}(r:fV o u)(a:aL d d'):aL (o.getD d) (u.getD d'):=by
 cases o with
 | none=>cases u with
   | none=>exact a
   | some _=>exact(r).elim
 | some _=>cases u with
   | none=>exact(r).elim
   | some _=>exact r
theorem KV.val{vs:List (κ×Value)}(r:KV a vs)(k:κ):fV (cE a k) (valueAt vs k):=by
 induction r with
 | nil=>exact True.intro
 | @cons p q ps qs h t f=>
   obtain⟨d,g⟩:=h;by_cases e:p.1=k
   .have c:=d.symm.trans e;have b:valueAt (q::qs) k=some q.2:=by simp[valueAt,c]
    rw[eT e,b];exact g
   .have c: ¬ q.1=k:=λz=>e (d.trans z)
    have b:valueAt (q::qs) k=valueAt qs k:=by simp[valueAt,c]
    rw[di e,b];exact f
theorem KV.any(r:KV a vs)(k:κ):(a.any λb=>decide (b.1=k))=vs.any λb=>decide (b.1=k):=by
 induction r with
 | nil=>rfl
 | cons h t c=>simp_all
theorem KV.repl(r:KV c vs)(k:κ)(d:aL y u):
 KV (c.map λa=>if a.1=k then(a.1,y)else a) (vs.map λa=>if a.1=k then(a.1,u)else a):=by
 induction r with
 | nil=>exact .nil
 | @cons p q ps qs h t f=>
   rw[Yt,Yt];refine .cons ?_ f;obtain⟨b,g⟩:=h;by_cases e:p.1=k
   .rw[if_pos e,if_pos (b.symm.trans e)];exact%[b|d]
   .rw[if_neg e,if_neg (λz=>e (b.trans z))];exact%[b|g]
theorem KV.put(r:KV a vs)(k:κ)(b:aL y u):KV (d8 a k y) (stored vs k u):=by
 unfold d8 stored;rw[r.any k];by_cases e:(vs.any λc=>decide (c.1=k))=true
 .rw[if_pos e,if_pos e];exact r.repl k b
 .rw[if_neg e,if_neg e];exact Paired.snoc r %[rfl|b]
theorem KV.length{a:List (κ×V)}{vs:List _}(r:KV a vs):a.length=vs.length:=Paired.length r
end
theorem mz{P:Program}(r:aL (kV k) u):(aP P w).is k u=true:=by
 cases k with
 | inl i=>obtain⟨t,e⟩:=(r);subst e;exact qY P w i t
 | inr x=>obtain⟨t,e⟩:=(r);subst e;exact qZ P w x t
theorem oM{P:Program}:∀{ks:List Key} {us:ZF},aF (ks.map kV) us->ItemsAre (aP P w) ks us
 |[],_,r=>by cases r;exact .nil
 | k::ks,_,r=>by
   cases r with
   | cons h t=>exact .cons (mz h) (oM t)
noncomputable abbrev KT(H:Hp):List (List Key×V)->List (List Key×Addr×Value)->Prop:=Paired λp q=>p.1=q.1/\H q.2.1=some (.tup (p.1.map kV))/\aL p.2 q.2.2
theorem KT.val{a:List (List Key×V)}{xs:List (List Key×Addr×Value)}(r:KT H a xs)(k:List Key):fV (cE a k) ((atKey xs k).map (·.2)):=by
 induction r with
 | nil=>exact True.intro
 | @cons p q ps qs h t f=>
   obtain⟨d,_,g⟩:=h;by_cases e:p.1=k
   .have c:=d.symm.trans e;have b:atKey (q::qs) k=some q.2:=by simp[atKey,c]
    rw[eT e,b];exact g
   .have c: ¬ q.1=k:=λz=>e (d.trans z)
    have b:atKey (q::qs) k=atKey qs k:=by simp[atKey,c]
    rw[di e,b];exact f
theorem KT.repl(r:KT H b xs)(k:List Key)(f:aL y u):
 KT H (b.map λc=>if c.1=k then(c.1,y)else c) (xs.map (putAt k u)):=by
 induction r with
 | nil=>exact .nil
 | @cons p q ps qs h t g=>
   rw[Yt,Yt];refine .cons ?_ g;obtain⟨a,d,i⟩:=h;unfold putAt;by_cases e:p.1=k
   .rw[if_pos e,if_pos (a.symm.trans e)];exact%[a,d|f]
   .rw[if_neg e,if_neg (λz=>e (a.trans z))];exact%[a,d|i]
theorem KT.put(r:KT H a xs)(k:List Key)(d:H b=some (.tup (k.map kV)))(c:aL y u):
 KT H (d8 a k y) (storedH xs k b u):=by
 have e:(a.any λf=>decide (f.1=k))=(atKey xs k).isSome:=by
  rw[iB,(r.val k).isSome_eq,isSome_map]
 unfold d8 storedH;rw[e];by_cases q:(atKey xs k).isSome=true
 .rw[if_pos q,if_pos q];exact r.repl k c
 .rw[if_neg q,if_neg q];exact Paired.snoc r %[rfl,d|c]
theorem KT.keeps(r:KT H a xs)(c:∀b ys,H b=some (.tup ys)->d b=some (.tup ys)):KT d a xs:=
 Paired.mapP r λ_ _ z=>%[z.1,c _ _ z.2.1|z.2.2]
section
variable{P:Program}{w:World}{H:Hp}{h:Heap}{a:Addr}
theorem BQ(ok:HOk P w H h)(e:Rd H a u):dg P w H h a u:=e.ok ok
theorem rq(ok:HOk P w H h)(e:Rd H a (.dK b)):b.length<=sizeLine/\(a==sysModules)=false/\∃vs,KV b vs/\h.DictOf (aP P w) a vs:=
 BQ ok e
theorem rA(ok:HOk P w H h)(e:H a=some (.dK b)):b.length<=sizeLine/\(a==sysModules)=false/\∃vs,KV b vs/\h.DictOf (aP P w) a vs:=rq ok (.inl e)
theorem mB(ok:HOk P w H h)(e:H a=some (.tup (ks.map kV))):(tupleKind (aP P w)).is h ks a:=by
 obtain⟨_,its,r,o,b,c,n,d⟩:=(ok a _ e)
 exact%[o,its.toArray,n,b,c,d|oM r]
theorem rB(ok:HOk P w H h)(e:Rd H a (.dT b)):b.length<=sizeLine/\(a==sysModules)=false/\
 ∃xs,KT H b xs/\h.DictOfH (tupleKind (aP P w)) a xs:=by
 obtain⟨z,y,xs,r,o,d,f,g,i,j,n,s⟩:=(BQ ok e)
 refine%[z,y,xs,r,o,d,f,g,i,j,n,λx c=>?_|s];have all:∀{l:List _} {m:List _},KT H l m->∀x∈m,(tupleKind (aP P w)).is h x.1 x.2.1:=by
  intro l m q
  induction q with
  | nil=>simp
  | @cons p q ps qs v t u=>
    intro x c;rcases mem_cons.mp c with e|c
    .exact mB ok (by simp_all)
    .exact u x c
 exact all r x c
theorem EG(ok:HOk P w H h)(e:H a=some (.dT b)):b.length<=sizeLine/\(a==sysModules)=false/\
 ∃xs,KT H b xs/\h.DictOfH (tupleKind (aP P w)) a xs:=rB ok (.inl e)
end
def dC(H:Hp)(a:Addr)(y:V)(r:Option V):Prop:=
 (∃c k,Rd H a (.dK c)/\y=kV k/\r=cE c k)\/∃c k b,Rd H a (.dT c)/\y= .ref b/\H b=some (.tup (k.map kV))/\r=cE c k
def lN(H:Hp)(a:Addr)(y v:V)(d:Hp):Prop:=
 (∃c k,H a=some (.dK c)/\y=kV k/\c.length<sizeLine/\d=upd H a (.dK (d8 c k v)))\/
 ∃c k b,H a=some (.dT c)/\y= .ref b/\H b=some (.tup (k.map kV))/\c.length<sizeLine/\d=upd H a (.dT (d8 c k v))
theorem dC.k{k:Key}(e:H a=some (.dK b)):dC H a (kV k) (cE b k):= .inl %[b,k,.inl e,rfl|rfl]
theorem lN.k{k:Key}(e:H a=some (.dK b))(c:b.length<sizeLine):lN H a (kV k) v (upd H a (.dK (d8 b k v))):= .inl %[b,k,e,rfl,c|rfl]
section
#version
variable{a:Addr}{y v:V}{u r:Value}{o:Option V}{A:Around}{E:ZD}
theorem Inv.big(I:Inv X pins σ H s):sysModules<⇑s:=by
 exact Nat.lt_trans (by decide) ((I.mod.glob.keeps I.bk).lt)
theorem wj(t:A.units+1<cLine)(I:Inv X pins σ H s)(g:dC H a y (some v))(q:aL y u)(h:∀f s',Inv X pins σ H s'->aL v f->Q f s'):
 wpAny (model X.prog X.w) A (getItem (.ref a) u) Q E s:=by
 rcases g with⟨i,k,e,j,l⟩|⟨i,k,b,e,j,w,l⟩
 .subst j;obtain⟨z,B,vs,c,m⟩:=rq I.hok e;obtain⟨f,hw,d⟩:=fV.some_of (l▸c.val k);exact wpAny_getItem_of (mz q) m.mapOf hw (h f _ (I.tok _) d)
 .subst j;cases(q);obtain⟨z,B,xs,c,m⟩:=rB I.hok e;obtain⟨f,hw,d⟩:=fV.some_of (l▸c.val k);obtain⟨p,C,n⟩:=map_eq_some_iff.mp hw;refine wpAny_getItem_heap (tupleKind_room_in1 t) (mB I.hok w) m C ?_;rw[n];exact h f _ (I.tok _) d
theorem d_in(n:A.units+1<cLine)(I:Inv X pins σ H s)(g:dC H a y o)(m:aL y u)(h:∀s',Inv X pins σ H s'->Q (.bool o.isSome) s'):
 wpAny (model X.prog X.w) A (compareOp .In u (.ref a)) Q E s:=by
 rcases g with⟨d,k,e,f,l⟩|⟨d,k,b,e,f,p,l⟩
 .subst f;obtain⟨z,i,vs,c,j⟩:=rq I.hok e;refine wpAny_in_of (mz m) i j.mapOf ?_;rw[<-(c.val k).isSome_eq,<-l];exact h _ (I.tok _)
 .subst f;cases(m);obtain⟨z,i,xs,c,j⟩:=rB I.hok e;refine wpAny_in_heap (tupleKind_room_in1 n) (mB I.hok p) i j ?_;have q:=(c.val k).isSome_eq;rw[isSome_map]at q;rw[<-q,<-l];exact h _ (I.tok _)
theorem AO(n:A.units+1<cLine)(I:Inv X pins σ H s)(g:dC H a y o)(m:aL y u)(h:∀s',Inv X pins σ H s'->Q (.bool (!o.isSome)) s'):
 wpAny (model X.prog X.w) A (compareOp .NotIn u (.ref a)) Q E s:=by
 rcases g with⟨d,k,e,f,l⟩|⟨d,k,b,e,f,p,l⟩
 .subst f;obtain⟨z,i,vs,c,j⟩:=rq I.hok e;refine wpAny_notIn_of (mz m) i j.mapOf ?_;rw[<-(c.val k).isSome_eq,<-l];exact h _ (I.tok _)
 .subst f;cases(m);obtain⟨z,i,xs,c,j⟩:=rB I.hok e;refine wpAny_notIn_heap (tupleKind_room_in1 n) (mB I.hok p) i j ?_;have q:=(c.val k).isSome_eq;rw[isSome_map]at q;rw[<-q,<-l];exact h _ (I.tok _)
theorem qb(I:Inv X pins σ H s)(d:Mut (H a))(e:SameBut a s.heap h')(f:∃q,h'.get? a=some q)(new:dg X.prog X.w (upd H a c) h' a c):
 Inv X pins σ (upd H a c) {s with heap:=h',toks:=t'}:=
 I.write d (.inl rfl) (λb q g z=>(e.2 b g).trans z) f new
theorem yA{P:Program}(z:b.length<=sizeLine)(d:(a==sysModules)=false)(c:KV b vs)(e:h'.DictOf (aP P w) a vs):
 dg P w f h' a (.dK b):=%[z,d,vs,c|e]
theorem wk(M:A.units+1<cLine)(I:Inv X pins σ H s)(g:lN H a y v N)(C:aL y u)(G:aL v r)(h:∀s',Inv X pins σ N s'->Q () s'):
 wpAny (model X.prog X.w) A (setItem (.ref a) u r) Q E s:=by
 rcases g with⟨d,k,e,m,l,n⟩|⟨d,k,b,e,m,J,l,n⟩
 .subst m n;obtain⟨z,p,vs,f,t⟩:=rA I.hok e;have O:vs.length<=sizeLine:=f.length▸z;have w:(d8 d k v).length<=sizeLine:=by have:=iC d k v;lia
  exact wpAny_setItem_pairs (mz C) t λh' i B=>h _ (qb I (e▸True.intro) B (let⟨q,_,_,j,_⟩:=i;%[q|j]) (yA w p (f.put k G) i))
 .subst m n;cases(C);obtain⟨z,p,xs,f,t⟩:=EG I.hok e;have O:xs.length<=sizeLine:=(Paired.length f)▸z;have w:(d8 d k v).length<=sizeLine:=by have:=iC d k v;lia
  refine wpAny_setItem_heap (tupleKind_room_in1 M) (mB I.hok J) t λh' i B=>h _ ?_
  obtain⟨q,T,U,j,Y,h3,h4,_,h5⟩:=i;refine qb I (e▸True.intro) B %[q|j] %[w,p,_,(f.put k J G).keeps λc ys L=>?_,q,T,U,j,Y,h3,h4|h5];rw[ap (Ei L e (λz=>nomatch z))];exact L
end
section
#version
variable{a:Addr}{kvs:List (Key×V)}{k:Key}{u:Value}{A:Around}{E:ZD}
end
def CV(i:Expr):Prop:=∀a b,subscripted i false a b=operate [a,b] (getItem a b)
theorem AQ{T id:String}
 (m:typeLookup (.type T) "__getitem__"=pure (some (.builtin id))) (n:CV a)
 (h:↥A (eval c env) (λo e=>↥A (eval a env) (λi b=>b.TypeIs o T/\↥A (getItem o i) Q E b) E e) E s):
 ↥A (eval (.Subscript c a pos) env) Q E s:=by
 refine Subscript_ (wpAny_mono h (λo e g=>wpAny_mono g (λi b d=>?_) λ_ _ x=>x) λ_ _ x=>x);obtain⟨p,d⟩:=d;refine Z2 (Z2 (wpAny_specialOf p m ?_));have l:↥A (subscripted a false o i) (λr f=>↥A (letTemporaryGo c o r>>= λ_=>pure r) Q E f) E b:=by
  rw[n o i];exact wpAny_operating (wpAny_mono d (λr f j=>Z2 (wpAny_letTemporaryGo (Z3 j))) λ_ _ x=>x)
 first
  | exact Z3 (Z2 l)
  | lia
  | lia
theorem rC{X:Cx}(I:Inv X pins f H s)(g:dC H a y o):s.TypeIs (.ref a) "dict":=by
 rcases g with⟨c,k,e,_,_⟩|⟨c,k,b,e,_,_,_⟩
 .obtain⟨_,_,vs,_,d⟩:=rq I.hok e;exact d.typeIs
 .obtain⟨_,_,xs,_,d⟩:=rB I.hok e;exact d.typeIs
def yB(d ty:TE):TE:=λb H Q=>d b H λx e=>ty b e λy c=>∃a v,x= .ref a/\dC c a y (some v)/\Q v c
def CW(ty d:TE):TE:=λb H Q=>ty b H λy e=>d b e λx c=>∃a o,x= .ref a/\dC c a y o/\Q (.bl o.isSome) c
def qc(ty d:TE):TE:=λb H Q=>ty b H λy e=>d b e λx c=>∃a o,x= .ref a/\dC c a y o/\Q (.bl (!o.isSome)) c
def oN(d ty e:TE):TS:=λD b H=>e b H λv f=>d b f λx g=>ty b g λy h=>∃a c,x= .ref a/\lN h a y v c/\D.nx b c
section
variable{X:Cx}{o i e value:Expr}{pos pos' tpos:Pos}{td ty tv:TE}
theorem AR(f:X.A.units+1<cLine)(j:PE X o td)(hi:PE X i ty)(l:CV i):PE X (.Subscript o i pos) (yB td ty):=by
 intro pins s c H Q I h;refine AQ PySem.F.slot_dict_getitem.lookup l (thP (j pins s c H _ I h) λu m x n p q r=>thP (hi pins m c n _ p r) λB C y t d w ⟨a,v,ex,g,z⟩=>?_);subst ex;obtain rfl:u=Value.ref a:=q;exact%[rC d g|wj f d g w λE G A b=>%[v,t,A,b|z]]
theorem CY(c:X.A.units+1<cLine)(hi:PE X i ty)(d:PE X o td):PC X .In i o (CW ty td):=by
 intro pins s b H Q I h;refine thP (hi pins s b H _ I h) λz f y j l m n=>thP (d pins f b j _ l n) λu A x p q r ⟨a,t,ex,g,v⟩=>?_
 subst ex;obtain rfl:u=Value.ref a:=r;exact d_in c q g m λB w=>%[.bl t.isSome,p,w,rfl|v]
theorem wn(c:X.A.units+1<cLine)(hi:PE X i ty)(d:PE X o td):PC X .NotIn i o (qc ty td):=by
 intro pins s b H Q I h;refine thP (hi pins s b H _ I h) λw f y j l m n=>thP (d pins f b j _ l n) λu z x p q r ⟨a,A,ex,g,t⟩=>?_
 subst ex;obtain rfl:u=Value.ref a:=r;exact AO c q g m λB v=>%[.bl _,p,v,rfl|t]
theorem AS(c:X.A.units+1<cLine)(d:PE X o td)(hi:PE X i ty)(f:PE X value tv)(j:swapsWith value (some (.Subscript o i pos')) pos.line X.env=pure false):
 PS X (.Assign [.Subscript o i pos'] value pos) (oN td ty tv):=by
 intro pins s b H D I h;refine wpAny_Assign_Subscript (thP (f pins s b H _ I h) λr l v m n p q=>thP (d pins l b m _ n q) λu t x w z A B=>thP (hi pins t b w _ z B) λM N y O C E ⟨a,G,ex,g,J⟩=>?_) j;subst ex;obtain rfl:u=Value.ref a:=A;exact wk c C g E p λQ L=>%[b,G,L|J]
end
theorem yC{P:Program}(h:Heap)(a:sysModules<h.objs.size):dg P w H (h.push {cls:= .type "dict",data:= .dict #[]}) h.objs.size (.dK []):=
 %[Xh _,beq_eq_false_iff_ne.mpr (Ne.symm (Zt a)),[],.nil|Heap.DictOf.new h]
def tT:TE:=λ_ H Q=>∀p,H p=none->Q (.ref p) (upd H p (.dK []))
section
variable{X:Cx}{pos:Pos}
theorem yD:PE X (.Dict [] [] pos) tT:=λpins s a H Q I h=>
 wpAny_Dict_empty %[.ref ⇑s,_,I.laid (λ_ _ q=>Z7 _ q) (Zi _) (yC s.heap I.big),rfl|h _ (I.hok.fresh (Zi _))]
end
structure M2 (X:Cx) (o:Expr) (m:Str) (apos:Pos) (e f:Expr) (cpos:Pos):Prop where
 base:attributeBase o m X.env (eval o X.env)=eval o X.env
 few:((backTo cpos (starEach [e,f] X.env)).all (λx=>!x.1)&&(backToKw cpos (keywordEach [] X.env)).all (λx=>x.1.isSome)
  && decide (([e,f]).length+([]:List Keyword).length+(if([]:List Keyword).isEmpty then 0 else 1)<30))=true
 line:(apos.endLine==cpos.line)=true
 trees:backTo cpos (starEach [e,f] X.env)=[(false,eval e X.env),(false,eval f X.env)]
section
#version
variable{a:Addr}{y d:V}{u r:Value}{o:Option V}{A:Around}{E:ZD}
end
section
variable{X:Cx}{o e f:Expr}{apos cpos:Pos}{td ty tx:TE}
end
section
#version
variable{a:Addr}{kvs:List (Key×V)}{A:Around}{E:ZD}
end
section
#version
variable{a:Addr}{y:V}{u:Value}{A:Around}{E:ZD}
end
end L2
namespace Att
open PySem PySem.W PySem.Calls PyProof.Rows
theorem lO{P:Params}:∀(c:ZL) (vs:ZF),WellAll P h vs (c.map WData.int)->IntsAre vs c:=by
 intro c
 induction c with
 | nil=>
   intro vs w;cases w;exact .nil
 | cons n c d=>
   intro vs w;cases w with
   | cons a b=>
     cases a;exact .cons _ _ (d _ b)
theorem wo{l:OpenLaw}(o:l.most=some n){P:Params}
 (b:l.row.toRowW.claim.pre args=true) (j:WellAll P h e args):
 ∃a vs c,e=[Value.ref a]/\args=[WData.list (c.map WData.int)]/\h.get? a=some {cls:= .type "list",data:= .seq vs.toArray}/\IntsAre vs c/\c.length<=n:=by
 have m:l.pre.holds [] _=true:=(pre_splitW b).2;obtain⟨d,r,rfl,p,q⟩:=hasAllW_cons ((pre_splitW b).1);obtain rfl:=hasAllW_nil q;obtain⟨xs,rfl,s⟩:=hasW_list p;obtain⟨c,rfl⟩:=items_int s;have f:c.length<=n:=by
  unfold OpenLaw.pre at m;have i:=by
   have i:=(holds_andW m).1;rw[o]at i;exact i
  have w:=condW_of i (w_not (w_lt w_lit (w_len_list (w_arg rfl))))
  grind
 cases j with
 | cons t u=>
   cases u;cases t with
   | list v g=>exact%[_,_,c,rfl,rfl,v,lO c _ g|f]
theorem wp(l:OpenLaw)(args:List WData):l.row.toRowW.claim.post args (.bool true) args=true:=
 postW_of
  (by first|rfl|simp|lia)
  (w_eq_bool (w_res rfl) w_lit) rfl
theorem attach_call{l:OpenLaw}{n:Nat}{q:Program}
 (H:l.most=some n) (t:d.params.defaults=[])
 (call:∀(w:World) (s₀ b:Shared) (mg u:ZC) (h:Addr) (o:Obj) (v p c:Value) (a:Addr) (vs:ZF) (s:ZL),
  Ground q e [] I w s₀ mg u b.heap->J w b.heap->
  b.heap.get? h=some o->o.data= .func (docDef d.name d.params d.body d.scope v p c)->b.heap.CodeRec p d.name->mg d.name=some (.ref h)->
  b.heap.get? a=some {cls:= .type "list",data:= .seq vs.toArray}->IntsAre vs s->s.length<=n->b.gens= #[]->
  codeAny (model l.prog w) callerA (.call (.ref h) %[[.ref a]|[]]) (λr s'=>r= .ok (.ret (.bool true))/\OldK b.heap s'.heap/\s'.os=b.os/\AllBare s'.gens) b):
 WalkO q e I J l.row.toRowW d [] (λf vs=>PySem.call f vs):=by
 intro w s₀ b mg u G Y h o v p c L kV M N y B z O args C as i E Q A T;obtain rfl:L= .none:=Dflts.none B t;obtain rfl:kV= .none:=Dflts.noKw B;obtain⟨a,vs,s,rfl,rfl,j,g,m⟩:=wo H i A;refine enter_call (codeAny_mono (call w s₀ b mg u h o v p c a vs s G Y M (fd_plain N) y z j g m O) λr s' U=>?_);obtain⟨rfl,h2,h3,h4⟩:=U;exact%[.inl %[.bool true,.bool true,[],rfl,λ_=>rfl,.bool true,wp l _|λ_=>%[List.Pairwise.nil|λ_ hm=>(nomatch hm)]],h2,h3|h4]
section
#where
variable{K:Frag}
end
end Att
namespace L2
open PySem PySem.Spec PyProof.Rows
theorem oO:∀{vs:ZF} {a:ZL},IntsAre vs a->aF (a.map V.int) vs
 | _,_,.nil=> .nil
 | _,_,.cons n t h=> .cons %[t|rfl] (oO h)
def yE(H:Hp):Prop:=∀b,H b=none\/∃o xs,H b=some (.frz o (.lst xs))
theorem law_call{P:Program}{K:ZA}{mg I:ZC}{vs:ZF}
 (U:K.In c.heap) (p:c.heap.Ns mainGlobals mg) (g:c.heap.Ns builtinsNs I) (J:∀x:Str,x≠"__name__"->I x=bootBuiltins x) (t:c.heap.NoLimit) (hg:c.gens= #[])
 (L:c.heap.get? a=some {cls:= .type "list",data:= .seq vs.toArray}) (hi:IntsAre vs M) (Y:M.length<=sizeLine) (hr:ce k callerA)
 (F:∀base:Heap,K.In base->base.Ns mainGlobals mg->jq P w K mg base CX k fa fd [x] sp) (l:∀(s:Shared) (u:Value),BindsTo s fd %[[u]|[]] [(x,u)])
 (N:∀H:Hp,yE H->SqL K H a (M.map V.int)->sp [.ref a] H (λv _=>v= .bl true) λ_ _ _=>False)
 (O:∀H e s',CX [] H c (λ_ _ _=>False) e s'->False):
 codeAny (model P w) callerA (.call (.ref fa) %[[.ref a]|[]]) (λr s'=>r= .ok (.ret (.bool true))/\OldK c.heap s'.heap/\s'.os=c.os/\AllBare s'.gens) c:=by
 have rv:=oO hi;have j:∀H,yE H->SqL K H a (M.map V.int)->HOk P w H c.heap->(∀b,H b≠none->b=a)->(H a≠none->K.lookup a=none)->
  codeAny (model P w) callerA (.call (.ref fa) %[[.ref a]|[]]) (λr s'=>r= .ok (.ret (.bool true))/\OldK c.heap s'.heap/\s'.os=c.os/\AllBare s'.gens) c:=by
  intro H hO hS y hA hK;have f:∀{b:Addr} {o:Obj},c.heap.get? b=some o->H b=none->(vP c.heap H).get? b=some o:=λe n=>xM e n
  have Q:∀{b:Addr} {o:Obj} {E:Array DictEntry} {G:Nat},c.heap.get? b=some o->o.data= .dict E G->H b=none:=λ{b o E G} e d=>by
   grind
  have i:∀{b:Addr} {m:ZC},c.heap.Ns b m->(vP c.heap H).Ns b m:=λ{b m} ⟨o,E,G,e,d,r⟩=>%[o,E,G,f e (Q e d),d|r]
  have A:=λb o e=>f (U b o e) (by
   grind)
  refine codeAny_mono ((F _ A (i p)).run callerA [] c H _ _ [.ref a] _ _ hr %[rfl,%[A,i p,%[I,i g|J]|let⟨mc,h1,h2⟩:=t;%[mc,i h1|h2]],λb o e=>Ah e,Nat.le_of_eq (vQ _ _),trivial,λb g=>absurd (show b∈([])from g) ∅,y|.of_eq hg] (l c _) (.cons rfl .nil) (N H hO hS)) λr s' h=>?_
  cases r with
  | error e=>exact(O H e s' h).elim
  | ok fl=>
    cases fl with
    | next=>exact False.elim h
    | brk=>exact False.elim h
    | cont=>exact False.elim h
    | ret u=>
      obtain⟨v,H',os,B,un,C,r',q⟩:=h;subst q;obtain rfl:u=Value.bool true:=r';refine%[rfl,OldK.of_keep λb o e=>?_,os|B];cases q:H b with
      | none=>exact un.keep b o e q (by intro z;exact absurd (show b∈([])from z) ∅) ∅
      | some u=>
        rcases hO b with z|⟨ob,xs,z⟩
        .rw[q]at z;cases z
        .obtain⟨e1,_⟩:=y b _ z;obtain⟨e2,_⟩:=C b _ (un.frzs b ob _ z);rw[e]at e1;cases e1;exact e2
 cases T:K.lookup a with
 | some o=>
   have e:=U a o T;rw[L]at e;cases e;refine j _ (λ_=> .inl rfl) (.inr %[_,vs.toArray,_,T,rfl,rfl,rfl,by rw[Zp,hi.length];exact Y|rv]) (λb u z=>by simp_all) (λb z=>absurd rfl z) λz=>absurd rfl z
 | none=>
   refine j (λb=>if b=a then some (.frz {cls:= .type "list",data:= .seq vs.toArray} _)else none) (λb=>?_) (.inl (.inr %[{cls:= .type _,data:= .seq vs.toArray}|if_pos rfl])) (λb u z=>?_) (λb z=>?_) λ_=>T
   .by_cases g:b=a
    .exact .inr %[_,_|if_pos g]
    .exact .inl (if_neg g)
   .by_cases g:b=a
    .have z':=(if_pos g).symm.trans z;cases z';subst g;exact%[L,by rw[Z6];exact Y,vs,_,rv|L]
    simp_all
   .by_cases g:b=a
    .exact g
    .exact absurd (if_neg g) z
theorem walk_of{l:PySem.W.OpenLaw}{I:(Str->Option Value)->Heap->Prop}{C:World->Heap->Prop}{d:DefRec}{K:Params->ZA}{CX:World->CXT}{sp:World->Sp}{x:Str}
 (J:l.most=some n) (p:n<=sizeLine) (r:d.params.defaults=[]) (L:ce k callerA)
 (M:∀(w:World) (h:Heap),C w h->(K w.params).In h)
 (F:∀(w:World) (mg:ZC) (j:Addr) (h:Heap),(K w.params).In h->h.Ns mainGlobals mg->mg d.name=some (.ref j)->
  ∃t:FuncData,(∀(s:Shared) (u:Value),BindsTo s t %[[u]|[]] [(x,u)])/\
   ∀base:Heap,(K w.params).In base->base.Ns mainGlobals mg->jq l.prog w (K w.params) mg base (CX w) k j t [x] (sp w))
 (y:∀(w:World) (H:Hp) (a:Addr) (m:ZL),m.length<=n->yE H->SqL (K w.params) H a (m.map V.int)->sp w [.ref a] H (λv _=>v= .bl true) λ_ _ _=>False)
 (z:∀(w:World) (H:Hp) (s:Shared) (e:Value) (s':Shared),CX w [] H s (λ_ _ _=>False) e s'->False):
 PySem.W.WalkO q A I C l.row.toRowW d [] (λf vs=>PySem.call f vs):=by
 refine Att.attach_call J r λw s₀ g mg mb j o pm cd N a vs m G Y ho hd O B i c b Q=>?_
 have E:=M w _ Y;obtain⟨t,T,U⟩:=F w mg j _ E G.T.g B;exact law_call E G.T.g G.T.b G.T.builtins G.T.nolimit Q i c (Yj b p) L U T (λH hO hS=>y w H a m b hO hS) λH e s'=>z w H g e s'
noncomputable def jN(s:Stmt)(j:Nat):Stmt:=match s with
 | .ClassDef _ _ _ a _ _ _ _ _ _ _=>a.getD j (.Pass %[0,0,0|0])
 | _=> .Pass %[0,0,0|0]
noncomputable def ck(s:Stmt):Arguments:=match s with
 | .FunctionDef _ a _ _ _ _ _ _ _ _=>a
 | _=>{posonlyargs:=[],args:=[],vararg:=none,kwonlyargs:=[],kw_defaults:=[],kwarg:=none,defaults:=[]}
noncomputable def bH(s:Stmt):List Stmt:=match s with
 | .FunctionDef _ _ b _ _ _ _ _ _ _=>b
 | _=>[]
noncomputable def ai(s:Stmt):Scope:=match s with
 | .FunctionDef _ _ _ _ _ _ a _ _ _=>a
 | _=>{kind:= .function,names:=[],isGenerator:=false,isCoroutine:=false}
noncomputable abbrev CX0:CXT:=λ_ _ _ _ _ _=>False
noncomputable abbrev E0:XK:=λ_ _ _=>False
theorem yF{X:Cx}:jr CX0 X E0:=λ_ _ _ _ _ _ _ h=>h.elim
structure Fun (K:ZA) (x qual:Str) (st:Stmt) (f:Addr) (fd:FuncData):Prop where
 ex:∃oc od kV doc pm an cdv ct osl,
  fd=fnOf x qual (ck st) (bH st) (ai st) .none kV doc pm an cdv ct/\K.lookup f=some %[oc,od,.func fd|osl]/\codeIn K cdv qual=true
 kp:keepIn K (.ref f)=true
section
variable{P:Program}{w:World}{K:ZA}{mg:ZC}{base:Heap}
theorem Fun.ok{x a:Str}{st:Stmt}{f:Addr}{g:FuncData}{N ps:ZB}{k:Nat}{sp:Sp}(F:Fun K x a st f g)(S:au N ps (ai st))(len:∀vs H Q E,sp vs H Q E->vs.length=ps.length)
 (c:∀b (A:Around) (outer:List Env) s H (vs:List V) Q E,ce k (A.deeper (envOfC a (ai st) ⇑s f b))->sp vs H Q E->
  ∃t,PSs (pV CX0 P w K mg base N a (ai st) f b A outer s H E).nox (bH st) t/\t {nx:=λ_ i=>Q .non i,rt:=Q} (start N vs) H):jq P w K mg base CX0 (k+1) f g ps sp:=by
 obtain⟨n,o,kV,j,p,r,b,ct,l,rfl,lk,d⟩:=F.ex;refine EE lk d S len λA outer s H vs Q E m e=>?_
 obtain⟨t,h,q⟩:=c b A outer s H vs Q E m e;exact%[t,h.nox|q]
theorem Fun.binds{st:Stmt}(F:Fun K x c st f g)
 (h:∀(kV a d:Value) (e:ZI) (b ct:Value) (us:ZF),us.length=ps.length->bindArgs (fnOf x c (ck st) (bH st) (ai st) .none kV a d e b ct) %[us|[]]=pure (ps.zip us)):fE K g ps []:=by
 obtain⟨l,m,kV,a,d,e,b,ct,i,rfl,lk,j⟩:=F.ex;exact .all (h kV a d e b ct)
theorem eU{st:Stmt}{kV d e b ct:Value}(l:K.lookup f=some %[i,j,.func (fnOf x a (ck st) (bH st) (ai st) .none kV d e h b ct)|g])
 (c:codeIn K b a=true) (k:keepIn K (.ref f)=true):Fun K x a st f (fnOf x a (ck st) (bH st) (ai st) .none kV d e h b ct):=%[%[i,j,kV,d,e,h,b,ct,g,rfl,l|c]|k]
end
section
variable{X:Cx}
theorem pv(i:Nat)(b:X.N[i]? =some x)(c:Vis X.env.scope x)(d:(x==("__debug__":Str))=false)
 (a:(x==("__classdict__":Str))=false):PE X (.Name x pos) (nQ i):=xO b c d a
end
theorem CZ{A B:Prop}(h:B):if false=true then A else B:=by
 simp_all
theorem bI{c A B:Prop}[Decidable c](a:c->A)(b: ¬ c->B):if c then A else B:=by
 simp_all
def af(H a:Hp):Prop:=∀b o,H b=some o->a b=some o
theorem af.refl(H:Hp):af H H:=λ_ _ h=>h
theorem af.trans{H d e:Hp}(a:af H d)(b:af d e):af H e:=λc o h=>b c o (a c o h)
theorem af.free{H a:Hp}(e:af H a){l:Addr}(h:a l=Option.none):H l=Option.none:=by
 cases q:H l with
 | none=>rfl
 | some o=>
   rw[e l o q]at h;cases h
theorem af.seq{K:ZA}(e:af H b)(h:SqL K H a xs):SqL K b a xs:=by
 rcases h with(h|⟨o,h⟩)|h
 .exact .inl (.inl (e _ _ h))
 .exact .inl (.inr %[o|e _ _ h])
 .exact .inr h
section
variable{X:Cx}
end
section
variable{κ:Type}[DecidableEq κ]
theorem AT{a:List (κ×V)}(h:cE a k=some v):k∈a.map (·.1):=by
 have q:(a.any λb=>decide (b.1=k))=true:=by
  rw[iB,h]
  all_goals rfl
 simp_all
theorem lZ:∀{l:List κ} {k:κ},l.Nodup-> ¬ k∈l->(l++[k]).Nodup
 |[],k,_,_=>by simp
 | a::r,k,h,b=>by
   obtain⟨c,d⟩:=nodup_cons.mp h;refine nodup_cons.mpr %[λm=>?_|lZ d λm=>b (mem_cons.mpr (Or.inr m))];rcases Xp m with q|q
   .exact c q
   .exact b (mem_cons.mpr (Or.inl (Xq q).symm))
end
noncomputable def mC(env:Env):List (Str×NameKind)->List (Str×Addr)->List (Str×Addr)
 |[],acc=>acc
 |(n,k)::r,acc=>mC env r (if k= .free then(n,(env.cells.lookup n).getD 0)::acc else acc)
theorem mD:∀(names:List (Str×NameKind)) (acc:List (Str×Addr)),(∀y∈names,y.2= .free->∃c,env.cells.lookup y.1=some c)->
 (forIn names acc λx r=>match x with
  |(name,kind)=>if(kind==NameKind.free)=true then do let a<-cellOf env name;pure (ForInStep.yield ((name,a)::r))else pure (ForInStep.yield r):Sem (List (Str×Addr)))=pure (mC env names acc)
 |[],acc,_=>rfl
 |(n,k)::r,acc,h=>by
  have d:=λacc=>mD r acc λy f=>h y (Zk _ f)
  rw[forIn_cons];by_cases b:k= .free
  .subst b;obtain⟨c,e⟩:=h _ Zm rfl;have g:cellOf env n=pure c:=by unfold cellOf;rw[e]
   simp only[beq_self_eq_true,if_true,g,pure_bind];rw[d];show _=pure (mC env r _);rw[if_pos rfl,e]
   all_goals rfl
  .have i:(k==NameKind.free)=false:=by simpa using b
   simp only[i,Y2,if_false,pure_bind];rw[d];show _=pure (mC env r _);rw[if_neg b]
theorem AU(h:∀y∈a.names,y.2= .free->∃c,env.cells.lookup y.1=some c):closureFor a env=pure (mC env a.names []):=by
 unfold closureFor;simp only[bind_pure];exact(mD a.names [] h)
theorem rD:∀(names:List (Str×NameKind)) (acc:List (Str×Addr)),(∀y∈names,y.2= .free->∃c,env.cells.lookup y.1=some c)->
 (∀y d,acc.lookup y=some d->env.cells.lookup y=some d)->(mC env names acc).lookup x=some c->env.cells.lookup x=some c
 |[],acc,_,a,e=>a x c e
 |(n,k)::r,acc,h,a,e=>by
  refine rD r _ (λy b=>h y (Zk _ b)) (λy d q=>?_) e;by_cases f:k= .free
  .rw[if_pos f,Yp]at q;obtain⟨g,i⟩:=h _ Zm f;cases b:y==n with
   | true=>
     simp_all
   | false=>rw[b]at q;exact a y d q
  .rw[if_neg f]at q;exact a y d q
theorem mE:∀(names:List (Str×NameKind)) (acc:List (Str×Addr)),(∃c,acc.lookup x=some c)->∃c,(mC env names acc).lookup x=some c
 |[],_,h=>h
 |(n,k)::r,acc,h=>by
  refine mE r _ ?_;by_cases a:k= .free
  .rw[if_pos a,Yp];cases b:x==n with
   | true=>exact%[_|rfl]
   | false=>exact h
  .rw[if_neg a];exact h
theorem mF:∀(names:List (Str×NameKind)) (acc:List (Str×Addr)),(x,NameKind.free)∈names->∃c,(mC env names acc).lookup x=some c
 |[],_,h=>by simp at h
 |(n,k)::r,acc,h=>by
  rcases mem_cons.mp h with e|h
  .refine mE r _ ?_
   simp_all
  .exact mF r _ h
noncomputable def bQ(X:Cx)(a:Scope)(d:ZB)(b:Shared)(c:Hp)(e:List Addr):Cx:=
 {X with
  N:=d
  s₀:=b
  H₀:=c
  env:=compEnvC a (cellsFrom (⇑b+1) a.names (mC X.env a.names [])) ⇑b X.env
  outer:=X.stack
  stack:=X.stack
  ex:=e
  fn:=λx=>decide (a.names.lookup x=some .cell)
  pn:=[]
  xe:=λ_ _=>False}
structure az (X:Cx) (scope:Scope) (N':ZB) (cap:List (Nat×Nat)):Prop where
 kind:scope.kind= .function
 cell:∀y∈scope.names,y.2= .cell->scope.names.lookup y.1=some .cell
 loc:∀y∈scope.names,y.2= .local->scope.names.lookup y.1=some .local
 free:∀y∈scope.names,y.2= .free->X.env.kindOf y.1=some .cell\/X.env.kindOf y.1=some .free
 capt:∀p∈cap,∃x,N'[p.1]? =some x/\X.N[p.2]? =some x/\scope.names.lookup x=some .free
noncomputable def oP(n:Nat)(a:List (Nat×Nat))(b:St):St:=(List.range n).map λj=>(a.lookup j).bind λi=>(b[i]?).join
theorem lq:∀{l:List _} {j i:Nat},l.lookup j=some i->(j,i)∈l
 |[],_,_,h=>by simp at h
 |(a,b)::r,j,i,h=>by
  rw[Yp]at h;cases c:j==a with
  | true=>
    simp_all
  | false=>rw[c]at h;exact Zk _ (lq h)
theorem lw{env:Env}{names:List (Str×NameKind)}{x:Str}{k:NameKind}(h:(names.map λ(n,k)=>if(k==NameKind.free&&env.scope.kind== .function&&env.kindOf n==some .cell)then(n,NameKind.cell)else(n,k)).lookup x=some k)
 (a:k= .cell\/k= .free):(x,NameKind.free)∈names\/(x,NameKind.cell)∈names:=by
 have m:=PySem.mem_of_lookup h
 grind
theorem eO:∀names n acc,cellsFrom n names acc=cellsFrom n names [] ++acc
 |[],_,_=>rfl
 |(x,k)::r,n,acc=>by
  unfold cellsFrom
  split
  .rw[eO r _ _,eO r _ [(x,n)],Ze];rfl
  .exact eO r n acc
theorem kq:∀{names:List (Str×NameKind)} {n:Nat},(x,c)∈cellsFrom n names []->(x,NameKind.cell)∈names
 |[],_,h=>nomatch h
 |(y,k)::r,n,h=>by
  unfold cellsFrom at h
  split at h
  .rw[eO]at h;rcases Xp h with q|q
   .exact Zk _ (kq q)
   grind
  .exact Zk _ (kq h)
theorem lz(h:(cellsFrom n names acc).lookup x=some c):(x,c)∈cellsFrom n names []\/((cellsFrom n names []).lookup x=none/\acc.lookup x=some c):=by
 rw[eO,List.lookup_append]at h;cases e:(cellsFrom n names []).lookup x with
 | none=>rw[e]at h;exact .inr %[rfl|h]
 | some d=>
   rw[e]at h;have:=by simpa using h
   exact this▸ .inl (PySem.mem_of_lookup e)
theorem jO{env:Env}:∀{names:List (Str×NameKind)} {x:Str},names.lookup x=some .free->
 (names.map λ(n,k)=>if(k==NameKind.free&&env.scope.kind== .function&&env.kindOf n==some .cell)then(n,NameKind.cell)else(n,k)).lookup x=some .cell\/
 (names.map λ(n,k)=>if(k==NameKind.free&&env.scope.kind== .function&&env.kindOf n==some .cell)then(n,NameKind.cell)else(n,k)).lookup x=some .free
 |[],_,h=>by simp at h
 |(n,k)::r,x,h=>by
  have c:= @jO env r x;simp only[Yt];cases a:x==n with
  | true=>
    rw[Yp,a]at h;have d:=Za h;subst d;by_cases b:((NameKind.free==NameKind.free)&&env.scope.kind== .function&&env.kindOf n==some .cell)=true
    .rw[if_pos b,Yp,a];exact .inl rfl
    .rw[if_neg b,Yp,a];exact .inr rfl
  | false=>
    rw[Yp,a]at h;by_cases b:(k==NameKind.free&&env.scope.kind== .function&&env.kindOf n==some .cell)=true
    .rw[if_pos b,Yp,a];exact(c h)
    .rw[if_neg b,Yp,a];exact(c h)
section
#version
theorem Inv.kindL(I:Inv X pins σ H s)(h:X.env.kindOf x=some .cell\/X.env.kindOf x=some .free):∃c,X.env.cells.lookup x=some c:=I.ok.has x h
theorem Inv.block{a:Scope}{C:ZB}{fp:List Addr}{f:Heap}{tk:Nat}(S:az X a C n)(I:Inv X pins σ H s)(O:∀b∈fp,lM X pins H b)(J:∀b∈fp,b<⇑s)
 (hn:f.Ns ⇑s (λ_=>none)) (A:∀b u,s.heap.get? b=some u->f.get? b=some u) (nc:CellsOk f (⇑s+1) (cellsFrom (⇑s+1) a.names [])):
 Inv (bQ X a C s H fp) [] (oP C.length n σ) H {s with heap:=f,toks:=tk}:=by
 have h:∀x c,(mC X.env a.names []).lookup x=some c->X.env.cells.lookup x=some c:=λx c e=>rD a.names [] (λy hy hk=>I.kindL (S.free y hy hk)) (λ_ _ q=>by simp at q) e
 have o:∀x c,(cellsFrom (⇑s+1) a.names (mC X.env a.names [])).lookup x=some c->((x,c)∈cellsFrom (⇑s+1) a.names []/\f.IsCell c none/\⇑s+1<=c)\/(X.env.cells.lookup x=some c/\c<⇑s):=λx c e=>by
  rcases lz e with q|⟨_,q⟩
  .exact .inl %[q|nc.empty x c q]
  .have q':=h x c q;obtain⟨v,G,L,_⟩:=I.cell x c q';exact .inr %[q'|Zv L]
 refine%[%[I.ok.mod,S.kind,I.ok.glob,I.ok.blt,Zi _,λx y c h1 h2=>?_,λx hx=>?_,λx c hq e=>?_,I.ok.hd,I.ok.frames,.inl rfl,λb g=>%[?_|λx c e=>?_],I.bs,
  Yj I.ok.bsz I.sz,λb u e g=>?_,λb g Q=>?_,I.stack|I.stkFree],rfl,I.bare,Un.kept A,%[_,hn|λj x v e1 e2 e3=>?_],λx c e=>?_,I.hok.fresh (Zi _),λx c e=>?_,λp hp=>?_,I.hok.kept A|?_]
 .rcases o x c h1 with⟨q1,_,q2⟩|⟨q1,q2⟩<;> rcases o y c h2 with⟨r1,_,r2⟩|⟨r1,r2⟩
  .exact name_of_addr nc.apart q1 r1
  .exact absurd r2 (Nat.not_lt_of_le (Yj (Yi _) q2))
  .exact absurd q2 (Nat.not_lt_of_le (Yj (Yi _) r2))
  .exact I.ok.inj x y c q1 r1
 .have:(x,NameKind.free)∈a.names\/(x,NameKind.cell)∈a.names:=by
   rcases hx with q|q
   .exact lw q (.inl rfl)
   .exact lw q (.inr rfl)
  refine isSome_iff_exists.mp (cellsFrom_some a.names _ _ ?_);rcases this with q|q
  .exact .inr (isSome_iff_exists.mpr (mF a.names [] q))
  .exact .inl (S.cell _ q rfl)
 .rcases lz e with q|⟨q,_⟩
  .have:=(nc.empty x c q).2;show ⇑s<=c
   lia
  .have:=cellsFrom_some a.names (⇑s+1) [] (.inl (Zo hq));rw[q]at this;cases this
 .exact Zt (J b g)
 .rcases o x c e with⟨_,_,q⟩|⟨q,_⟩
  .exact λz=>absurd (J b g) (Nat.not_lt_of_le (Yj (Yi _) (z▸q)))
  .exact(O b g).2.2.2.2.1 x c q
 .rcases(O b g).2.2.2.1 with z|z
  .exact I.ok.noex b u e z
  .exact absurd (Zg (Zv e) (Yj I.ok.bsz z)) (Xm _)
 .rcases mem_cons.mp (I.stkSub b Q)with z|z
  .exact(O b g).2.1 z
  .exact(O b g).2.2.1 z
 ·
  have hj:∃i,n.lookup j=some i/\σ[i]? =some (some v):=by
   have t:((List.range C.length).map _)[j]? =some _:=e2;rw[Zl]at t;cases hr:(List.range C.length)[j]? with
   | none=>rw[hr]at t;cases t
   | some j'=>
     rw[hr]at t;have ab:j'=j:=by
      have:=Xo hr;obtain⟨h1,h2⟩:=this;simpa using h2.symm
     subst ab;have B:((n.lookup j').bind _)=some v:=Za t;cases T:n.lookup j' with
     | none=>rw[T]at B;cases B
     | some i=>
       rw[T]at B;refine%[i,rfl|?_];have U:(σ[i]?).join=some v:=B;cases Q:σ[i]? with
       | none=>rw[Q]at U;cases U
       | some w=>rw[Q]at U;have:w=some v:=U;rw[this]
  obtain⟨i,T,hi⟩:=hj;obtain⟨y,n1,n2,Y⟩:=S.capt _ (lq T);have ac:=Za (n1.symm.trans e1);subst ac;have M:=S.free _ (PySem.mem_of_lookup Y) rfl;obtain⟨m,hm,hl⟩:=I.loc;obtain⟨u,r,l⟩:=hl i y v n2 hi (by rcases M with q|q;exact .inr (.inl q);exact .inr (.inr q));refine%[u,r|.inr %[?_|?_]]
  .exact jO Y
  .rcases l with⟨k,_⟩|⟨_,c,E,hv⟩
   .rcases M with q|q
    .rw[k]at q;cases q
    .rw[k]at q;cases q
   .obtain⟨c',N⟩:=mF a.names [] (PySem.mem_of_lookup Y);have:=h y c' N;rw[E]at this;have e5:=Za this;subst e5;obtain⟨G,L,hd⟩:=hv;refine%[c,?_,G,A c G L|hd];show(cellsFrom _ _ _).lookup y=some c;rw[eO,List.lookup_append];cases e6:(cellsFrom _ a.names []).lookup y with
    | none=>simpa using N
    | some d=>
      have:=S.cell _ (kq (PySem.mem_of_lookup e6)) rfl;rw[Y]at this;cases this
 .rcases o x c e with⟨_,q,_⟩|⟨q,_⟩
  .exact%[none|q]
  .obtain⟨v,G,L,hd⟩:=I.cell x c q;exact%[v,G,A c G L|hd]
 .rcases o x c e with⟨_,_,q⟩|⟨q,_⟩
  .exact I.hok.fresh ⋯
  .exact I.freeC x c q
 .exact absurd (show p∈([])from hp) ∅
 .show(oP C.length n σ).length=C.length;unfold oP;rw[Z6,Ym]
end
def PTs(X:Cx)(a:List Expr)(t:TT):Prop:=
 ∀pins s (b:St) H Q,Inv X pins b H s->t b H Q->
  (~~~X) (forIn a true λc r=>if r=true then do let ok<-isTrue c X.env (eval c X.env);pure (ForInStep.yield ok)else pure (ForInStep.yield r)) (TP X pins b Q) X.xe s
def yG:TT:=λ_ H Q=>Q true H
theorem AV{X:Cx}:PTs X [] yG:=λ_ _ _ H _ I h=>wpAny_tests_nil %[H,I|h]
theorem AW{X:Cx}(h:PT X c t):PTs X [c] t:=λpins s a H Q I q=>wpAny_tests_one (h pins s a H Q I q)
def oQ(q:TI)(n:Nat)(f:List (Nat×Nat))(g:TG)(r:TT)(s:TE):TE:=λh H Q=>q h H λJ j=>∀D,j D=none->∃W:Nat->Nat->List V->St->Hp->Prop,
 (∃m,W 0 m [] (oP n f h) (upd j D (.lst [])))/\∀i m ys c d,W i m ys c d->(J.stop i d/\Q (.ref D) d)\/
  (J.go i d/\∀x l,J.yld i d x l->g x c l λa t=>r a t λb o=>if b=true then s a o λy p=>∃zs e,p D=some (.lst zs)/\zs.length<sizeLine/\e<m/\W (i+1) e (ys++[y]) a (upd p D (.lst (zs++[y])))
   else∃e,e<m/\W (i+1) e ys a o)
theorem AX{code:Value}
 (j:∀h',h'.Ns ⇑s (λ_=>none)->(∀b u,s.heap.get? b=some u->h'.get? b=some u)->CellsOk h' (⇑s+1) (cellsFrom (⇑s+1) a.names [])->
  Q (newEnv a ⇑s d (cellsFrom (⇑s+1) a.names f) g h code (some env) c) (s>>>h')):wpAny M A (newFunctionEnv a d f [] g h code (some env) c) Q E s:=by
 refine Z2 (wpAny_alloc (Z2 (wpAny_layCells _ (λname kind i=>by lia) _ _ _ _ ?_)));have ok:=cellsFrom_ok a.names (s.heap.push {cls:= .type "dict",data:= .dict #[]}) (⇑s+1) [] %[λ_ _ l=>(nomatch l)|List.Pairwise.nil] ∅;rw[Zq]at ok;rw[Zq ..];exact Z2 (Z3 (Z3 (j _ ((Heap.Ns.new s.heap _).keeps (pushCells_keeps _ _)) (λb u e=>pushCells_keeps _ _ b u (Z7 _ e)) ok)))
theorem oR{X:Cx}{a:Scope}(S:az X a N' a5)(hc:X.calm=true)(hi:PI X tg cf wi)
 (hg:∀L M A,PG (bQ X a N' L M A) tg g) (ht:∀L M A,PTs (bQ X a N' L M A) a6 tc) (he:∀L M A,PE (bQ X a N' L M A) a7 te)
 (hs:∀x,foldedSetIterable cf X.env x=pure x) (I:Inv X pins σ H s) (h:oQ wi N'.length a5 g tc te σ H Q)
 (a8:∀(D C:Addr) (O:Hp) (s6:Shared) (fl:Flow) (m:ZC),s6.heap.Ns C m->lM X pins O C->(∀h',SameBut C s6.heap h'->Inv X pins σ O (s6>>>h'))->Q (.ref D) O->compPost (model X.prog X.w) X.A X.xe use QQ (.ref D) C (.ok fl) s6):
 (~~~X) (comprehension (.ListComp a7 [%[tg,cf,a6|0]] a pos) a X.env cd (newList []) false (eval cf X.env) use) QQ X.xe s:=by
 refine wpAny_comprehension_free (use:=use) rfl hs (AU (λy hy hk=>I.kindL (S.free y hy hk))) S.kind S.loc (thn (hi pins s σ H _ I h) λv s1 h1=>thn h1 λcl l h2=>?_);obtain⟨it,A,tn,J,H2,e,I2,T,a9,f2,R⟩:=h2;subst e;refine wpAny_newObj_type (AX λU Y N ab=>?_);dsimp only at Y N ab ⊢;have I3:Inv X pins σ (upd H2 ⇑l (.lst [])) {l with heap:=l.heap.push {cls:= .type "list",data:= .seq ([]:ZF).toArray}}:=I2.lnew (its:=[]) (t':=l.toks) .nil (Xh _);have hD:H2 ⇑l=none:=I2.fresh;have as:∀b∈A,b<⇑l:=λb j=>by obtain⟨o,ho,_⟩:=T.obj 0 _ a9 b j;exact Zv ho
 generalize a2:({l with heap:=l.heap.push {cls:= .type "list",data:= .seq ([]:ZF).toArray}}:Shared)=B at I3
 have G:B.heap=l.heap.push {cls:= .type "list",data:= .seq ([]:ZF).toArray}:=by rw[<-a2]
 have bb:⇑B=⇑l+1:=by rw[G,Zq]
 have f3:∀b∈A,lM X pins (upd H2 ⇑l (.lst [])) b:=λb j=>%[(ap (Zt (as b j)))▸(f2 b j).1|(f2 b j).2]
 obtain⟨W,⟨m0,w0⟩,bc⟩:=R _ hD;have ag:∀b u,B.heap.get? b=some u->U.get? b=some u:=G▸N;have I4:Inv (bQ X a N' B (upd H2 ⇑l (.lst [])) A) [] (oP N'.length a5 σ) (upd H2 ⇑l (.lst [])) {B with heap:=U,toks:=B.toks}:=I3.block S f3 (λb j=>bb▸Yq (as b j)) (G▸Y) ag (G▸ab);have bf:tn 0 U:=T.keep _ _ _ a9 λb j o e=>ag b o (G▸Z7 _ e)
 have co:(bQ X a N' B (upd H2 ⇑l (.lst [])) A).env=compEnvC a _ ⇑B X.env:=rfl;have al:∀{H':Hp},(∀b∈A,H' b=none)->∀b∈A,lM _ [] H' b:=λhn b j=>
  %[hn b j,(I4.ok.exf b j).1,I4.ok.exfs b j,.inl j,(I4.ok.exf b j).2|λp hp=>absurd (show p∈([]:ZE)from hp) ∅]
 have a0:codeAny (model X.prog X.w) X.A (.compLoop (.ListComp a7 [%[tg,cf,a6|0]] a pos) 0 (.ref it) (.ref ⇑l) (bQ X a N' B (upd H2 ⇑l (.lst [])) A).env)
  (compPost (model X.prog X.w) X.A X.xe use QQ (.ref ⇑l) ⇑B) {B with heap:=U,toks:=B.toks}:=by
  refine codeAny_loop rfl (λn s'=>∃i ys bl H',Inv _ [] bl H' s'/\tn i s'.heap/\(∀b∈A,H' b=none)/\W i n ys bl H') ?_ m0 %[0,[],_,_,I4,bf,λb j=>(f3 b j).1|w0];rintro n s5 ⟨i,ys,an,O,I5,bm,br,w5⟩;show wpAny _ X.A _ _ _ s5;refine wpAny_noted ?_;rw[compTurn_list];refine Z2 (wpAny_standAt (Z2 ?_));rcases bc i n ys an O w5 with⟨stop,q⟩|⟨go,step⟩
  .refine thn (T.done (bQ X a N' B (upd H2 ⇑l (.lst [])) A) rfl rfl rfl hc i [] s5 an O _ I5 (al br) bm stop) λr s6 ⟨hr,I6⟩=>?_
   subst hr;refine Z3 ?_;obtain⟨m6,b1,_⟩:=I6.loc;refine a8 ⇑l ⇑B O s6 _ m6 b1 (I2.fpOk (bb▸Yi _) I6.free) (λh' sb=>?_) q;have u6:Un (frs X.stack) A (upd H2 ⇑l (.lst [])) O B.heap s6.heap:=I6.base;have a3:∀b u,B.heap.get? b=some u->b≠⇑B:=λb u e=>Zt (Zv e)
   have u7:Un (frs X.stack) A (upd H2 ⇑l (.lst [])) O B.heap h':=%[λb u e n j hx=>(sb.2 b (a3 b u e)).trans (u6.keep b u e n j hx),λb u e n j hx=>by
    obtain⟨sl,q⟩:=u6.slot b u e n j hx;exact%[sl|(sb.2 b (a3 b u e)).trans q],u6.free,λb u e hx=>by
    obtain⟨o',q⟩:=u6.there b u e hx;exact%[o'|(sb.2 b (a3 b u e)).trans q],u6.tups,u6.frzs|u6.tbls]
   have b2:HOk X.prog X.w O h':=λb u e=>by
    have bt:∀c w,O c=some w->c≠⇑B:=λc w q z=>by
     have:O ⇑B=none:=I6.free;rw[z,this]at q;cases q
    refine(I6.hok b u e).stay (λc w b3 q=>(sb.2 c ?_).trans q) (λ_ q=>q) λ_ _ q=>q
    rcases b3 with z|z
    .exact z▸bt b u e
    .exact bt c _ z
   exact I2.call' (s':=(s6>>>h')) (ch:=A) (by show s6.os=l.os;rw[I6.os,<-a2];rfl) ((Un.laid (λb u e=>G▸Z7 _ e) (Zi _) hD).trans u7) b2 I6.bare λb j=>%[(f2 b j).2.2.2.1,(f2 b j).2.1,(f2 b j).2.2.2.2.1|(f2 b j).2.2.2.2.2]
  .refine thn (T.item (bQ X a N' B (upd H2 ⇑l (.lst [])) A) rfl rfl rfl hc i [] s5 an O _ I5 (al br) bm go) λr s6 ⟨u,hr,h6⟩=>?_
   subst hr;refine Z2 (thn h6 λ_ s7 ⟨x,H7,I7,r7,y7,a4,b4⟩=>?_);have ac:∀{α:Type} {t:Sem α} {Q1:α->Shared->Prop} {E2:ZD} {s':Shared},(~~~X) t Q1 (λ_ _=>False) s'->(~~~X) t Q1 E2 s':=λh=>wpAny_mono h (λ_ _ q=>q) λ_ _ f=>f.elim
   have a1:∀{E:St} {H8:Hp} {s8:Shared},Inv (bQ X a N' B (upd H2 ⇑l (.lst [])) A) ([] ++pT A s7.heap) E H8 s8->
    Inv _ [] E H8 s8/\tn (i+1) s8.heap/\∀b∈A,H8 b=none:=λ{E H8 s8} I8=>by
    refine%[I8.unpinned,T.keep _ _ _ a4 λb j o e=>(I8.pin (b,o) (Yx _ (Yx _ (eR j e)))).1|λb j=>?_];obtain⟨o,e,d⟩:=T.obj _ _ a4 b j;exact(I8.pin (b,o) (Yx _ (Yx _ (eR j e)))).2.1
   refine Z2 (ac (thn (hg B _ A _ s7 an H7 x u _ (I7.pinned (al b4) (T.obj _ _ a4)) r7 (step x H7 y7)) λ_ s8 ⟨E,H8,I8,q8⟩=>Z2 (ac (thT (ht B _ A _ s8 E H8 _ I8 q8) λb s9 H9 I9 q9=>?_))));cases b with
   | false=>
     obtain⟨m',hm,w9⟩:=(q9)
     obtain⟨J1,J2,J3⟩:=a1 I9;exact Z3 %[rfl,m',hm,i+1,ys,E,H9,J1,J2,J3|w9]
   | true=>
     have q9:=(q9:te E H9 λy O=>∃zs m',O ⇑l=some (.lst zs)/\zs.length<sizeLine/\m'<n/\W (i+1) m' (ys++[y]) E _)
     refine Z2 (Z2 (ac (thP (he B _ A _ s9 E H9 _ I9 q9) λu2 b5 y b0 b6 b7 ⟨zs,m',hz,hl,hm,b9⟩=>Z2 (ac (thP (oK _ b5 E b0 (.ref ⇑l) [y] (.ref ⇑l) [u2] (λv H'=>v= .non/\H'=upd b0 ⇑l (.lst (zs++[y]))) b6 rfl (.cons b7 .nil) %[_,rfl,_,hz,hl,rfl|rfl]) λu3 cs v3 ct ca cM ⟨c0,cb⟩=>?_)))));subst cb;obtain⟨J1,J2,J3⟩:=a1 ca;exact Z3 (Z3 %[rfl,m',hm,i+1,ys++[y],E,_,J1,J2,J3|b9])
 subst a2;exact(codeAny_compStart_list a0 (T.self _ 0 _ _ _ bf a0))
theorem AY{X:Cx}(S:az X a e f)(n:X.calm=true)(hi:PI X l cf o)
 (p:∀b c d,PG (bQ X a e b c d) l g) (r:∀b c d,PTs (bQ X a e b c d) i t) (u:∀b c d,PE (bQ X a e b c d) j v)
 (w:∀x,foldedSetIterable cf X.env x=pure x):
 PE X (.ListComp j [%[l,cf,i|0]] a pos) (oQ o e.length f g t v):=by
 intro pins s B H Q I h;exact oR S n hi p r u w I h λD C y E G m z _ k q=>%[m,z|λh' A=>%[.ref D,y,k h' A,rfl|q]]
noncomputable def Its(z:Str):It:=⟨λi _=>i<z.cps.size,λi H x a=>a=H/\∃c,z.cps[i]? =some c/\x= .str ⟨#[c]⟩,λi _=>z.cps.size<=i⟩
theorem tU{P:Program}{K:ZA}(it:Addr)(z:Str)(t:Tok):pS P w K tg (Its z) [it] it (λi h=>h.IsStrIter it "str_ascii_iterator" z t i) where
 mem:=by simp
 obj:=λi h st b hb=>by
  have e:=by simpa using hb
  subst e;obtain⟨o,e,c,d⟩:=st;exact%[o,e|λv z=>by lia]
 keep:=λi h h' st k=>by
  obtain⟨o,e,r⟩:=st;exact%[o,k it ∅ o e|r]
 item:=by
  intro X hP hw hK hc i pins s σ H E I hf st hg;have hlt:i<z.cps.size:=hg;obtain⟨f0,f1,f2,f3,f4,f5⟩:=hf it ∅;refine wpAny_pyNext_ascii_item st (c:=z.cps[i]) ∅ λh' st' sb=>?_
  obtain⟨o,e,c,d⟩:=id st';exact%[_,rfl|q0 e c d (by decide) %[.str _,H,(I.turned (λb o hb e=>(sb.2 b hb).trans e) f0 f1 f3 f4 f5),%[_|rfl],%[rfl,_,by simp|rfl],st'|λb hb=>(hf b hb).1]]
 done:=by
  intro X hP hw hK hc i pins s σ H E I hf st hg;have hle:z.cps.size<=i:=hg;obtain⟨f0,f1,f2,f3,f4,f5⟩:=hf it ∅;exact wpAny_pyNext_ascii_end (I.ok.hd hc) st (by simp[hle]) λh' eb=>%[rfl|I.turned (λb o hb e=>eb b o hb e) f0 f1 f3 f4 f5]
 self:=λ_ _ _ _ _ st h=>wpAny_pyIter_striter_ascii st h
theorem wq{P:Program}{K:ZA}(it:Addr)(z:Str)(t:Tok):pS P w K tg (Its z) [it] it (λi h=>h.IsStrIter it "str_iterator" z t i) where
 mem:=by simp
 obj:=λi h st b hb=>by
  have e:=by simpa using hb
  subst e;obtain⟨o,e,c,d⟩:=st;exact%[o,e|λv z=>by rw[d]at z;cases z]
 keep:=λi h h' st k=>by
  obtain⟨o,e,r⟩:=st;exact%[o,k it ∅ o e|r]
 item:=by
  intro X hP hw hK hc i pins s σ H E I hf st hg;have hlt:i<z.cps.size:=hg;obtain⟨f0,f1,f2,f3,f4,f5⟩:=hf it ∅;refine wpAny_pyNext_wide_item st (c:=z.cps[i]) ∅ λh' st' sb=>?_
  obtain⟨o,e,c,d⟩:=id st';exact%[_,rfl|q0 e c d (by decide) %[.str _,H,(I.turned (λb o hb e=>(sb.2 b hb).trans e) f0 f1 f3 f4 f5),%[_|rfl],%[rfl,_,by simp|rfl],st'|λb hb=>(hf b hb).1]]
 done:=by
  intro X hP hw hK hc i pins s σ H E I hf st hg;have hle:z.cps.size<=i:=hg;obtain⟨f0,f1,f2,f3,f4,f5⟩:=hf it ∅;exact wpAny_pyNext_wide_end (I.ok.hd hc) st (by simp[hle]) λh' eb=>%[rfl|I.turned (λb o hb e=>eb b o hb e) f0 f1 f3 f4 f5]
 self:=λ_ _ _ _ _ st h=>wpAny_pyIter_striter_wide st h
def CK(D:Addr)(n i:Nat)(Pv:Nat->List V->St->Hp->Prop)(ys:List V)(b:St)(y:V)(H:Hp):Prop:=
 ∃zs a,H D=some (.lst zs)/\zs.length<sizeLine/\a<n-i/\(a=n-(i+1)/\i+1<=n/\Pv (i+1) (ys++[y]) b (upd H D (.lst (zs++[y]))))
def CN(n i:Nat)(Pv:Nat->List V->St->Hp->Prop)(ys:List V)(b:St)(H:Hp):Prop:=∃a,a<n-i/\(a=n-(i+1)/\i+1<=n/\Pv (i+1) ys b H)
theorem CK.mk{Pv:Nat->List V->St->Hp->Prop}(hi:i<n)(a:H D=some (.lst zs))(b:zs.length<sizeLine)(p:Pv (i+1) (ys++[y]) c (upd H D (.lst (zs++[y])))):CK D n i Pv ys c y H:=
 %[zs,n-(i+1),a,b,⋯,rfl,hi|p]
theorem CN.mk{Pv:Nat->List V->St->Hp->Prop}(hi:i<n)(p:Pv (i+1) ys a H):CN n i Pv ys a H:=%[n-(i+1),⋯,rfl,hi|p]
theorem bw{J:It}{g:TG}{u:TT}{v:TE}{w:Hp->Prop}(Pv:Nat->List V->St->Hp->Prop)(z:Pv 0 [] c H)(s:∀i ys c H,i<n->Pv i ys c H->J.go i H)(d:∀ys c H,Pv n ys c H->J.stop n H)
 (A:∀i ys c H,i<n->Pv i ys c H->∀x f,J.yld i H x f->g x c f λa t=>u a t λb h=>if b=true then v a h λy r=>CK D n i Pv ys a y r else CN n i Pv ys a h) (B:∀ys c H,Pv n ys c H->w H):
 ∃W:Nat->Nat->List V->St->Hp->Prop,(∃m,W 0 m [] c H)/\∀i m ys j l,W i m ys j l->(J.stop i l/\w l)\/
  (J.go i l/\∀x f,J.yld i l x f->g x j f λa t=>u a t λb h=>if b=true then v a h λy r=>∃zs o,r D=some (.lst zs)/\zs.length<sizeLine/\o<m/\W (i+1) o (ys++[y]) a (upd r D (.lst (zs++[y])))
   else∃o,o<m/\W (i+1) o ys a h):=by
 refine%[λi m ys c H=>m=n-i/\i<=n/\Pv i ys c H,%[n,by simp,Xh _|z]|?_];rintro i m ys c H ⟨rfl,hi,p⟩;by_cases q:i<n
 .exact .inr %[s i ys c H q p|λx f y=>A i ys c H q p x f y]
 .have e:i=n:=by lia
  subst e;exact .inl %[d ys c H p|B ys c H p]
theorem vk:∀{bs:List Bool} {us:ZF} {i:Nat} {v:Value},aF (bs.map V.bl) us->us[i]? =some v->∃b,bs[i]? =some b/\v= .bool b
 |[],_,_,_,r,e=>by cases r;simp at e
 | b::bs,_,i,v,r,e=>by
   cases r with
   | cons a c=>
     cases(a);cases i with
     | zero=>simp at e;exact%[b,rfl|e.symm]
     | succ i=>
       obtain⟨d,f,g⟩:=vk c (e);exact%[d,f|g]
theorem mG(bs:List Bool):(List.range bs.length).all (λi=>bs.getD i false)=bs.all id:=by
 have e:(List.range bs.length).map (λi=>bs.getD i false)=bs:=by
  apply ext_getElem
  .simp
  .intro i a b
   simp_all
 have:(List.range bs.length).all (λi=>bs.getD i false)=((List.range bs.length).map λi=>bs.getD i false).all id:=by rw[all_map];rfl
 rw[this,e]
theorem yH{X:Cx}(g:X.calm=true):cx X (.builtin "all") (λxs H Q=>∃(p:Addr) (bs:List Bool),xs=[.ref p]/\SqL X.K H p (bs.map V.bl)/\Q (.bl (bs.all id)) H):=by
 intro pins s z H xs us Q I r h;obtain⟨p,bs,rfl,j,q⟩:=h;obtain⟨u,rfl,l⟩:=dh r;cases l;obtain⟨its,d,pl,A⟩:=I.list j;have m:X.A.in1.handled=none:=I.ok.hd g;have a:bs.length=its.toArray.size:=by rw[Zp,<-d.length,Z6]
 refine call_all_walk (wpAny_pyIter_list pl.isList %[⇑s,[⇑s,p],[⇑s],its.toArray.size,_,_,λi=>bs.getD i false,rfl,Walks.list m _ p (Zt (by obtain⟨o,n,_⟩:=pl.isList;exact Zv n)) its.toArray,%[%[_,Zj _ rfl,rfl|rfl]|pl.isList.push _],?_|?_])
 .intro i v s' t B w c;obtain⟨b,f,rfl⟩:=vk d (by simpa using w);have e:bs.getD i false=b:=by simp_all
  have c:t (bs.getD i false) s':=c;rw[e]at c;exact wpAny_truthy_bool c
 .intro h' tk y;rw[<-a,mG];refine%[.bl _,H,I.kept λb o e=>y b o ?_ (Z7 _ e),rfl|q];have:=Zv e;intro f;exact absurd (Xq f) (Zt this)
def C0:V->Option Int->Option Int->Hp->VK->Prop:=λx lo hi H Q=>∃z,x= .str z/\z.length<=sizeLine/\Q (.str (Txt.slice z lo hi)) H
theorem C1{X:Cx}:SlR X C0:=by
 intro pins s m H x v n o lo hi p Q I f b pl d h;obtain⟨z,rfl,g,q⟩:=h;obtain⟨t,rfl⟩:=f;refine%["str",_,F.slot_str_getitem.lookup,typeIs_str _ _ _|?_];have a:∀l u,(Txt.slice z l u).length<=sizeLine:=λl u=>Yj (Txt.slice_le z _ _) g
 cases pl with
 | none=>
   cases d with
   | none=>exact wpAny_getItem_str_slice (l:=none) (u:=none) (st:=none) b rfl (post_val_or_str %[a _ _|λt' k=>%[.str (Txt.slice z _ _),H,I.tok k,%[_|rfl]|q]])
   | int j c=>exact wpAny_getItem_str_slice (l:=none) (u:=some (j,c)) (st:=none) b rfl (post_val_or_str %[a _ _|λt' k=>%[.str (Txt.slice z _ _),H,I.tok k,%[_|rfl]|q]])
 | int i e=>
   cases d with
   | none=>exact wpAny_getItem_str_slice (l:=some (i,e)) (u:=none) (st:=none) b rfl (post_val_or_str %[a _ _|λt' k=>%[.str (Txt.slice z _ _),H,I.tok k,%[_|rfl]|q]])
   | int j c=>exact wpAny_getItem_str_slice (l:=some (i,e)) (u:=some (j,c)) (st:=none) b rfl (post_val_or_str %[a _ _|λt' k=>%[.str (Txt.slice z _ _),H,I.tok k,%[_|rfl]|q]])
theorem gG:∀{ss:ZB} {us:ZF},aF (ss.map V.str) us->StrsAre us ss
 |[],_,r=>by cases r;exact .nil
 | x::ss,_,r=>by
   cases r with
   | cons a b=>
     obtain⟨t,e⟩:=a;subst e;exact .cons x t (gG b)
theorem oS:∀{ss:ZB} {us:ZF},StrsAre us ss->aF (ss.map V.str) us
 | _,_,.nil=> .nil
 | _,_,.cons x t h=> .cons %[t|rfl] (oS h)
def vm(K:ZA):V->List V->Hp->VK->Prop:=λx vs H Q=>∃z l ss,x= .str z/\vs=[.ref l]/\SqL K H l (ss.map V.str)/\(ss.map (·.length)).sum+ss.length*z.length<=16777216/\Q (.str (Txt.join z ss)) H
theorem AZ{X:Cx}:MtM X "str.join" (vm X.K):=by
 intro pins s e H x vs v us Q I a b h;obtain⟨z,l,ss,rfl,rfl,c,hw,q⟩:=h;obtain⟨t,rfl⟩:=a;obtain⟨u,rfl,d⟩:=b.one;cases d;obtain⟨its,r,pl,f⟩:=I.list c;exact PyProof.Rows.join_list pl.isList (gG r) hw λt' k=>%[.str _,H,I.tok k,%[_|rfl]|q]
theorem yI{X:Cx}:cx X (.builtin "isinstance") (λxs H Q=>∃x n t b,xs=[x,.ty n]/\jp X.K H x t/\kitOne X.K t (.type n)=some b/\Q (.bl b) H):=by
 intro pins s d H xs us Q I r h;obtain⟨x,n,t,b,rfl,ty,e,q⟩:=h;obtain⟨u,f,rfl,c,a⟩:=jK r;cases(a);exact v8 I c ty e λtk=>%[.bl b,H,I.tok tk,rfl|q]
theorem oU(z:Str)(c i:Nat):Builtin.Str.subAt z ⟨#[c]⟩ i=decide (z.cps[i]? =some c):=by
 unfold Builtin.Str.subAt;have b:(⟨#[c]⟩:Str).length=1:=rfl;rw[b];by_cases hi:i<z.cps.size
 .have e:z.cps.extract i (i+1)= #[z.cps[i]]:=by
   apply Array.ext
   .simp;lia
   .intro j d a;simp at a;subst a;simp
  rw[e,Array.getElem?_eq_getElem hi];by_cases f:z.cps[i]=c
  .subst f;simp
  simp_all
 .have e:z.cps.extract i (i+1)= #[]:=by
   apply Array.ext
   .simp;lia
   .intro j d a;simp at a
  rw[e,Array.getElem?_eq_none ⋯];simp
theorem yJ(z:Str)(c:Nat):(!(Builtin.Str.occurrences z ⟨#[c]⟩ 0 z.length 1).isEmpty)=decide (c∈z.cps.toList):=by
 rcases StrLaws.occ_head z _ 1 (Zi _)with⟨e,d⟩|⟨i,r,e,f,_⟩
 .rw[e];refine(Zh λg=>?_).symm;obtain⟨j,h,l⟩:=List.mem_iff_getElem.mp g;have a:=by simpa using h
  refine d j %[?_|?_]
  .show j+1<=z.cps.size;lia
  .rw[oU];exact Zf (by rw[Array.getElem?_eq_getElem a];simpa using l)
 .rw[e];refine(Zf ?_).symm;have b:=f.2;rw[oU]at b;have:=Array.mem_of_getElem? (Zo b);simpa using this
section
variable{X:Cx}
abbrev BR:R2:=λx y H Q=>∃i j,x= .str i/\y= .str j/\i.length+j.length<=sizeLine/\Q (.str (i++j)) H
abbrev yK:R2:=λx y H Q=>rI0 (λi j=> .int (i+j)) x y H Q\/(BR x y H Q\/CQ x y H Q)
theorem A0:OpR X (binaryOp .Add) yK:=x8.or (tJ.or CS)
abbrev yL:R2:=λx y H Q=>rI x6 (λi j=> .int (i*j)) x y H Q\/CT x y H Q
theorem A1:OpR X (binaryOp .Mult) yL:=x9.or CU
abbrev C2:R2:=rEq
theorem C3:OpR X (compareOp .Eq) C2:=Ez
abbrev C4:R2:=rNe
theorem C5:OpR X (compareOp .NotEq) C4:=EA
abbrev EH:R2:=λx y H Q=>∃i j,x= .str i/\y= .str j/\Q (.bl (!(Builtin.Str.occurrences j i 0 j.length 1).isEmpty)) H
abbrev A2(K:ZA):R2:=λx y H Q=>EH x y H Q\/rIn K false x y H Q
theorem C6:OpR X (compareOp .In) (A2 X.K):=vY.or we
abbrev A3(K:ZA):V->Option Int->Option Int->Hp->VK->Prop:=λx lo hi H Q=>CO K x lo hi H Q\/(CJ K x lo hi H Q\/C0 x lo hi H Q)
theorem C7:SlR X (A3 X.K):=AL.or (CL.or C1)
def A4(K:ZA)(c:TE):TI:=λd H R=>c d H λx b=>(∃a,x= .ref a/\(∃xs,SqL K b a xs)/\R (Itl K a) b)\/(∃a,x= .ref a/\(∃xs,SqT K b a xs)/\R (Itt K a) b)\/∃z,x= .str z/\R (Its z) b
theorem C8(n:PE X l r):PI X C l (A4 X.K r):=by
 intro pins s u H R I h;refine thP (n pins s u H _ I h) λv d x g f i w=>?_
 have c:∀b∈[⇑d],lM X pins g b:=λb y=>by
  have e:b=⇑d:=by simpa using y
  subst e;exact f.fpOk (Zi _) (f.hok.fresh (Zi _))
 rcases w with⟨a,e,⟨xs,j⟩,q⟩|⟨a,e,⟨xs,j⟩,q⟩|⟨z,e,q⟩
 .subst e;cases i;obtain⟨its,A,p,B⟩:=f.list j;exact wpAny_pyIter_list p.isList %[⇑d,[⇑d],_,_,g,rfl,f.kept (t':=d.toks) λb o e=>Z7 _ e,vT a _,%[_,Zj _ rfl,rfl|rfl],c|q]
 .subst e;cases i;obtain⟨its,A,p,B⟩:=f.tuple j;exact wpAny_pyIter_tuple (p) %[⇑d,[⇑d],_,_,g,rfl,f.kept λb o e=>Z7 _ e,tE a _,%[_,Zj _ rfl,rfl|rfl],c|q]
 .subst e;obtain⟨t,rfl⟩:=i;cases m:z.cps.all _ with
  | true=>
    exact wpAny_pyIter_ascii m %[⇑d,[⇑d],_,_,g,rfl,f.kept λb o e=>Z7 _ e,tU _ z t,%[_,Zj _ rfl,rfl|rfl],c|q]
  | false=>
    exact wpAny_pyIter_wide m %[⇑d,[⇑d],_,_,g,rfl,f.kept λb o e=>Z7 _ e,wq _ z t,%[_,Zj _ rfl,rfl|rfl],c|q]
end
noncomputable def bP(c:Scope)(N:ZB)(a:Scope)(d:ZB)(b:List (Nat×Nat)):Bool:=
 decide (a.kind= .function)&&a.names.all (λy=>(decide (y.2≠ .cell)||decide (a.names.lookup y.1=some .cell))&&(decide (y.2≠ .local)||decide (a.names.lookup y.1=some .local))&&(decide (y.2≠ .free)||decide (c.names.lookup y.1=some .cell)||decide (c.names.lookup y.1=some .free)))&&
  b.all λp=>match d[p.1]? with
   | some x=>decide (N[p.2]? =some x)&&decide (a.names.lookup x=some .free)
   | none=>false
theorem az.of{X:Cx}(h:bP X.env.scope X.N a g c=true):az X a g c:=by
 unfold bP at h;rw[Zx,Zx,all_eq_true,all_eq_true]at h;obtain⟨⟨i,d⟩,j⟩:=h;refine%[Zo i,λy b f=>?_,λy b f=>?_,λy b l=>?_|λp m=>?_]
 .have:=d y b;simp only[Zx,or_eq_true,decide_eq_true_eq]at this;exact this.1.1.resolve_left λq=>q f
 .have:=d y b;simp only[Zx,or_eq_true,decide_eq_true_eq]at this;exact this.1.2.resolve_left λq=>q f
 .have:=d y b;simp only[Zx,or_eq_true,decide_eq_true_eq]at this;rcases this.2 with(q|q)|q
  .exact absurd l q
  .exact .inl q
  .exact .inr q
 .have:=j p m;cases e:g[p.1]? with
  | none=>simp_all
  | some x=>
    rw[e]at this;simp only[Zx,decide_eq_true_eq]at this;exact%[x,rfl,this.1|this.2]
structure Gv (mg:ZC) (x:Str) (v:V):Prop where
 ex:∃u,mg x=some u/\aL v u
theorem BS{X:Cx}(g:Gv X.mg x v)(a:Gl X x)(b:(x==("__debug__":Str))=false):PE X (.Name x pos) (tC v):=by
 obtain⟨u,h,r⟩:=g.ex;exact Aj a h r b
structure Cal (P:Program) (w:World) (K:ZA) (mg:ZC) (base:Heap) (k:Nat) (x:Str) (ps:ZB) (sp:Sp):Prop where
 ex:∃f fd,jq P w K mg base CX0 k f fd ps sp/\mg x=some (.ref f)/\keepIn K (.ref f)=true/\fE K fd ps []
structure aG (K:ZA) (mg:ZC) (x:Str) (st:Stmt) (ps:ZB):Prop where
 ex:∃f fd,Fun K x x st f fd/\mg x=some (.ref f)/\fE K fd ps []
theorem aG.cal{P:Program}{K:ZA}{st:Stmt}(D:aG K mg x st ps)(S:au N ps (ai st))
 (a:∀(H:Hp) (vs:List V) (Q:VK) (E:XK),sp vs H Q E->vs.length=ps.length/\∀(f:Addr) (b:Value) (A:Around) (outer:List Env) (s:Shared),ce k (A.deeper (envOfC x (ai st) ⇑s f b))->
  ∃t,PSs (pV CX0 P w K mg base N x (ai st) f b A outer s H E).nox (bH st) t/\t {nx:=λ_ c=>Q .non c,rt:=Q} (start N vs) H):Cal P w K mg base (k+1) x ps sp:=by
 obtain⟨f,d,F,e,g⟩:=D.ex;exact%[f,d,F.ok S (λv H Q E h=>(a H v Q E h).1) (λb A o s H v Q E r h=>(a H v Q E h).2 f b A o s r),e,F.kp|g]
theorem C9{X:Cx}(C:Cal X.prog X.w X.K X.mg X.base j x ps sp)(g:ce k X.A)(h:Gl X x)(i:jr CX0 X E0)(l:PA X (e::a) t)(b:j<=k)
 (c:(x==("__debug__":Str))=false) (m:starEach (e::a) X.env=(false,eval e X.env)::starEach a X.env) (d:(backTo pos (starEach a X.env)).any (·.1)=false):
 PE X (.Call (.Name x p) (e::a) [] pos) (re sp [] E0 t):=by
 obtain⟨f,r,F,n,o,q⟩:=C.ex;exact AD F (g.mono b) h n o q .nil i l c m d
theorem Da{K:ZA}{h:Heap}{st:Stmt}{kV e g d ct:Value}(X:K.In h)(G:h.Ns mainGlobals mg)
 (a:nsIn K mainGlobals x=some (some (.ref f))) (l:K.lookup f=some %[m,n,.func (fnOf x x (ck st) (bH st) (ai st) .none kV e g i d ct)|j]) (c:codeIn K d x=true) (k:keepIn K (.ref f)=true)
 (b:∀(kV e g:Value) (i:ZI) (d ct:Value) (us:ZF),us.length=ps.length->bindArgs (fnOf x x (ck st) (bH st) (ai st) .none kV e g i d ct) %[us|[]]=pure (ps.zip us)):aG K mg x st ps:=
 %[f,_,eU l c k,mg_of X G a|(eU l c k).binds b]
theorem iD{K:ZA}{h:Heap}(X:K.In h)(G:h.Ns mainGlobals mg)(a:nsIn K mainGlobals x=some (some u))(r:aL v u):Gv mg x v:=%[u,mg_of X G a|r]
theorem kr(h:∀nx:St->Hp->Prop,(∀a b,u D a b->nx a b)->t {D with nx:=nx} c H):bv t u D c H:=h _ λ_ _ x=>x
theorem aw(h:∀a:It->Hp->Prop,(∀J f,(∃W:Nat->Nat->St->Hp->Prop,(∃m,W 0 m b f)/\∀i m b H,W i m b H->
 (J.stop i H/\D.nx b H)\/(J.go i H/\∃N:St->Hp->Prop,(∀c d,N c d->∃j,j<m/\W (i+1) j c d)/\∀x d,J.yld i H x d->g x b d λe l=>n {D with nx:=N,ct:=N,bk:=D.nx} e l))->a J f)->o b H a):vW o g n D b H:=h _ λ_ _ x=>x
theorem aE(h:∀c:It->Hp->Prop,(∀J j,(∀D,j D=none->∃W:Nat->Nat->List V->St->Hp->Prop,
 (∃m,W 0 m [] (oP n l o) (upd j D (.lst [])))/\∀i m ys d e,W i m ys d e->(J.stop i e/\Q (.ref D) e)\/
  (J.go i e/\∀x p,J.yld i e x p->g x d p λa s=>t a s λb q=>if b=true then u a q λy r=>∃zs f,r D=some (.lst zs)/\zs.length<sizeLine/\f<m/\W (i+1) f (ys++[y]) a (upd r D (.lst (zs++[y])))
   else∃f,f<m/\W (i+1) f ys a q))->c J j)->v o H c):oQ v n l g t u o H Q:=h _ λ_ _ x=>x
section
variable{X:Cx}{K:ZA}
theorem Db(h:X.K=K):OpR X (compareOp .In) (A2 K):=by subst h;exact C6
theorem ixK(h:X.K=K):IxR X (rIx K):=by subst h;exact CM
theorem slK(h:X.K=K):SlR X (A3 K):=by subst h;exact C7
theorem wt(h:X.K=K):cx X (.builtin "len") (λxs H Q=>∃x n,xs=[x]/\Ax K x H n/\Q (.int n) H):=by subst h;exact yh
theorem wu(h:X.K=K)(a:X.calm=true):cx X (.builtin "all") (λxs H Q=>∃(p:Addr) (bs:List Bool),xs=[.ref p]/\SqL K H p (bs.map V.bl)/\Q (.bl (bs.all id)) H):=by subst h;exact yH a
theorem wv(h:X.K=K):cx X (.builtin "isinstance") (λxs H Q=>∃x n t b,xs=[x,.ty n]/\jp K H x t/\kitOne K t (.type n)=some b/\Q (.bl b) H):=by subst h;exact yI
theorem tV(h:X.K=K):cx X (.type "list") (λxs H Q=>∃p ys,xs=[.ref p]/\(SqL K H p ys\/SqT K H p ys)/\∀l,H l=none->Q (.ref l) (upd H l (.lst ys))):=by subst h;exact p7
theorem yM(h:X.K=K):MtR X "str.join" (vm K):=by subst h;exact AZ
theorem ww(h:X.K=K)(d:PE X a e)(f:∀b,isTrue a X.env b=(do let v<-b;standAt a.pos;holding [v] (truthy v))):PT X a (λg H Q=>e g H λx c=>∃k,yd K x c k/\Q k c):=by subst h;exact yf d f
theorem A5(h:X.K=K)(a:PE X l b):PI X c l (A4 K b):=by subst h;exact C8 a
variable{o e:Expr}{es:List Expr}{to:TE}{t:TA}{name:Str}{apos cpos:Pos}{T id:String}{r:V->List V->Hp->VK->Prop}
theorem A6(h:X.K=K)(d:PlainAttrs T)(slot:Slot T name id)(c:typeOf (.builtin id)=pure (.type "method_descriptor"))(f:MtR X id r)(g:PE X o to)
 (a:attributeBase o name X.env (eval o X.env)=eval o X.env) (b:(apos.endLine==cpos.line)=true):PE X (.Call (.Attribute o name apos) [] [] cpos) (AM K T r to):=by
 subst h;exact CP d slot c f g a b
theorem yN(h:X.K=K)(g:PlainAttrs T)(slot:Slot T name id)(f:typeOf (.builtin id)=pure (.type "method_descriptor"))(i:MtR X id r)(j:PE X o to)(l:PA X (e::es) t)
 (b:attributeBase o name X.env (eval o X.env)=eval o X.env)
 (d:((backTo cpos (starEach (e::es) X.env)).all (λx=>!x.1)&&(backToKw cpos (keywordEach [] X.env)).all (λx=>x.1.isSome)
  && decide ((e::es).length+([]:List Keyword).length+(if([]:List Keyword).isEmpty then 0 else 1)<30))=true)
 (c:(apos.endLine==cpos.line)=true) (m:starEach (e::es) X.env=(false,eval e X.env)::starEach es X.env) (a:(backTo cpos (starEach es X.env)).any (·.1)=false):
 PE X (.Call (.Attribute o name apos) (e::es) [] cpos) (tBM K T r to t):=by
 subst h;exact EF g slot f i j l b d c m a
end
structure tW (z TI TO i1 i2:Addr):Prop where
 TIz:TI≠z
 TOz:TO≠z
 i1z:i1≠z
 i2z:i2≠z
 TITO:TI≠TO
 TIi1:TI≠i1
 TIi2:TI≠i2
 TOi1:TO≠i1
 TOi2:TO≠i2
 i12:i1≠i2
section
#where
variable{z TI TO i1 i2:Addr}{fp1 fp2:List Addr}{n1 n2 i:Nat}{P1 P2:Nat->Value->Prop}{St1 St2:Nat->Heap->Prop}
theorem yO{Q:ZD}(D1:Draws prog w A i1 fp1 n1 P1 St1)(D2:Draws prog w A i2 fp2 n2 P2 St2)(D:tW z TI TO i1 i2)(O:∀b∈fp1,b≠z/\b≠TO/\b≠i2)(m2:∀b∈fp2,b≠z/\b≠TO/\b≠i1)
 (T:IsZip s.heap z TI TO .none) (ac:IsPair s.heap TI (.ref i1) (.ref i2)) (ag:IsPair s.heap TO a b) (h1:St1 i s.heap) (h2:St2 i s.heap) (l1:i<n1) (l2:i<n2)
 (hQ:∀x y h' tk,P1 i x->P2 i y->IsZip h' z TI TO (rawInt ⇑s)->IsPair h' TO x y->St1 (i+1) h'->St2 (i+1) h'->IsPair h' ⇑s x y->
  (∀c o,c≠z->c≠TO->c≠i1->c≠i2->s.heap.get? c=some o->h'.get? c=some o)->Q (.ref ⇑s) {s with heap:=h',toks:=tk}):
 ↥A (Builtin.«zip.__next__» %[[.ref z]|[]]) (λal s'=>∃v,al= .done (.ret v)/\Q v s') E s:=by
 have r:∀{k h h' c},(∀b∈fp1,b≠c)->SameBut c h h'->St1 k h->St1 k h':=λhc sb st=>D1.frame _ _ _ st λb d o e=>(sb.2 b (hc b d)).trans e
 have t:∀{k h h' c},(∀b∈fp2,b≠c)->SameBut c h h'->St2 k h->St2 k h':=λhc sb st=>D2.frame _ _ _ st λb d o e=>(sb.2 b (hc b d)).trans e
 show wpAny _ _ (field (.ref z) 2>>= _) _ _ _;refine Z2 (wpAny_field T rfl (x:= .bool false) rfl ?_);show wpAny _ _ (field (.ref z) 3>>= _) _ _ _;refine Z2 (wpAny_field T rfl (x:= .ref TI) rfl (Z2 (wpAny_seqItems ac rfl ?_)));show wpAny _ _ (Builtin.SmallTypes.ownedTupleIsFree (.ref z)>>= _) _ _ _;refine Z2 ?_;unfold Builtin.SmallTypes.ownedTupleIsFree;refine Z2 (wpAny_field T rfl (x:= .none) rfl (Z3 ?_));simp only[if_true];refine Z2 (wpAny_rule (Z2 (wpAny_field T rfl (x:= .ref TO) rfl (Z2 (wpAny_setField_rec T ∅ λg1 L n=>?_)))));replace L:IsZip g1 z TI TO .ellipsis:=L;refine Z2 ?_;simp only[List.zipIdx_cons,List.zipIdx_nil,forIn_cons,List.forIn_nil];refine Z2 (Z2 (wpAny_onRaise ?_));show wpAny _ _ (Builtin.SmallTypes.nextOf (.ref i1)>>= _) _ _ _;refine Z2 (D1.item i _ _ _ l1 (r (λb d=>(O b d).1) n h1) λx g2 an px as f=>Z3 ?_);replace f:SameBut i1 g1 g2:=f;have H:IsPair g2 TO a b:=(f.2 _ D.TOi1).trans ((n.2 _ D.TOz).trans ag);refine Z2 (wpAny_seqItems H rfl (Z2 (wpAny_updateSeq_pair (s:={s with heap:=g2,toks:=an}) H λg3 p g=>?_)));replace p:IsPair g3 TO x b:=p;replace g:SameBut TO g2 g3:=g;refine Z2 (wpAny_letGo (Z3 (Z2 (Z2 (wpAny_onRaise ?_)))));show wpAny _ _ (Builtin.SmallTypes.nextOf (.ref i2)>>= _) _ _ _;refine Z2 (D2.item i _ _ _ l2 (t (λb d=>(m2 b d).2.1) g (t (λb d=>(m2 b d).2.2) f (t (λb d=>(m2 b d).1) n h2))) λy g4 u py a0 j=>Z3 ?_);replace j:SameBut i2 g3 g4:=j;have I:IsPair g4 TO x b:=(j.2 _ D.TOi2).trans p;refine Z2 (wpAny_seqItems I rfl (Z2 (wpAny_updateSeq_pair (s:={s with heap:=g4,toks:=u}) I λq m l=>?_)));replace m:IsPair q TO x y:=m;replace l:SameBut TO g4 q:=l;refine Z2 (wpAny_letGo (Z3 (Z3 (Z2 (wpAny_seqItems m rfl (Z2 (wpAny_newTuple ?_)))))));have U:q.objs.size=⇑s:=by rw[l.1,j.1,g.1,f.1,n.1]
 have Y:IsZip q z TI TO .ellipsis:=(l.2 _ D.TOz.symm).trans ((j.2 _ D.i2z.symm).trans ((g.2 _ D.TOz.symm).trans ((f.2 _ D.i1z.symm).trans L)));have a1:∀c o,c≠z->c≠TO->c≠i1->c≠i2->s.heap.get? c=some o->q.get? c=some o:=λc o M c2 c3 c4 e=>
  (l.2 c c2).trans ((j.2 c c4).trans ((g.2 c c2).trans ((f.2 c c3).trans ((n.2 c M).trans e))))
 have J:z<q.objs.size:=Zv Y;refine Z2 (Z2 (wpAny_setField_rec (s:={s with heap:=q.push {cls:= .type "tuple",data:= .seq #[x,y]},toks:=u}) (Z7 _ Y) ∅ λg7 N B=>?_));replace N:IsZip g7 z TI TO (rawInt q.objs.size):=N;replace B:SameBut z (q.push _) g7:=B;refine wpAny_setField_rec (s:={s with heap:=g7,toks:=u}) N ∅ λg8 C G=>?_
 replace C:IsZip g8 z TI TO (rawInt q.objs.size):=C;replace G:SameBut z g7 g8:=G;have up:∀c o,c≠z->q.get? c=some o->g8.get? c=some o:=λc o M e=>(G.2 c M).trans ((B.2 c M).trans (Z7 _ e))
 have ab:=(G.2 _ (X3 J)).trans ((B.2 _ (X3 J)).trans (Zj _ rfl));rw[U]at C ab;refine Z3 %[_,rfl|?_];rw[U];exact hQ x y g8 u px py C (up _ _ D.TOz m) (D1.frame _ _ _ (r (λb d=>(O b d).2.1) l (r (λb d=>(O b d).2.2) j (r (λb d=>(O b d).2.1) g as))) λb d o e=>up b o (O b d).1 e) (D2.frame _ _ _ (t (λb d=>(m2 b d).2.1) l a0) λb d o e=>up b o (m2 b d).1 e) ab λc o M c2 c3 c4 e=>up c o M (a1 c o M c2 c3 c4 e)
theorem yP(J:Draws prog w A i1 fp1 n1 P1 St1)(D2:Draws prog w A i2 fp2 n2 P2 St2)(D:tW z TI TO i1 i2)(m1:∀b∈fp1,b≠z/\b≠TO/\b≠i2)(m2:∀b∈fp2,b≠z/\b≠TO/\b≠i1)
 (y:IsZip s.heap z TI TO .none) (L:IsPair s.heap TI (.ref i1) (.ref i2)) (M:IsPair s.heap TO a b) (h1:St1 i s.heap) (h2:St2 i s.heap) (l1:i<=n1) (l2:i<=n2) (ab:i=n1\/i=n2)
 (hE:∀h' e tk,(∀c o,c≠z->c≠TO->c≠i1->c≠i2->s.heap.get? c=some o->h'.get? c=some o)->(∃o,h'.get? e=some o/\o.cls= .type "StopIteration")->E (.ref e) {s with heap:=h',toks:=tk}):
 ↥A (Builtin.«zip.__next__» %[[.ref z]|[]]) Q E s:=by
 have N:∀{k h h' c},(∀b∈fp1,b≠c)->SameBut c h h'->St1 k h->St1 k h':=λO T st=>J.frame _ _ _ st λb j o e=>(T.2 b (O b j)).trans e
 have t:∀{k h h' c},(∀b∈fp2,b≠c)->SameBut c h h'->St2 k h->St2 k h':=λO T st=>D2.frame _ _ _ st λb j o e=>(T.2 b (O b j)).trans e
 show wpAny _ _ (field (.ref z) 2>>= _) _ _ _;refine Z2 (wpAny_field y rfl (x:= .bool false) rfl ?_);show wpAny _ _ (field (.ref z) 3>>= _) _ _ _;refine Z2 (wpAny_field y rfl (x:= .ref TI) rfl (Z2 (wpAny_seqItems L rfl ?_)));show wpAny _ _ (Builtin.SmallTypes.ownedTupleIsFree (.ref z)>>= _) _ _ _;refine Z2 ?_;unfold Builtin.SmallTypes.ownedTupleIsFree;refine Z2 (wpAny_field y rfl (x:= .none) rfl (Z3 ?_));simp only[if_true];refine Z2 (wpAny_rule (Z2 (wpAny_field y rfl (x:= .ref TO) rfl (Z2 (wpAny_setField_rec y ∅ λg1 n l=>?_)))));replace n:IsZip g1 z TI TO .ellipsis:=n;refine Z2 ?_;simp only[List.zipIdx_cons,List.zipIdx_nil,forIn_cons,List.forIn_nil];refine Z2 (Z2 (wpAny_onRaise ?_));show wpAny _ _ (Builtin.SmallTypes.nextOf (.ref i1)>>= _) _ _ _;have B:St1 i g1:=N (λb j=>(m1 b j).1) l h1;by_cases c1:i<n1
 .have e2:i=n2:=by lia
  refine Z2 (J.item i _ _ _ c1 B λx g2 u px ag d=>Z3 ?_);replace d:SameBut i1 g1 g2:=d;have r:IsPair g2 TO a b:=(d.2 _ D.TOi1).trans ((l.2 _ D.TOz).trans M);refine Z2 (wpAny_seqItems r rfl (Z2 (wpAny_updateSeq_pair (s:={s with heap:=g2,toks:=u}) r λg3 ac f=>?_)));replace f:SameBut TO g2 g3:=f;refine Z2 (wpAny_letGo (Z3 (Z2 (Z2 (wpAny_onRaise ?_)))));show wpAny _ _ (Builtin.SmallTypes.nextOf (.ref i2)>>= _) _ _ _;refine Z2 (D2.done _ _ _ (e2▸t (λb j=>(m2 b j).2.1) f (t (λb j=>(m2 b j).2.2) d (t (λb j=>(m2 b j).1) l h2))) λI e p U=>?_);replace p:Heap.ExtBut i2 g3 I:=p;obtain⟨Y,g,m⟩:=U;have C:IsZip I z TI TO .ellipsis:=p _ _ D.i2z.symm ((f.2 _ D.TOz.symm).trans ((d.2 _ D.i1z.symm).trans n));have v:e≠z:=λx=>by subst x;rw[C]at g;cases g;simp at m
  refine wpAny_setField_rec (s:={s with heap:=I,toks:=u}) C ∅ λg5 _ q=>?_
  replace q:SameBut z I g5:=q;exact hE g5 e u (λc o G d2 d3 d4 x=>(q.2 c G).trans (p c o d4 ((f.2 c d2).trans ((d.2 c d3).trans ((l.2 c G).trans x))))) %[Y,(q.2 e v).trans g|m]
 .have e1:i=n1:=by lia
  refine Z2 (J.done _ _ _ (e1▸B) λg2 e d U=>?_);replace d:Heap.ExtBut i1 g1 g2:=d;obtain⟨Y,g,m⟩:=U;have H:=d _ _ D.i1z.symm n;have v:e≠z:=λx=>by subst x;rw[H]at g;cases g;simp at m
  refine wpAny_setField_rec (s:=(s>>>g2)) H ∅ λg3 _ f=>?_
  replace f:SameBut z g2 g3:=f;exact hE g3 e s.toks (λc o G _ d3 _ x=>(f.2 c G).trans (d c o d3 ((l.2 c G).trans x))) %[Y,(f.2 e v).trans g|m]
end
noncomputable def Itz(x y:Str):It:=⟨λi _=>i<x.cps.size/\i<y.cps.size,λi H v a=>∃c d T,x.cps[i]? =some c/\y.cps[i]? =some d/\H T=none/\v= .ref T/\a=upd H T (.tup [.str ⟨#[c]⟩,.str ⟨#[d]⟩]),
 λi _=>i<=x.cps.size/\i<=y.cps.size/\(i=x.cps.size\/i=y.cps.size)⟩
def ZSt(z TI TO c d:Addr)(e f:Nat->Heap->Prop)(i:Nat)(h:Heap):Prop:=IsZip h z TI TO .none/\IsPair h TI (.ref c) (.ref d)/\(∃a b,IsPair h TO a b)/\e i h/\f i h
theorem iX(prog:Program)(w:World)(x:Str)(t:Tok)(a:Addr):∀A,A.handled=none->
 Draws prog w A a [a] x.cps.size (λi v=>∃c u,x.cps[i]? =some c/\v= .str ⟨#[c]⟩ u) (λi h=>h.IsStrIter a (strIterType x) x t i):=by
 intro A b;unfold strIterType;cases d:x.cps.all _ with
 | true=>exact Draws.strAscii b a x t
 | false=>exact Draws.strWide b a x t
theorem yQ{P:Program}{K:ZA}(z TI TO i1 i2:Addr)(x y:Str)(t u:Tok)(D:tW z TI TO i1 i2):
 pS P w K (.Tuple elts kt tp) (Itz x y) [z,TI,TO,i1,i2] z (ZSt z TI TO i1 i2 (λi h=>h.IsStrIter i1 (strIterType x) x t i) (λi h=>h.IsStrIter i2 (strIterType y) y u i)) where
 mem:=by simp
 obj:=λi h st b hb=>by
  obtain⟨hz,hTI,⟨a,c,hTO⟩,⟨o1,e1,_,d1⟩,o2,e2,_,d2⟩:=st
  grind
 keep:=λi h h' st k=>by
  obtain⟨hz,hTI,⟨a,c,hTO⟩,⟨o1,e1,r1⟩,o2,e2,r2⟩:=st;exact%[k z ∅ _ hz,k TI ∅ _ hTI,%[a,c|k TO ∅ _ hTO],%[o1,k i1 ∅ _ e1|r1],o2,k i2 ∅ _ e2|r2]
 item:=by
  intro X hP hw hK hc i pins s σ H E I hf st hg;subst hP hw hK;obtain⟨hz,hTI,⟨a,c,hTO⟩,h1,h2⟩:=st;obtain⟨g1,g2⟩:i<x.cps.size/\i<y.cps.size:=hg;have hT:s.TypeIs (.ref z) "zip":=%[_,hz|rfl]
  have hh:X.A.in1.handled=none:=I.ok.hd hc;unfold pyNext;refine Z2 (wpAny_attempt (wpAny_callSpecial?_slot (name:=Str.ofString "__next__") hT F.slot_zip_next (wpAny_call_entry F.slot_zip_next hT F.entry_zip_next
   (yO (iX _ _ x t i1 _ hh) (iX _ _ y u i2 _ hh) D (λb hb=>(show b=i1 by simpa using hb)▸%[D.i1z,Ne.symm D.TOi1|D.i12]) (λb hb=>(show b=i2 by simpa using hb)▸%[D.i2z,Ne.symm D.TOi2|Ne.symm D.i12]) hz hTI hTO h1 h2 g1 g2 λv1 v2 h' tk p1 p2 a1 a2 a3 a4 a5 hk=>Z3 ?_) (F.args_zip_next_1 _))))
  obtain⟨c1,u1,e1,rfl⟩:=p1;obtain⟨c2,u2,e2,rfl⟩:=p2;refine%[_,rfl|wpAny_letOwnedTupleGo_zip (s:={s with heap:=h',toks:=tk}) a1 λh'' hz'' sb=>?_];replace sb:SameBut z h' h'':=sb;have turn1:Inv X pins σ H {s with heap:=h'',toks:=tk}:=by
   have nit:∀b v,H b=some v->b∉[z,TI,TO,i1,i2]:=λb v e hb=>by rw[(hf b hb).1]at e;cases e
   have kk:∀b o,b∉[z,TI,TO,i1,i2]->s.heap.get? b=some o->h''.get? b=some o:=λb o hb e=>by
    simp only[Yy,X9,or_false,not_or]at hb;exact(sb.2 b hb.1).trans (hk b o hb.1 hb.2.2.1 hb.2.2.2.1 hb.2.2.2.2 e)
   refine I.step (g':=s.gens) (d':=s.drawn) (ch:=[z,TI,TO,i1,i2]) (λb hb=>%[(hf b hb).2.2.2.1,(hf b hb).2.1,(hf b hb).2.2.2.2.1|(hf b hb).2.2.2.2.2]) (λb o _ _ hc e _=>kk b o hc e) (λb o _ _ hc e _=>%[o.slots|kk b o hc e]) (λ_ _ _ _ n=>n)
    (λb o hc e=>%[o|kk b o hc e]) (λ_ _ e=>e) (λ_ _ _ e=>e) (λb ps e=>%[#[]|by rw[e];simp]) (λm hm=>?_) (λb v e=>?_) I.bare
   .obtain⟨o,es,ep,ho,r⟩:=hm;exact%[o,es,ep,kk _ o (λhb=>(hf _ hb).2.1 rfl) ho|r]
   .refine(I.hok b v e).stay (λc' v' hc' q=>kk c' v' ?_ q) (λ_ q=>q) λ_ _ q=>q
    rcases hc' with q'|q'
    .exact q'▸nit b v e
    .exact nit c' _ q'
  have Hn:H ⇑s=none:=I.fresh;have I2:Inv X pins σ (upd H ⇑s (.tup [.str ⟨#[c1]⟩,.str ⟨#[c2]⟩])) {s with heap:=h'',toks:=tk}:=by
   have nf:⇑s∉X.fs:=I.nofs (Zi _);refine%[turn1.ok,turn1.os,turn1.bare,?_,turn1.loc,turn1.cell,?_,?_,?_,?_|turn1.len]
   .refine%[turn1.base.keep,turn1.base.slot,λb o e n hx=>?_,turn1.base.there,λb xs e=>?_,λb o v e=>?_|λb ps e=>?_]
    .rw[ap ((λb o e=>Zt (Zg (Zv e) I.sz)) b o e)];exact turn1.base.free b o e n hx
    .rw[ap (av (turn1.base.tups b xs e) Hn)];exact turn1.base.tups b xs e
    .rw[ap (av (turn1.base.frzs b o v e) Hn)];exact turn1.base.frzs b o v e
    .obtain⟨m,q⟩:=turn1.base.tbls b ps e;exact%[m|(ap (av q Hn))▸q]
   .rw[ap (Zt I.lt)];exact turn1.free
   .intro x' c' e;obtain⟨v',q⟩:=I.cell x' c' e;rw[ap (Zt q.lt)];exact turn1.freeC x' c' e
   .intro p hp;obtain⟨e,n,r⟩:=turn1.pin p hp;refine%[e,?_|r];rw[ap (Zt (Zv (I.pin p hp).1))];exact n
   .intro b v e;by_cases hb:b=⇑s
    .subst hb;rw[aa]at e;cases e;exact%[by show 2<=sizeLine;decide,[.str _ u1,.str _ u2],.cons %[_|rfl] (.cons %[_|rfl] .nil),_,((sb.2 _ (X3 (Zv hz))).trans a5),rfl,_|rfl]
    .rw[ap hb]at e;refine(turn1.hok b v e).stay (λ_ _ _ q=>q) (λc' q=>?_) λc' xs q=>?_
     .rw[ap (av q Hn)];exact q
     .rw[ap (av q Hn)];exact q
  refine%[.ref ⇑s,_,I2,rfl,%[c1,c2,_,e1,e2,Hn,rfl|rfl],%[hz'',(sb.2 _ D.TIz).trans (hk _ _ D.TIz D.TITO D.TIi1 D.TIi2 hTI),%[_,_|(sb.2 _ D.TOz).trans a2],?_|?_]|λb hb=>?_]
  .obtain⟨o,e,r⟩:=a3;exact%[o,(sb.2 _ D.i1z).trans e|r]
  .obtain⟨o,e,r⟩:=a4;exact%[o,(sb.2 _ D.i2z).trans e|r]
  .have:b<⇑s:=by
    simp only[Yy,X9,or_false]at hb;obtain⟨o1,q1,_⟩:=h1;obtain⟨o2,q2,_⟩:=h2;rcases hb with rfl|rfl|rfl|rfl|rfl
    .exact Zv hz
    .exact Zv hTI
    .exact Zv hTO
    .exact Zv q1
    .exact Zv q2
   rw[ap (Zt this)];exact(hf b hb).1
 done:=by
  intro X hP hw hK hc i pins s σ H E I hf st hg;obtain⟨hz,hTI,⟨a,c,hTO⟩,h1,h2⟩:=st;obtain⟨g1,g2,g3⟩:i<=x.cps.size/\i<=y.cps.size/\(i=x.cps.size\/i=y.cps.size):=hg;have hT:s.TypeIs (.ref z) "zip":=%[_,hz|rfl]
  have hh:=I.ok.hd hc;refine Z2 (wpAny_attempt (wpAny_callSpecial?_slot hT F.slot_zip_next (wpAny_call_entry F.slot_zip_next hT F.entry_zip_next
   (yP (iX _ _ x t i1 _ hh) (iX _ _ y u i2 _ hh) D (λb hb=>(show b=i1 by simpa using hb)▸%[D.i1z,Ne.symm D.TOi1|D.i12]) (λb hb=>(show b=i2 by simpa using hb)▸%[D.i2z,Ne.symm D.TOi2|Ne.symm D.i12]) hz hTI hTO h1 h2 g1 g2 g3 λh' e tk hk he=>?_) (F.args_zip_next_1 _))))
  obtain⟨o,ho,hco⟩:=he;refine Z2 (wpAny_isInstance %[o,ho|hco] isSubtype_stop (Z3 %[rfl|?_]));have nit:∀b v,H b=some v->b∉[z,TI,TO,i1,i2]:=λb v e hb=>by rw[(hf b hb).1]at e;cases e
  have kk:∀b o,b∉[z,TI,TO,i1,i2]->s.heap.get? b=some o->h'.get? b=some o:=λb o hb e=>by
   simp only[Yy,X9,or_false,not_or]at hb;exact hk b o hb.1 hb.2.2.1 hb.2.2.2.1 hb.2.2.2.2 e
  refine I.step (λb hb=>%[(hf b hb).2.2.2.1,(hf b hb).2.1,(hf b hb).2.2.2.2.1|(hf b hb).2.2.2.2.2]) (λb o _ _ hc e _=>kk b o hc e) (λb o _ _ hc e _=>%[o.slots|kk b o hc e]) (λ_ _ _ _ n=>n)
   (λb o hc e=>%[o|kk b o hc e]) (λ_ _ e=>e) (λ_ _ _ e=>e) (λb ps e=>%[#[]|by rw[e];simp]) (λm hm=>?_) (λb v e=>?_) I.bare
  .obtain⟨o',es,ep,ho',r⟩:=hm;exact%[o',es,ep,kk _ o' (λhb=>(hf _ hb).2.1 rfl) ho'|r]
  .refine(I.hok b v e).stay (λc' v' hc' q=>kk c' v' ?_ q) (λ_ q=>q) λ_ _ q=>q
   rcases hc' with q'|q'
   .exact q'▸nit b v e
   .exact nit c' _ q'
 self:=λ_ _ _ _ _ st h=>wpAny_pyIter_zip st.1 h
noncomputable def aZ:Expr->Bool
 | .Starred _ _=>true
 | _=>false
theorem ax(h:aZ e=false):starEach (e::a) env=(false,eval e env)::starEach a env:=by
 cases e<;> first|rfl|cases(show true=false from h)
theorem dD(h:aZ e=false):assignEach (e::a) env=(false,assign e env)::assignEach a env:=by
 cases e<;> first|rfl|cases(show true=false from h)
theorem gH:∀{a:List Expr},a.any aZ=false->(backTo pos (starEach a env)).any (·.1)=false
 |[],_=>rfl
 | e::a,h=>by
   rw[Zy,Xa]at h;rw[ax h.1];have:=gH (pos:=pos) (env:=env) h.2;cases a with
   | nil=>rfl
   | cons c b=>
     simp only[backTo]at this ⊢;simpa using this
theorem qd:∀{a:List Expr},a.any aZ=false->(backTo pos (starEach a env)).all (λx=>!x.1)=true
 |[],_=>rfl
 | e::a,h=>by
   rw[Zy,Xa]at h;rw[ax h.1];have:=qd (pos:=pos) (env:=env) h.2;cases a with
   | nil=>rfl
   | cons c b=>
     simp only[backTo]at this ⊢;simpa using this
theorem jt:∀{a:List Expr},a.any aZ=false->(assignEach a env).length=a.length/\(assignEach a env).findIdx? (·.1)=none
 |[],_=>%[rfl|rfl]
 | e::a,h=>by
   rw[Zy,Xa]at h;rw[dD h.1];have b:=jt (env:=env) h.2;refine%[by rw[Zr,Zr,b.1]|?_];rw[List.findIdx?_cons,b.2];rfl
noncomputable def gJ:Expr->Bool
 | .ListComp _ _ _ _=>true
 | .SetComp _ _ _ _=>true
 | .DictComp _ _ _ _ _=>true
 | _=>false
theorem jP(h:gJ e=false):swapsWith e t l env=pure false:=by
 cases e<;> first|rfl|cases(show true=false from h)
noncomputable def tX:Expr->Bool
 | .Tuple _ _ _=>true
 | _=>false
theorem tY(h:tX e=false):swappedStores [t] e env=pure none:=by
 cases e with
 | Tuple _ _ _=>cases(show true=false from h)
 | _=>cases t<;> rfl
noncomputable def iY:Expr->Bool
 | .Call _ _ _ _=>true
 | _=>false
theorem iE(h:iY o=false):attributeBase o a env w=w:=by
 cases o<;> first|rfl|cases(show true=false from h)
noncomputable def mH:Expr->Bool
 | .Set _ _ _=>true
 | _=>false
theorem kx(h:mH e=false)(x:Value):foldedSetIterable e env x=pure x:=by
 cases e<;> first|rfl|cases(show true=false from h)
structure QE (X:Cx) (e:Expr) (t:TE):Prop where
 h:PE X e t
structure QT (X:Cx) (e:Expr) (t:TT):Prop where
 h:PT X e t
structure QW (X:Cx) (e:Expr) (t:TT):Prop where
 h:PW X e t
structure QA (X:Cx) (es:List Expr) (t:TA):Prop where
 h:PA X es t
structure QS (X:Cx) (st:Stmt) (t:TS):Prop where
 h:PS X st t
structure QSs (X:Cx) (st:List Stmt) (t:TS):Prop where
 h:PSs X st t
structure QG (X:Cx) (e:Expr) (t:TG):Prop where
 h:PG X e t
structure QGs (X:Cx) (es:List Expr) (t:TGs):Prop where
 h:PGs X es t
structure QI (X:Cx) (tg cf:Expr) (wi:TI):Prop where
 h:PI X tg cf wi
structure QO (X:Cx) (e:Option Expr) (t:TO):Prop where
 h:PO X e t
structure QTs (X:Cx) (ifs:List Expr) (t:TT):Prop where
 h:PTs X ifs t
structure OpQ (X:Cx) (f:Value->Value->Sem Value) (r:R2):Prop where
 h:OpR X f r
structure cN (X:Cx) (f:Value) (r:List V->Hp->VK->Prop):Prop where
 h:cx X f r
structure MtQ (X:Cx) (id:String) (r:V->List V->Hp->VK->Prop):Prop where
 h:MtR X id r
section
variable{X:Cx}{K:ZA}{pos:Pos}
theorem ar{i j}:QE X (.Constant (.int i) j pos) (tC (.int i)):=⟨Cb⟩
theorem eBl{b j}:QE X (.Constant (.bool b) j pos) (tC (.bl b)):=⟨Ep⟩
theorem tZ{j}:QE X (.Constant .none j pos) (tC .non):=⟨Cc⟩
theorem cm{x j}:QE X (.Constant (.str x) j pos) (tC (.str x)):=⟨Cd⟩
theorem vn(i:Nat)(b:X.N[i]? =some x)(c:Vis X.env.scope x)(d:(x==("__debug__":Str))=false)(a:(x==("__classdict__":Str))=false):QE X (.Name x pos) (nQ i):=⟨xO b c d a⟩
theorem gvE(g:Gv X.mg x v)(a:Gl X x)(b:(x==("__debug__":Str))=false):QE X (.Name x pos) (tC v):=⟨BS g a b⟩
theorem blE(a:Gl X x)(b:X.mg x=none)(c:bootBuiltins x=some u)(r:aL v u)(f:(x==("__name__":Str))=false)(d:(x==("__debug__":Str))=false):QE X (.Name x pos) (tC v):=
 ⟨Ak a b c r (λe=>by lia) d⟩
theorem ak:QA X [] v9:=⟨CD⟩
theorem paE(a:aZ e=false)(b:QE X e c)(d:QA X f t):QA X (e::f) (yk c t):=⟨AC b.h d.h (ax a)⟩
theorem calE(C:Cal X.prog X.w X.K X.mg X.base j x ps sp)(f:ce k X.A)(g:Gl X x)(a:Nat.ble j k=true)
 (b:(x==("__debug__":Str))=false) (c:(e::d).any aZ=false) (h:QA X (e::d) t):
 QE X (.Call (.Name x p) (e::d) [] pos) (re sp [] E0 t):=by
 rw[Zy,Xa]at c;exact⟨C9 C f g yF h.h (Nat.le_of_ble_eq_true a) b (ax c.1) (gH c.2)⟩
theorem cbE{id:String}(d:cN X (.builtin id) r)(f:Gl X x)(g:X.mg x=none)(h:bootBuiltins x=some (.builtin id))(j:(x==("__name__":Str))=false)(a:(x==("__debug__":Str))=false)
 (b:(e::c).any aZ=false) (i:QA X (e::c) t):QE X (.Call (.Name x p) (e::c) [] pos) (tCB r t):=by
 rw[Zy,Xa]at b;exact⟨yp d.h f g h i.h (λe=>by lia) a (ax b.1) (gH b.2)⟩
theorem ctE(d:cN X (.type T) r)(f:Gl X x)(g:X.mg x=none)(h:bootBuiltins x=some (.type T))(j:(x==("__name__":Str))=false)(a:(x==("__debug__":Str))=false)
 (b:(e::c).any aZ=false) (i:QA X (e::c) t):QE X (.Call (.Name x p) (e::c) [] pos) (tCB r t):=by
 rw[Zy,Xa]at b;exact⟨wc d.h f g h i.h (λe=>by lia) a (ax b.1) (gH b.2)⟩
theorem bmE{T id:String}(h:X.K=K)(m:PlainAttrs T)(slot:Slot T name id)(i:typeOf (.builtin id)=pure (.type "method_descriptor"))(n:MtQ X id r)
 (b:iY o=false) (a:(e::g).any aZ=false) (j:Nat.blt (e::g).length 30=true) (c:(d.endLine==f.line)=true) (p:QE X o q) (s:QA X (e::g) t):
 QE X (.Call (.Attribute o name d) (e::g) [] f) (tBM K T r q t):=by
 have l:=a;rw[Zy,Xa]at l;refine⟨yN h m slot i n.h p.h s.h (iE b) ?_ c (ax l.1) (gH l.2)⟩;rw[qd a];have:decide ((e::g).length+([]:List Keyword).length+(if([]:List Keyword).isEmpty then 0 else 1)<30)=true:=Zf ((Nat.blt_eq.mp j));rw[this];rfl
theorem bm0E{T id:String}(h:X.K=K)(f:PlainAttrs T)(slot:Slot T name id)(e:typeOf (.builtin id)=pure (.type "method_descriptor"))(g:MtQ X id r)
 (a:iY o=false) (b:(c.endLine==d.line)=true) (i:QE X o j):QE X (.Call (.Attribute o name c) [] [] d) (AM K T r j):=⟨A6 h f slot e g.h i.h (iE a) b⟩
theorem jn(b:Gl X "range")(c:X.mg "range"=none)(d:aZ a=false)(e:QA X [a] f):QI X g (.Call (.Name "range" p) [a] [] pos) (x4 f):=⟨vU b c e.h (ax d)⟩
theorem EI(d:Gl X "range")(e:X.mg "range"=none)(f:aZ a=false)(c:aZ b=false)(g:QA X [a,b] h):QI X i (.Call (.Name "range" p) [a,b] [] pos) (x5 h):=
 ⟨vV d e g.h ((ax f).trans (by rw[ax c];rfl)) (ax c)⟩
theorem cF(h:X.K=K)(a:QE X l b):QI X c l (A4 K b):=⟨A5 h a.h⟩
section
variable{a b c:Expr}{ta tb tc:TE}{op op':CmpOp}{r r':R2}
theorem t7(e:OpQ X (compareOp op) r)(d:OpQ X (compareOp op') r')(f:lastMarks [op,op'] [b,c]=false)(g:QE X a ta)(h:QE X b tb)(i:QE X c tc):QE X (.Compare a [op,op'] [b,c] pos) (tG r r' ta tb tc):=⟨yc e.h d.h g.h h.h i.h f⟩
theorem iF(d:OpQ X (compareOp op) r)(e:behindInMarks op b=false)(f:QE X a ta)(g:QE X b tb):QE X (.Compare a [op] [b] pos) (tOp r ta tb):=⟨Av d.h f.h g.h e⟩
theorem bF(d:OpQ X (compareOp op) r)(e:behindInMarks op b=false)(f:QE X a ta)(g:QE X b tb):QT X (.Compare a [op] [b] pos) (yb (tOp r ta tb)):=⟨Aw d.h f.h g.h e⟩
theorem opE{op:Operator}(d:OpQ X (binaryOp op) r)(e:QE X a ta)(f:QE X b tb):QE X (.BinOp a op b pos) (tOp r ta tb):=⟨Ev d.h e.h f.h⟩
theorem t8(d:QE X a ta):QE X (.UnaryOp .USub a pos) (tUn (rU λi=> .int (-i)) ta):=⟨Ew Cu d.h⟩
theorem ixE(h:X.K=K)(d:jL b)(e:QE X a ta)(f:QE X b tb):QE X (.Subscript a b pos) (tOp (rIx K) ta tb):=⟨vg (ixK h) e.h f.h d⟩
theorem slE{lo hi:Option Expr}(h:X.K=K)(d:QE X a ta)(e:QO X lo f)(g:QO X hi i):QE X (.Subscript a (.Slice lo hi none j) pos) (tSl (A3 K) ta f i):=⟨yt (slK h) d.h e.h g.h⟩
theorem noO:QO X none pW:=⟨AF⟩
theorem iG(h:QE X a ta):QO X (some a) (yr ta):=⟨AG h.h⟩
theorem qe{op}(h:QE X a ta):QE X (.BoolOp op [a] pos) ta:=⟨Cj h.h⟩
theorem nT{rest:List Expr}(d:QE X a ta)(e:QE X (.BoolOp .And (b::rest) pos) tb):QE X (.BoolOp .And (a::b::rest) pos) (xQ ta tb):=⟨Ck d.h e.h⟩
theorem orV{rest:List Expr}(d:QE X a ta)(e:QE X (.BoolOp .Or (b::rest) pos) tb):QE X (.BoolOp .Or (a::b::rest) pos) (Ci ta tb):=⟨Et d.h e.h⟩
theorem cQ(h:QA X d t):QE X (.List d pos) (CG t):=⟨CI h.h⟩
theorem eV{d}(h:QA X e t):QE X (.Tuple e d pos) (CF t):=⟨CH h.h⟩
theorem mI:QE X (.Dict [] [] pos) tT:=⟨yD⟩
variable{tA tB':TT}{rest:List Expr}
theorem je(d:QT X a tA):QT X (.UnaryOp .Not a pos) (Ce tA):=⟨Ch d.h⟩
theorem iH(d:QT X a tA):QW X (.BoolOp .And [a] pos) tA:=⟨Am d.h⟩
theorem mJ(d:QT X a tA):QW X (.BoolOp .Or [a] pos) tA:=⟨Cf d.h⟩
theorem kz(d:QT X a tA)(e:QW X (.BoolOp .And (b::rest) pos) tB'):QW X (.BoolOp .And (a::b::rest) pos) (Al tA tB'):=⟨Cg d.h e.h⟩
theorem orW(d:QT X a tA)(e:QW X (.BoolOp .Or (b::rest) pos) tB'):QW X (.BoolOp .Or (a::b::rest) pos) (tOr tA tB'):=⟨Es d.h e.h⟩
theorem wT(h:QW X a tA):QT X a tA:=⟨PW.pt h.h⟩
theorem fC(h:X.K=K)(f:∀d,isTrue a X.env d=(do let v<-d;standAt a.pos;holding [v] (truthy v)))(g:QE X a ta):QT X a (λi H Q=>ta i H λx e=>∃k,yd K x e k/\Q k e):=⟨ww h g.h f⟩
theorem jf:QTs X [] yG:=⟨AV⟩
theorem rE(h:QT X c tA):QTs X [c] tA:=⟨AW h.h⟩
end
theorem eE(S:az X c e f)(l:X.calm=true)(m:mH cf=false)(hi:QI X j cf n)
 (o:∀a b d,QG (bQ X c e a b d) j g) (p:∀a b d,QTs (bQ X c e a b d) h q) (r:∀a b d,QE (bQ X c e a b d) i s):
 QE X (.ListComp i [%[j,cf,h|0]] c pos) (oQ n e.length f g q s):=⟨AY S l hi.h (λa b d=>(o a b d).h) (λa b d=>(p a b d).h) (λa b d=>(r a b d).h) (kx m)⟩
theorem bh:QSs X [] xR:=⟨An⟩
theorem ah{st:Stmt}{rest:List Stmt}(a:QS X st t)(b:QSs X rest u):QSs X (st::rest) (bv t u):=⟨xS a.h b.h⟩
theorem aq{st:Stmt}(a:QS X st t):QSs X [st] t:=⟨Ao a.h⟩
theorem ifS(d:QT X c e)(f:QSs X a t)(g:QSs X b u):QS X (.If c a b pos) (lL e t u):=⟨Eu d.h f.h g.h⟩
theorem aN(a:QE X e b):QS X (.Return (some e) pos) (jd b):=⟨Cl a.h⟩
theorem gK{st:Stmt}:QS X st xT:=⟨xU⟩
theorem cP(c:PassesOwn (model X.prog X.w) X.A X.env X.xe)(d:X.calm=true)(e:mH cf=false)(hi:QI X b cf f)(h:QG X b g)(i:QSs X a j):
 QS X (.For b cf a [] pos) (vW f g j):=⟨Cp c d hi.h h.h i.h (kx e)⟩
theorem wx(i:Nat)(b:X.N.Nodup)(hi:X.N[i]? =some x)(c:Loc X.env.scope x)(d:X.fn x=true\/X.env.scope.names.lookup x=some .local)(f:gJ e=false)(g:QE X e h):
 QS X (.Assign [.Name x a] e pos) (nR h (jm i)):=⟨xX b hi c g.h (jP f) d⟩
theorem bT(a:gJ e=false)(b:QE X e c):QS X (.Expr e pos) (jJ c):=⟨Ap b.h (jP a)⟩
theorem yR(c:gJ e=false)(hw:tX e=false)(a:aZ b=false)(d:QE X e f)(h:QG X b g):QS X (.Assign [b] e pos) (nR f g):=
 ⟨Co d.h h.h (jP c) (tY hw) (by rw[dD a];rfl)⟩
theorem mK(i:Nat)(a:X.N.Nodup)(hi:X.N[i]? =some x)(b:Loc X.env.scope x)(c:X.fn x=true\/X.env.scope.names.lookup x=some .local):QG X (.Name x pos) (jm i):=⟨Aq a hi b c⟩
theorem cO:QGs X [] Cm:=⟨Ar⟩
theorem gsE(a:aZ e=false)(b:QG X e t)(c:QGs X d u):QGs X (e::d) (xV t u):=⟨xW b.h c.h (by rw[dD a];rfl)⟩
theorem fD(c:X.K=K)(d:X.calm=true)(b:a.any aZ=false)(h:QGs X a t):QG X (.Tuple a k pos) (As K a.length t):=by
 subst c;exact⟨Cn d h.h (jt b).1 (jt b).2⟩
theorem cn:OpQ X (binaryOp .Add) yK:=⟨A0⟩
theorem oV:OpQ X (binaryOp .Sub) (rI0 λi j=> .int (i-j)):=⟨Cs⟩
theorem t9:OpQ X (binaryOp .Mult) yL:=⟨A1⟩
theorem bi:OpQ X (binaryOp .Mod) (rI (λ_ j=>0<j) λi j=> .int (i%j)):=⟨Ct⟩
theorem bG:OpQ X (binaryOp .FloorDiv) (rI Ey λi j=> .int (i/j)):=⟨At⟩
theorem cR:OpQ X (compareOp .Eq) C2:=⟨C3⟩
theorem eF:OpQ X (compareOp .NotEq) C4:=⟨C5⟩
theorem wz:OpQ X (compareOp .Lt) (rI0 λi j=> .bl (decide (i<j))):=⟨EB⟩
theorem wA:OpQ X (compareOp .LtE) (rI0 λi j=> .bl (decide (i<=j))):=⟨EC⟩
theorem wB:OpQ X (compareOp .Gt) (rI0 λi j=> .bl (decide (j<i))):=⟨ED⟩
theorem EJ:OpQ X (compareOp .Is) (λx y H Q=>y= .non/\Q (.bl (decide (x= .non))) H):=⟨Cw⟩
theorem qf:OpQ X (compareOp .IsNot) (λx y H Q=>y= .non/\Q (.bl (!decide (x= .non))) H):=⟨Au⟩
theorem qg(h:X.K=K):OpQ X (compareOp .In) (A2 K):=⟨Db h⟩
theorem cy(h:X.K=K):cN X (.builtin "len") (λxs H Q=>∃x n,xs=[x]/\Ax K x H n/\Q (.int n) H):=⟨wt h⟩
theorem yS(h:X.K=K)(a:X.calm=true):cN X (.builtin "all") (λxs H Q=>∃(p:Addr) (bs:List Bool),xs=[.ref p]/\SqL K H p (bs.map V.bl)/\Q (.bl (bs.all id)) H):=⟨wu h a⟩
theorem BT(a:X.calm=true):cN X (.builtin "max") (λxs H Q=>∃i j,xs=[.int i,.int j]/\Q (.int (if j>i then j else i)) H):=⟨vZ a⟩
theorem EK(a:X.calm=true):cN X (.builtin "min") (λxs H Q=>∃i j,xs=[.int i,.int j]/\Q (.int (if j<i then j else i)) H):=⟨v4 a⟩
theorem iI(h:X.K=K):cN X (.builtin "isinstance") (λxs H Q=>∃x n t b,xs=[x,.ty n]/\jp K H x t/\kitOne K t (.type n)=some b/\Q (.bl b) H):=⟨wv h⟩
theorem BU:cN X (.type "int") (λxs H Q=>(∃i,xs=[.int i]/\Q (.int i) H)\/∃k,xs=[.bl k]/\Q (.int (if k then 1 else 0)) H):=⟨v5⟩
theorem ju(h:X.K=K):cN X (.type "list") (λxs H Q=>∃p ys,xs=[.ref p]/\(SqL K H p ys\/SqT K H p ys)/\∀l,H l=none->Q (.ref l) (upd H l (.lst ys))):=⟨tV h⟩
theorem aS:MtQ X "list.append" p8:=⟨oK⟩
theorem rF:MtQ X "list.extend" p9:=⟨wg⟩
theorem mL(h:X.K=K):MtQ X "str.join" (vm K):=⟨yM h⟩
end
open PySem PySem.Spec PyProof.Rows PySem.SeqAt
section
#version
variable{h':Heap}{tk:Nat}{fp:List Addr}
theorem Inv.moved(I:Inv X pins σ H s)(c:∀b∈fp,lM X pins H b)(d:∀b o,b∉fp->s.heap.get? b=some o->h'.get? b=some o):Inv X pins σ H {s with heap:=h',toks:=tk}:=by
 have f:∀b v,H b=some v->b∉fp:=λb v e a=>by rw[(c b a).1]at e;cases e
 refine I.step (λb a=>%[(c b a).2.2.2.1,(c b a).2.1,(c b a).2.2.2.2.1|(c b a).2.2.2.2.2]) (λb o _ _ g e _=>d b o g e) (λb o _ _ g e _=>%[o.slots|d b o g e]) (λ_ _ _ _ n=>n)
  (λb o g e=>%[o|d b o g e]) (λ_ _ e=>e) (λ_ _ _ e=>e) (λb ps e=>%[#[]|by rw[e];simp]) (λm l=>?_) (λb v e=>?_) I.bare
 .obtain⟨o,p,t,u,r⟩:=l;exact%[o,p,t,d _ o (λa=>(c _ a).2.1 rfl) u|r]
 .refine(I.hok b v e).stay (λj w h q=>d j w ?_ q) (λ_ q=>q) λ_ _ q=>q
  rcases h with i|i
  .exact i▸f b v e
  .exact f j _ i
theorem Inv.stood(I:Inv X pins σ H s)(J:Inv X pins σ H {s with heap:=h',toks:=tk})(c:⇑s<=a)(new:dg X.prog X.w (upd H a o) h' a o):Inv X pins σ (upd H a o) {s with heap:=h',toks:=tk}:=by
 have d:=I.hok.fresh c;refine%[J.ok,J.os,J.bare,?_,J.loc,J.cell,?_,?_,?_,?_|J.len]
 .refine%[J.base.keep,J.base.slot,λb o e n j=>?_,J.base.there,λb xs e=>?_,λb o v e=>?_|λb ps e=>?_]
  .rw[ap ((λb o e=>Zt (Zg (Zg (Zv e) I.sz) c)) b o e)];exact J.base.free b o e n j
  .rw[ap (av (J.base.tups b xs e) d)];exact J.base.tups b xs e
  .rw[ap (av (J.base.frzs b o v e) d)];exact J.base.frzs b o v e
  .obtain⟨m,q⟩:=J.base.tbls b ps e;exact%[m|(ap (av q d))▸q]
 .rw[ap (Zt (Zg I.lt c))];exact J.free
 .intro g f e;obtain⟨l,q⟩:=I.cell g f e;rw[ap (Zt (Zg q.lt c))];exact J.freeC g f e
 .intro p h;obtain⟨e,n,r⟩:=J.pin p h;refine%[e,?_|r];rw[ap (Zt (Zg (Zv (I.pin p h).1) c))];exact n
 .intro b v e;by_cases i:b=a
  .subst i;rw[aa]at e;cases e;exact new
  .rw[ap i]at e;refine(J.hok b v e).stay (λ_ _ _ q=>q) (λf q=>?_) λf xs q=>?_
   .rw[ap (av q d)];exact q
   .rw[ap (av q d)];exact q
end
def ua:V->List V->Hp->VK->Prop:=λx vs H Q=>∃z y,x= .str z/\vs=[.str y]/\1<=y.length/\z.length+2<=sizeLine/\∀l,H l=none->Q (.ref l) (upd H l (.lst ((Txt.split z y).map V.str)))
theorem oW:∀ss k,aF (ss.map V.str) (strsFrom k ss)
 |[],_=> .nil
 | _::r,k=> .cons %[_|rfl] (oW r _)
theorem yT{X:Cx}:MtM X "str.split" ua:=by
 intro pins s m H x vs v us Q I g i h;obtain⟨z,y,rfl,rfl,n,o,q⟩:=h;obtain⟨t,rfl⟩:=g;obtain⟨p,rfl,j⟩:=i.one;obtain⟨u,rfl⟩:=j;have b:(y.length==0)=false:=by simp;lia
 have l:=split_le z y;by_cases c:(decide (z.length<y.length)||decide (Builtin.Str.strKind z<Builtin.Str.strKind y))=true
 .have e:Txt.split z y=[z]:=if_pos c;rw[e]at q;exact call_meets F.slot_str_split (typeIs_str _ _ _) F.entry_str_split (F.args_str_split_2 _ _) (meets_str_split_cannot_occur z y t u c) %[.ref _,_,I.lnew (ys:=[.str z]) (.cons %[_|rfl] .nil) (by show 1<=sizeLine;decide),rfl|q _ I.fresh]
 .have d:=Bool.eq_false_iff.mpr c;by_cases f:(Builtin.Str.occurrences z y 0 z.length (z.length+1)).isEmpty=true
  .have e:Txt.split z y=[z]:=(if_neg c).trans (if_pos f);rw[e]at q;exact call_meets F.slot_str_split (typeIs_str _ _ _) F.entry_str_split (F.args_str_split_2 _ _) (meets_str_split_not_found z y t u d b f) %[.ref _,_,I.lnew (ys:=[.str z]) (.cons %[_|rfl] .nil) (by show 1<=sizeLine;decide),rfl|q _ I.fresh]
  .have e:Txt.split z y=Builtin.Str.partsBetween z _ y.length:=(if_neg c).trans (if_neg f);have a:(Builtin.Str.partsBetween z (Builtin.Str.occurrences z y 0 z.length (z.length+1)) y.length).length<=sizeLine:=by rw[<-e];lia
   refine call_meets F.slot_str_split (typeIs_str _ _ _) F.entry_str_split (F.args_str_split_2 _ _) (meets_str_split_sep z y t u d b (Bool.eq_false_iff.mpr f) ⋯ a) ?_;rw[<-e]at a ⊢;exact%[.ref _,_,I.lnew (oW _ _) (by rw[Z6];exact a),rfl|q _ I.fresh]
theorem vo{X:Cx}:MtQ X "str.split" ua:=⟨yT⟩
noncomputable def Ite(K:ZA)(a:Addr)(xs:List V):It:=⟨λi H=>SqL K H a xs/\i<xs.length,λi H v b=>∃x T,xs[i]? =some x/\H T=none/\v= .ref T/\b=upd H T (.tup [.int i,x]),λi H=>SqL K H a xs/\xs.length<=i⟩
def ESt(e c a:Addr)(i:Nat)(h:Heap):Prop:=(∃b,IsEnum h e c i b)/\h.IsListIter c a i
theorem wC{P:Program}{K:ZA}(e it a:Addr)(xs:List V)(hne:e≠it):pS P w K (.Tuple elts kt tp) (Ite K a xs) [e,it] e (ESt e it a) where
 mem:=by simp
 obj:=λi h st b hb=>by
  obtain⟨⟨old,he⟩,o1,e1,_,d1⟩:=st;simp only[Yy,X9,or_false]at hb;rcases hb with rfl|rfl
  .exact%[_,he|λv q=>nomatch q]
  .exact%[o1,e1|λv q=>by rw[d1]at q;cases q]
 keep:=λi h h' st k=>by
  obtain⟨⟨old,he⟩,o1,e1,r1⟩:=st;exact%[%[old|k e ∅ _ he],o1,k it ∅ _ e1|r1]
 item:=by
  intro X hP hw hK hc i pins s σ H E I hf st hg;subst hP hw hK;obtain⟨⟨old,he⟩,hit⟩:=st;obtain⟨hq,hi⟩:SqL X.K H a xs/\i<xs.length:=hg;obtain⟨its,rv,p,hz⟩:=I.list hq;obtain⟨u,hu,ru⟩:=rv.get (i:=i) (x:=xs[i]) ∅;refine wpAny_pyNext_enum_item he hit p.isList (by simpa using hu) hne λh1 he1 hit1 ht1 hz1 hk1=>%[_,rfl|wpAny_letOwnedTupleGo_enum he1 λh2 he2 sb2=>?_]
  replace sb2:SameBut e h1 h2:=sb2;have elt:=Zv he;have kk:∀b o,b∉[e,it]->s.heap.get? b=some o->h2.get? b=some o:=λb o hb q=>by
   simp only[Yy,X9,or_false,not_or]at hb;exact(sb2.2 b hb.1).trans (hk1 b o hb.1 hb.2 q)
  have J:Inv X pins σ H {s with heap:=h2,toks:=s.toks+1}:=I.moved hf kk;have I2:Inv X pins σ (upd H ⇑s (.tup [.int i,xs[i]])) _:=
   I.stood J (Zi _) %[by show 2<=sizeLine;decide,[.int i s.toks,u],.cons %[_|rfl] (.cons ru .nil),_,((sb2.2 _ (X3 elt)).trans ht1),rfl,_|rfl]
  refine%[.ref ⇑s,_,I2,rfl,%[xs[i],_,by simp,I.fresh,rfl|rfl],%[%[u|he2]|?_]|λb hb=>?_]
  .obtain⟨o,q,r⟩:=hit1;exact%[o,(sb2.2 _ (Ne.symm hne)).trans q|r]
  .have:b<⇑s:=by
    simp only[Yy,X9,or_false]at hb;rcases hb with rfl|rfl
    .exact elt
    .exact(by obtain⟨o,q,_⟩:=hit;exact Zv q)
   rw[ap (Zt this)];exact(hf b hb).1
 done:=by
  intro X hP hw hK hc i pins s σ H E I hf st hg;subst hP hw hK;obtain⟨⟨old,he⟩,hit⟩:=st;obtain⟨hq,hi⟩:SqL X.K H a xs/\xs.length<=i:=hg;obtain⟨its,rv,p,hz⟩:=I.list hq;have hl:=rv.length;refine wpAny_pyNext_enum_end (I.ok.hd hc) he hit p.isList (by simp;lia) λh1 xb=>%[rfl|I.moved hf λb o hb q=>?_]
  simp only[Yy,X9,or_false,not_or]at hb;exact xb b o hb.2 q
 self:=λA i s Q E st h=>by
  obtain⟨⟨old,he⟩,hit⟩:=st;exact wpAny_pyIter_enum he h
def BV(K:ZA)(c:TA):TI:=λd H R=>c d H λvs b=>∃a xs,vs=[.ref a]/\SqL K b a xs/\R (Ite K a xs) b
section
variable{X:Cx}{K:ZA}{pos:Pos}
theorem vp(m:X.K=K)(n:Gl X "enumerate")(o:X.mg "enumerate"=none)(r:aZ a=false)(t:QA X [a] v):
 QI X (.Tuple g J L) (.Call (.Name "enumerate" p) [a] [] pos) (BV K v):=by
 subst m
 constructor
 intro pins s w H R I h;refine Call_ (iA I n o boot_enumerate (PyProof.Rows.callWith_type1 (thP (t.h pos pins s w H _ I h) λus d vs y c z A=>?_) (ax r) rfl));obtain⟨l,xs,e,B,q⟩:=A;subst e;obtain⟨u,rfl,C⟩:=dh z;cases C;obtain⟨its,M,p,N⟩:=c.list B;refine call_enumerate_list p.isList λO i f E G=>wpAny_pyIter_enum i %[⇑d+1,[⇑d+1,⇑d],ESt _ ⇑d l,Ite X.K l xs,y,rfl,(c.kept G),wC _ _ _ _ (Nat.succ_ne_self _),%[%[_|i]|f],λb j=>?_|q]
 simp only[Yy,X9,or_false]at j;rcases j with rfl|rfl
 .exact c.fpOk (Yi _) (c.hok.fresh (Yi _))
 .exact c.fpOk (Zi _) (c.hok.fresh (Zi _))
end
section
variable(h:Heap)(x y:Str)(t u:Tok)
noncomputable abbrev zs1:Heap:=h.push {cls:= .type (strIterType x),data:= .fields #[.str x t,.int 0 0]}
noncomputable abbrev zs2:Heap:=(zs1 h x t).push {cls:= .type (strIterType y),data:= .fields #[.str y u,.int 0 0]}
noncomputable abbrev zs3:Heap:=(zs2 h x y t u).push {cls:= .type "tuple",data:= .seq #[.ref h.objs.size,.ref (zs1 h x t).objs.size]}
noncomputable abbrev zs4:Heap:=(zs3 h x y t u).push {cls:= .type "tuple",data:= .seq #[.none,.none]}
noncomputable abbrev zs5:Heap:=(zs4 h x y t u).push {cls:= .type "zip",data:= .fields #[.none,.bool false,.bool false,.ref (zs2 h x y t u).objs.size,.ref (zs3 h x y t u).objs.size]}
end
theorem lP(x y:Str)(t u:Tok):
 Meets (Builtin.«zip.__new__» %[[.type "zip",.str x t,.str y u]|[]]) (λ_ R s=>R (.ok (.ret (.ref (zs4 s.heap x y t u).objs.size))) (s>>>zs5 s.heap x y t u)):=
 .of_wp λprog w A R s b=>by
  obtain⟨c,g,d,tk,os⟩:=s;have a:=PySem.sub_zip
  wp_walk using wpAny_pyIter_strU (x:=x) (t:=t),wpAny_pyIter_strU (x:=y) (t:=u)
  exact%[_,rfl|b]
section
#where
theorem mM
 (h:∀h',IsZip h' (⇑s+4) (⇑s+2) (⇑s+3) .none->IsPair h' (⇑s+2) (.ref ⇑s) (.ref (⇑s+1))->IsPair h' (⇑s+3) .none .none->
  h'.IsStrIter ⇑s (strIterType x) x t 0->h'.IsStrIter (⇑s+1) (strIterType y) y u 0->(∀c o,s.heap.get? c=some o->h'.get? c=some o)->Q (.ref (⇑s+4)) (s>>>h')):
 ↥A (call (.type "zip") [.str x t,.str y u]) Q E s:=by
 refine callType_new F.called_zip (by decide) (F.typeCall_zip_2 _ _) (F.newCall_zip_2 _ _) (λobj=>F.args_object_init_3 obj _ _) F.entry_zip_new (lP x y t u) ?_;have a:(zs1 s.heap x t).objs.size=⇑s+1:=Zq ..;have b:(zs2 s.heap x y t u).objs.size=⇑s+2:=by rw[Zq,a]
 have d:(zs3 s.heap x y t u).objs.size=⇑s+3:=by rw[Zq,b]
 have f:(zs4 s.heap x y t u).objs.size=⇑s+4:=by rw[Zq,d]
 have g:∀c o,(zs4 s.heap x y t u).get? c=some o->(zs5 s.heap x y t u).get? c=some o:=λ_ _ q=>Z7 _ q
 have i:∀c o,(zs3 s.heap x y t u).get? c=some o->(zs5 s.heap x y t u).get? c=some o:=λc o q=>g c o (Z7 _ q)
 have j:∀c o,(zs2 s.heap x y t u).get? c=some o->(zs5 s.heap x y t u).get? c=some o:=λc o q=>i c o (Z7 _ q)
 have k2:∀c o,(zs1 s.heap x t).get? c=some o->(zs5 s.heap x y t u).get? c=some o:=λc o q=>j c o (Z7 _ q)
 have k1:∀c o,s.heap.get? c=some o->(zs5 s.heap x y t u).get? c=some o:=λc o q=>k2 c o (Z7 _ q)
 have e:(zs5 s.heap x y t u).get? (zs4 s.heap x y t u).objs.size=some _:=Zj _ rfl;have l:(zs5 s.heap x y t u).get? (zs3 s.heap x y t u).objs.size=some _:=g _ _ (Zj _ rfl);have m:(zs5 s.heap x y t u).get? (zs2 s.heap x y t u).objs.size=some _:=i _ _ (Zj _ rfl);have n:=j _ _ (Zj _ rfl);show _/\_;rw[b,d,f]at e;rw[a,b]at m;rw[d]at l;rw[a]at n;rw[f];exact%[%[_,e|rfl]|h _ e m l %[_,(k2 _ _ (Zj _ rfl)),rfl|rfl] %[_,n,rfl|rfl] k1]
end
def BW(a:TA):TI:=λb H R=>a b H λvs c=>∃x y,vs=[.str x,.str y]/\R (Itz x y) c
section
variable{X:Cx}{K:ZA}{pos:Pos}
theorem BX(v:Gl X "zip")(w:X.mg "zip"=none)(z:aZ a=false)(f:aZ b=false)(A:QA X [a,b] B):
 QI X (.Tuple n M N) (.Call (.Name "zip" p) [a,b] [] pos) (BW B):=by
 constructor
 intro pins s C H R I h;refine Call_ (iA I v w boot_zip (PyProof.Rows.callWith_type1 (thP (A.h pos pins s C H _ I h) λus c vs E g G J=>?_) (ax z) (by rw[ax f];rfl)));obtain⟨x,y,e,q⟩:=J;subst e;obtain⟨O,Q,rfl,⟨t,rfl⟩,u,rfl⟩:=jK G;refine mM λT o l m hi1 hi2 L=>wpAny_pyIter_zip o ?_
 have ne:∀i j,i≠j->⇑c+i≠⇑c+j:=λi j h e=>h (Nat.add_left_cancel e)
 refine%[⇑c+4,[⇑c+4,⇑c+2,⇑c+3,⇑c+0,⇑c+1],_,Itz x y,E,rfl,(g.kept L),
  yQ _ _ _ _ _ x y t u %[ne 2 4 (by decide),ne 3 4 (by decide),ne 0 4 (by decide),ne 1 4 (by decide),ne 2 3 (by decide),ne 2 0 (by decide),ne 2 1 (by decide),ne 3 0 (by decide),ne 3 1 (by decide)|ne 0 1 (by decide)],
  %[o,l,%[_,_|m],hi1|hi2],λb r=>?_|q]
 have d:⇑c<=b:=by
  simp only[Yy,X9,or_false]at r;rcases r with rfl|rfl|rfl|rfl|rfl<;> exact le_add_right _ _
 exact g.fpOk d (g.hok.fresh d)
end
inductive D where
 | non|bl (b:Bool)|int (i:Int)|str (x:Str)|lst (ds:List D)|tup (ds:List D)
section
variable{K:ZA}{H H':Hp}
theorem af.seqT(e:af H H')(h:SqT K H a xs):SqT K H' a xs:=by
 rcases h with(h|⟨o,h⟩)|h
 .exact .inl (.inl (e _ _ h))
 .exact .inl (.inr %[o|e _ _ h])
 .exact .inr h
end
section
#version
end
theorem ub{X:Cx}(G:X.N.Nodup)(t:X.N[i]? =some x)(J:Loc X.env.scope x)(L:X.fn x=true\/X.env.scope.names.lookup x=some .local)
 (u:swapsWith (.ListComp l [%[w,cf,p|0]] a pos) (some (.Name x A)) f.line X.env=pure true) (S:az X a r y) (M:X.calm=true) (N:∀x,foldedSetIterable cf X.env x=pure x) (hi:PI X w cf O)
 (Q:∀c d j,PG (bQ X a r c d j) w g) (T:∀c d j,PTs (bQ X a r c d j) p U) (Y:∀c d j,PE (bQ X a r c d j) l te):
 PS X (.Assign [.Name x A] (.ListComp l [%[w,cf,p|0]] a pos) f) (nR (oQ O r.length y g U te) (jm i)):=by
 intro pins s σ H D I h;refine Z2 (wpAny_standAt ?_);show wpAny _ _ (swapsWith (.ListComp l _ a pos) (some (.Name x A)) f.line X.env>>= _) _ _ _;rw[u];refine Z2 (Z3 (Z2 (Z2 (oR S M hi Q T Y N I h λD' C H5 s6 fl m hn j k q=>?_))));obtain⟨o,es,ep,B,hd,hr⟩:=id hn;have I7:=(k s6.heap (SameBut.refl _ _)).pinned (λb n=>(Xq n)▸j) λb n=>by
  rw[Xq n];exact%[o,B|λv z=>by lia]
 refine wpAny_assign_Name (mt I7 G t J (v:= .ref D') rfl (λs8 E=>%[m,%[o,es,ep,((E.pin _ (Yx _ (Yx _ (eR (mem_singleton.mpr rfl) B)))).1),hd|hr]|λh' sb=>Z3 (Z3 %[_,H5,(E.unpinned).moved (λb n=>(Xq n)▸j) λb o' n e=>(sb.2 b (λz=>n (mem_singleton.mpr z))).trans e|q])]) L)
theorem wD(h:(env.blockKind== .function&&env.kindOf x==some .local&&b.line==pos.line&&!(a.names.any λ(n,k)=>n==x&&(k== .local||k== .cell)))=true):
 swapsWith (.ListComp c gens a pos) (some (.Name x b)) l env=pure true:=by
 show(pure (env.blockKind== .function&&env.kindOf x==some _&&b.line==pos.line&&!(a.names.any _)))=pure true;rw[h]
theorem iJ{X:Cx}(i:Nat)(q:X.N.Nodup)(f:X.N[i]? =some x)(r:Loc X.env.scope x)(s:X.fn x=true\/X.env.scope.names.lookup x=some .local)
 (h:(X.env.blockKind== .function&&X.env.kindOf x==some .local&&t.line==pos.line&&!(c.names.any λ(n,k)=>n==x&&(k== .local||k== .cell)))=true) (S:az X c e j) (u:X.calm=true) (v:mH cf=false) (hi:QI X o cf w)
 (y:∀a b d,QG (bQ X c e a b d) o g) (z:∀a b d,QTs (bQ X c e a b d) l A) (B:∀a b d,QE (bQ X c e a b d) m C):
 QS X (.Assign [.Name x t] (.ListComp m [%[o,cf,l|0]] c pos) p) (nR (oQ w e.length j g A C) (jm i)):=
 ⟨ub q f r s (wD h) S u (kx v) hi.h (λa b d=>(y a b d).h) (λa b d=>(z a b d).h) (λa b d=>(B a b d).h)⟩
section
#version
end
section
variable{X:Cx}{K:ZA}
end
theorem bR:Slot "set_iterator" "__next__" "set_iterator.__next__":=
 .of (owner:="set_iterator") (n:="__next__") (by rw[typeLookup_type,builtinLookup_eq_fast];kernel_rfl) (by decide +kernel) (by decide +kernel) (by decide +kernel) (by first|exact .inl (by decide +kernel)|exact .inr ∅) (by kernel_rfl)
theorem fX:entryFor table "set_iterator.__next__"=some Builtin.«set_iterator.__next__»:=entryFor_of_tree (by kernel_rfl)
theorem io(a:Value):argsOk "set_iterator.__next__" %[[a]|[]]:=by kernel_rfl
theorem nU:entryFor table "set.__iter__"=some Builtin.«frozenset.__iter__»:=entryFor_alias (id':="frozenset.__iter__") (by kernel_rfl) rfl (by decide +kernel) (by kernel_rfl)
theorem nV(t:SetTable)(n:Nat):(t.orStandIn n).led=t.led:=by unfold SetTable.orStandIn;split<;> rfl
theorem uc(t:SetTable)(a:Array _)(h:Int)(x:Value):(layNew t a h x).2.1.led=t.led:=by
 unfold layNew;cases t.freeSlot h with
 | none=>rfl
 | some p=>
   exact nV _ _
theorem qh(t:SetTable)(c:Array _)(n:Nat):(relayAll t c n).2.1.led=t.led:=by
 unfold relayAll;cases a:t.relaid _ n with
 | none=>rfl
 | some p=>
   obtain⟨t',d⟩:=p;simp only
   split
   .simp only[SetTable.relaid,SetTable.laid]at a;cases b:SetTable.layClean _ _ with
    | none=>rw[b]at a;cases a
    | some f=>rw[b]at a;injection a with a;injection a with e g;rw[<-e]
   .rfl
theorem mN(t:SetTable)(c:Array _)(n:Nat)(d:t.plain=false):(relayAll t c n).2.1.plain=false:=by
 unfold relayAll;cases a:t.relaid _ n with
 | none=>rfl
 | some p=>
   obtain⟨t',e⟩:=p;simp only
   split
   .simp only[SetTable.relaid,SetTable.laid]at a;cases b:SetTable.layClean _ _ with
    | none=>rw[b]at a;cases a
    | some g=>rw[b]at a;injection a with a;injection a with f h;exact f▸d
   .rfl
noncomputable def aQ(w:World):Bool:=w.params.followText "set-order"
def bp(w:World)(a:Addr)(ks:ZB)(h:Heap):Prop:=
 ∃o b c t ss,h.get? a=some o/\o.ExactSet/\o.data= .set b c t/\StrsAre (b.toList.map (·.2)) ss/\ss.Perm ks/\ks.Nodup/\(∀e∈b.toList,∃z u,e=(hashStr w z,.str z u))/\b.size<scanBound/\t.fits b.size=true/\(b.size≠0->t.plain=false)/\t.led=!aQ w
theorem oX(h:∀e∈l,∃z u,e=(hashStr w z,.str z u)):ElemsOf (aP prog w) l:=λe a=>by
 obtain⟨z,u,rfl⟩:=h e a;exact%[%[Sum.inr z,dw z u|rfl]|rfl]
theorem dS:∀{vs:ZF} {ss:ZB} {z:Str},StrsAre vs ss->((∃u,Value.str z u∈vs)↔z∈ss)
 | _,_,z,.nil=>by simp
 | _,_,z,.cons x t h=>by
   have b:=dS (z:=z) h
   constructor
   .rintro⟨u,a⟩;rcases mem_cons.mp a with e|e
    .injection e with c _;exact c▸Zm
    .exact Zk _ (b.mp %[u|e])
   .intro d;rcases mem_cons.mp d with e|e
    .exact e▸%[t|Zm]
    .obtain⟨u,a⟩:=b.mpr e;exact%[u|Zk _ a]
theorem iK:∀{vs ws:ZF} {ss ts:ZB},StrsAre vs ss->StrsAre ws ts->StrsAre (vs++ws) (ss++ts)
 | _,_,_,_,.nil,h=>h
 | _,_,_,_,.cons x t h,h'=> .cons x t (iK h h')
theorem bB:∀{vs:ZF} {ss:ZB},StrsAre vs ss->vs.length=ss.length
 | _,_,.nil=>rfl
 | _,_,.cons x t h=>by rw[Zr,Zr,bB h]
theorem cp(h:StrsAre vs ss)(p:ws.Perm vs):∃ts,StrsAre ws ts/\ts.Perm ss:=by
 refine%[ws.map strOf,strsAre_map ws λv a=>h.all v (p.mem_iff.mp a)|?_];have:=p.map strOf;rwa[h.strs]at this
section
#where
variable{a:Addr}
theorem bp.stored{h:Heap}{o:Obj}{i b:Array (Int×Value)}{t t':SetTable}(j:h.get? a=some o)(c:o.ExactSet)(d:o.data= .set i f t)(l:StrsAre (b.toList.map (·.2)) ss)(m:ss.Perm ks)(n:ks.Nodup)
 (p:∀e∈b.toList,∃z u,e=(hashStr w z,.str z u)) (r:b.size<scanBound) (v:t'.fits b.size=true) (y:t'.plain=false) (B:t'.led=!aQ w):
 (h.update a (Obj.putSet b t')).get? a=some {o with data:= .set b (f+1) t'}/\bp w a ks (h.update a (Obj.putSet b t')):=by
 have g:=by
  have q:=get?_update_self (Obj.putSet b t') j (by rw[putSet_of b t' d];rfl);rwa[putSet_of b t' d]at q
 exact%[g,_,b,f+1,t',ss,g,c,rfl,l,m,n,p,r,v,λ_=>y|B]
theorem rG{g:Bool->Sem Unit}(N:∀(b:Bool) (h:Shared) (q:Unit->Shared->Prop),q () h->↥A (g b) q E h){m:Bool}{R:Option Bool->Shared->Prop}(r:s.heap.get? a=some o)(i:o.ExactSet)(v:o.data= .set es ep t)
 (y:StrsAre (c.toList.map (·.2)) ss) (B:ss.Perm ks) (C:ks.Nodup) (G:∀e∈c.toList,∃z u,e=(hashStr w z,.str z u)) (j:c.size<scanBound) (O:d.fits c.size=true) (H:d.plain=false) (I:d.led=!aQ w)
 (J:∀h',SameBut a s.heap h'->bp w a ks h'->R (some true) (s>>>h')):
 ↥A (do
  storeSet a c d
  if(!m&&d.tooFull)=true then do
   g (relayAll d c (SetTable.grown c.size)).2.2
   storeSet a (relayAll d c (SetTable.grown c.size)).1 (relayAll d c (SetTable.grown c.size)).2.1
   pure (some true)
  else pure (some true)) R E s:=by
 obtain⟨g1,Q⟩:=bp.stored r i v y B C G j O H I;have M:=SameBut.update s.heap a (Obj.putSet c d);refine Z2 (wpAny_storeSet_of r v ?_ (fits_of_scanBound j))
 split
 .have p:=relayAll_perm d c (SetTable.grown c.size);have f:=relayAll_fits d c (SetTable.grown c.size);have l:=qh d c (SetTable.grown c.size);have pl:=mN d c (SetTable.grown c.size) H
  generalize relayAll d c _=L at p f l pl ⊢
  obtain⟨n,t3,gv⟩:=L;have z:n.size=c.size:=by rw[<-Zb,p.length_eq,Zb]
  obtain⟨ts,T,U⟩:=cp y (p.map _);exact Z2 (N _ _ _ (Z2 (wpAny_storeSet_of g1 rfl (Z3 (J _ (M.trans (SameBut.update _ a _)) (bp.stored g1 i rfl T (U.trans B) C (λe Y=>G e (p.mem_iff.mp Y)) (by rw[z];exact j) f pl (l.trans I)).2)) (fits_of_scanBound (by rw[z];exact j)))))
 .exact Z3 (J _ M Q)
theorem jQ{ks:ZB}(hS:bp w a ks s.heap)(v:ks.length+1<scanBound)
 (hQ:∀h' b,SameBut a s.heap h'->bp w a (if z∈ks then ks else ks++[z]) h'->Q b (s>>>h')):↥A (setAddHashed a (.str z tk) (hashStr w z)) Q E s:=by
 obtain⟨o,c,ep,t,ss,G,B,H,h,hp,I,l,hb,hf,ac,d⟩:=hS;have hn:c.size=ks.length:=by
  have q:=bB h;rw[Z6,Zb,hp.length_eq]at q;exact q
 have hE:ElemsOf (aP prog w) c.toList:=oX l;have J:(aP prog w).is (Sum.inr z) (.str z tk)=true:=dw z tk;unfold setAddHashed setAddHashedIn;refine wpAny_holding (Z2 (wpAny_setState_of G H hf ?_));dsimp only;rw[byScan_of (knd:=aP prog w) rfl hb hE];simp only[↓reduceIte];unfold setAddByScan;refine Z2 (Z2 (wpAny_rule (Z2 (wpAny_setScan_of J G H hf hE ?_))));have M:(∃e∈c.toList,(aP prog w).is (Sum.inr z) e.2=true)↔z∈ks:=by
  rw[<-hp.mem_iff,<-dS h]
  constructor
  .rintro⟨e,m,q⟩;obtain⟨y,u,rfl⟩:=l e m;have q:jI (Sum.inr z) (Value.str y u)=true:=q;rcases bq q with⟨i,t',q1,n⟩|⟨y',t',q1,n⟩
   .cases n
   .cases q1;exact%[u|Xs ⟨_,m,by injection n with e1 _;rw[e1]⟩]
  .rintro⟨u,hu⟩;obtain⟨e,m,q⟩:=Xr hu;exact%[e,m|q▸dw z u]
 cases hr:List.findIdx? _ c.toList with
 | some j=>
   obtain⟨hj,ag,_⟩:=List.findIdx?_eq_some_iff_getElem.mp hr;have hz:=M.mp %[c.toList[j],Yf hj|ag];have q:=hQ s.heap false (SameBut.refl a s.heap) ((if_pos hz)▸%[o,c,ep,t,ss,G,B,H,h,hp,I,l,hb,hf,ac|d]);exact Z3 (Z3 q)
 | none=>
   have hz:z∉ks:=λq=>by
    obtain⟨e,m,n⟩:=M.mpr q;have:=List.findIdx?_eq_none_iff.mp hr e m;rw[n]at this;cases this
   rw[if_neg hz]at hQ;have N:=layNew_perm t c (hashStr w z) (.str z tk);have lf:=layNew_fits t c (hashStr w z) (.str z tk);have ll:=uc t c (hashStr w z) (.str z tk)
   generalize hL:layNew t c _ _=L at N lf ll
   obtain⟨C,t1,as,an⟩:=L;rw[toList_push]at N;have f:∀b g Q',Q' () g->↥A (match b with|true=>rule "set.scan.the-table-gave-way"|false=>pure ()) Q' E g:=λb g Q' q=>by
    cases b
    .exact Z3 q
    .exact wpAny_rule q
   have p:∀e∈C.toList,∃z u,e=(hashStr w z,.str z u):=λe m=>by
    rcases Xp (N.mem_iff.mp m)with q|q
    .exact l e q
    .rw[Xq q];exact%[z,tk|rfl]
   have q1:StrsAre ((c.toList++[(hashStr w z,Value.str z tk)]).map (·.2)) (ss++[z]):=by
    rw[Zd];exact iK h (.cons z tk .nil)
   obtain⟨ts,n,q3⟩:=cp q1 (N.map _);have O:=q3.trans (hp.append_right _);have r:=lZ I hz;have al:C.size=c.size+1:=by rw[<-Zb,N.length_eq,Z9,Zb];rfl
   have T:C.size<scanBound:=by rw[al,hn];exact v
   have U:∀h',SameBut a s.heap h'->bp w a _ h'->↥A _ Q E _:=λh' Y S'=>Z3 (hQ h' true Y S')
   refine Z2 (f _ _ _ ?_);cases ab:t1.plain with
   | true=>
     exact Z2 (Z3 (rG f G B H n O r p T (SetTable.fits_plain_off lf) rfl (ll.trans d) λh' Y S'=>U h' Y S'))
   | false=>
     exact rG f G B H n O r p T lf ab (ll.trans d) λh' Y S'=>U h' Y S'
theorem rH(d:bp w a ks s.heap)(c:ks.length+1<scanBound)
 (e:∀h' b,SameBut a s.heap h'->bp w a (if z∈ks then ks else ks++[z]) h'->Q b {s with heap:=h',toks:=s.toks+1}):↥A (setAdd a (.str z tk)) Q E s:=by
 exact wpAny_holding (Z2 (wpAny_pyHash_str (jQ d c e)))
end
noncomputable def lQ(ks:ZB)(z:Str):ZB:=if z∈ks then ks else ks++[z]
noncomputable def aK(ss:ZB):ZB:=ss.foldl lQ []
theorem yU(ks:ZB)(z:Str):(lQ ks z).length<=ks.length+1:=by
 unfold lQ;split
 .lia
 .exact Z9▸Zi _
theorem yV:y∈lQ ks z↔y∈ks\/y=z:=by
 unfold lQ;by_cases h:z∈ks
 .rw[if_pos h]
  simp_all
 .rw[if_neg h,Yv,mem_singleton]
theorem ue(h:ks.Nodup):(lQ ks z).Nodup:=by
 unfold lQ;by_cases a:z∈ks
 .rw[if_pos a];exact h
 .rw[if_neg a];exact lZ h a
theorem rJ:∀{ss ks:ZB} {y:Str},y∈ss.foldl lQ ks↔y∈ks\/y∈ss
 |[],ks,y=>by simp
 | z::r,ks,y=>by
   rw[Y9,rJ,yV,Yy]
   grind
theorem mO:∀{ss ks:ZB},ks.Nodup->(ss.foldl lQ ks).Nodup
 |[],_,h=>h
 | z::r,ks,h=>by
   rw[Y9];exact mO (ue h)
theorem bx:y∈aK ss↔y∈ss:=by unfold aK;rw[rJ];simp
theorem eW(ss:ZB):(aK ss).Nodup:=mO X7
theorem rK:∀(ss ks:ZB),(ss.foldl lQ ks).length<=ks.length+ss.length
 |[],ks=>by simp
 | z::r,ks=>by
   have a:=rK r (lQ ks z);have b:=yU ks z;rw[Y9,Zr]
   lia
theorem bp.keep(S:bp w a ks h)(k:∀o,h.get? a=some o->h'.get? a=some o):bp w a ks h':=by
 obtain⟨o,b,c,t,ss,d,r⟩:=S;exact%[o,b,c,t,ss,k o d|r]
theorem rL(val:Nat->Str)(i:Nat):aK ((List.range (i+1)).map val)=lQ (aK ((List.range i).map val)) (val i):=by
 unfold aK;rw[Xc,Zd,List.foldl_append];rfl
section
variable{prog:Program}{w:World}{A:Around}{R:Result->Shared->Prop}{I:Addr}{fp wr:List Addr}{G:Array GenState->Array GenState->Prop}{n:Nat}{P:Nat->Value->Prop}{St:Nat->Shared->Prop}
theorem nW(W:WalksS prog w A.in1 I fp wr G n P St)(S:Addr)(d:S∉fp)(val:Nat->Str)(f:∀i v,P i v->∃t,v= .str (val i) t)(c:n+1<scanBound):
 ∀(k i:Nat) (s:Shared),n-i=k->i<=n->St i s->bp w S (aK ((List.range i).map val)) s.heap->
  (∀s',Moved (S::wr) G s s'->bp w S (aK ((List.range n).map val)) s'.heap->R (.ok (.ret .none)) s')->codeAny (model prog w) A (.builtin "set.update.loop" %[[.ref S,.ref I]|[]]) R s:=by
 have out:S∉wr:=λh=>d (W.sub _ h)
 have more:∀b∈wr,b∈S::wr:=λb c=>Zk _ c
 intro k
 induction k with
 | zero=>
   intro i s y hi st l a;have e:i=n:=by lia
   subst e;refine codeAny_builtin F.entry_set_update_loop ?_;rw[Around.under_plainId F.plain_set_update_loop _];show wpAny _ A.in1 (pyNext (.ref I)>>= _) _ _ s;refine Z2 (W.done s _ _ st λg j=>?_);show wpAny _ A.in1 (ret Value.none) _ _ g;exact Z3 (a g (j.mono more) (l.keep λo e=>j.heap S o out e))
 | succ k z=>
   intro i s y hi st l a;have lt:i<n:=by lia
   refine codeAny_builtin F.entry_set_update_loop ?_;rw[Around.under_plainId F.plain_set_update_loop _];show wpAny _ A.in1 (pyNext (.ref I)>>= _) _ _ s;refine Z2 (W.item i s _ _ lt st λv g pv m j=>?_);obtain⟨t,rfl⟩:=f i v pv;have room:(aK ((List.range i).map val)).length+1<scanBound:=by
    have q:=rK ((List.range i).map val) [];rw[Z6,Ym]at q;unfold aK;simp only[length_nil,zero_add]at q
    lia
   refine Z2 (wpAny_holding (rH (l.keep (h':=g.heap) λo e=>j.heap S o out e) room λE b u p=>Z3 %[plainId_quiet F.plain_set_update_loop _|z (i+1) _ ⋯ lt (W.frame _ g _ _ m (Yi _) λb c o e=>?_) (by rw[rL];exact p) λB C r=>?_]))
   .rw[u.2 b (λq:b=S=>d (q▸c))];exact e
   .refine a B (Moved.trans W.gtrans ((j.mono more).then_heap (Yi _) λb o c e=>?_) C) r;rw[u.2 b (λq:b=S=>c (q▸Zm))];exact e
end
section
#where
noncomputable abbrev aR(w:World):Obj:={cls:= .type "set",dict:=none,data:= .set #[] 0 (.fresh 0 0 (!aQ w))}
theorem rN(a:Value)(h:Q₁ (.ref ⇑s) (s>>>s.heap.push (aR w))):
 codeAny (model prog w) A (.call (.builtin "set.__new__") %[[.type "set",a]|[]]) (wants Q₁ E) s:=by
 refine codeAny_of_tree ?_;show wpAny _ A.in1 _ _ _ s;refine Z2 (wpAny_of_eq (PySem.F.newCall_set_1 a) (Z3 %[plainId_quiet PySem.F.plain_set_new _|codeAny_builtin PySem.F.entry_set_new ?_]));unfold Builtin.«set.__new__» Builtin.Frozenset.newClass;have b:=sub_set_self;obtain⟨c,g,d,tk,os⟩:=s;dsimp only
 wp_walk
 refine wpAny_askSetting (Z3 ?_);dsimp only;simp only[newObj];exact Z2 (wpAny_alloc (Z3 (Z3 h)))
theorem bp.empty(e:h.get? a=some (aR w)):bp w a [] h:=
 %[_,#[],0,_,[],e,%[rfl,rfl|rfl],rfl,.nil,.nil,X7,λe b=>by simp at b,by decide,rfl,λq=>absurd rfl q|rfl]
theorem rO:∀{vs:ZF} {ss:ZB},StrsAre vs ss->∀(i:Nat) v,vs[i]? =some v->∃t,v= .str (ss.getD i (Str.ofString "")) t
 | _,_,.nil,i,v,h=>by simp at h
 | _,_,.cons x t a,0,v,h=>by simp at h;exact%[t|by rw[<-h];rfl]
 | _,_,.cons x t a,i+1,v,h=>by
   obtain⟨u,e⟩:=rO a i v (h);exact%[u|by rw[e];rfl]
theorem uf(ss:ZB):(List.range ss.length).map (λi=>ss.getD i (Str.ofString ""))=ss:=by
 apply ext_getElem
 .simp
 .intro i a b
  simp_all
theorem nZ(hh:A.handled=none)(hl:s.heap.IsList l a)(hi:StrsAre a.toList ss)(hb:a.size+1<scanBound)
 (hQ:∀(h':Heap) (tk:Nat),bp w ⇑s (aK ss) h'->(∀b o,s.heap.get? b=some o->h'.get? b=some o)->Q (.ref ⇑s) {s with heap:=h',toks:=tk}):
 ↥A (call (.type "set") [.ref l]) Q E s:=by
 obtain⟨c,tl,T⟩:=called_set.mro;have B:=called_set.made;have U:=called_set.sub;refine wpAny_call (codeAny_of_tree ?_);show wpAny _ _ (callAny (.type "set") _) _ _ _;refine Z3 %[Code.quiet_builtin _ (by decide +kernel)|codeAny_builtin F.entry_type_call ?_];rw[Around.under_plain (weight_type_call_type "set" [.ref l] []) rfl];have ac:=called_set.notType;have ag:=called_set.canCreate;have al:=PySem.F.typeCall_set_1 (.ref l)
 repeat any_goals first|assumption|wp_step
 refine codeAny_mono (rN (.ref l) (E:=E) (Q₁:=λobj g=>obj= .ref ⇑s/\g=(s>>>s.heap.push (aR w))) %[rfl|rfl]) λr g C=>?_
 cases r with
 | error e=>exact C
 | ok fl=>
   cases fl with
   | ret obj=>
     obtain⟨rfl,rfl⟩:=C;have Y:(s.heap.push (aR w)).get? ⇑s=some (aR w):=Zj _ rfl;have tS:Shared.TypeIs (s>>>s.heap.push (aR w)) (.ref ⇑s) "set":=%[_,Y|rfl]
     have an:=called_set.init.lookup;have as:=called_set.init.bind (.ref ⇑s)
     repeat any_goals first|assumption|wp_step
     refine codeAny_mono (codeAny_call_builtin (R:=wants (λr h=>r= .none/\∃h' tk,h={s with heap:=h',toks:=tk}/\bp w ⇑s (aK ss) h'/\(∀b o,s.heap.get? b=some o->h'.get? b=some o)) E) called_set.init.plain F.entry_set_init (check_set_init_1 tS ?_)) λn h d=>?_
     .obtain⟨ol,gl,cl,nl,dl⟩:=hl;obtain⟨ab,j,G,f⟩:=ol;simp only at cl dl;subst cl;subst dl;have H:(s.heap.push (aR w)).get? l=some {cls:= .type "list",dict:=j,data:= .seq a nl,slots:=f}:=Z7 _ gl;have a0:=PySem.F.sub_list_set;have a1:=PySem.F.sub_list_frozenset;have a2:(Value.type "list"==Value.type "dict")=false:=by decide
      have p:(s.heap.push (aR w)).IsList l a:=%[_,H,rfl,nl|rfl]
      unfold Builtin.«set.__init__»;unfold noKeywords;unfold Builtin.Frozenset.updateFrom
      generalize I:pyIter=PI
      wp_walk
      subst I;refine wpAny_pyIter_list p (Z2 (wpAny_runValue ?_));have q:l<⇑s:=Zv gl;have h3:A.in1.in1.in1.handled=none:=by simp[hh]
      have J:(s.heap.push (aR w)).objs.size=⇑s+1:=Zq ..;have L:l≠(s.heap.push (aR w)).objs.size:=by rw[J];exact Zt (Yq q)
      have M:⇑s∉[(s.heap.push (aR w)).objs.size,l]:=by
       rw[J];simp only[Yy,X9,or_false,not_or];exact%[Zt (Yr _)|X3 q]
      have t:a.size=ss.length:=by rw[<-Zb];exact bB hi
      refine nW ((Walks.list h3 _ l L a).toS) ⇑s M (λi=>ss.getD i (Str.ofString "")) (λi v hv=>rO hi i v (by rw[Ye];exact hv)) hb (a.size-0) 0 _ ⋯ (Xh _)
       %[%[_,Zj _ rfl,rfl|rfl]|p.push _] (bp.empty (Z7 _ Y)) ?_
      intro s3 y z;rw[t,uf]at z;obtain⟨h',g',d',N,O⟩:=s3;have eg:g'=s.gens:=y.gens;have ed:d'=s.drawn:=y.drawn;have eo:O=s.os:=y.os;subst eg;subst ed;subst eo;refine Z3 ?_;show wpAny _ _ (ret Value.none) _ _ _;refine Z3 %[rfl,h',N,rfl,z|λb o e=>?_];have u:=Zv e;refine y.heap b o ?_ (Z7 _ (Z7 _ e));simp only[Yy,X9,or_false,not_or,J];exact%[Zt u|Zt (Yq u)]
     .cases n with
      | error e=>exact d
      | ok m=>
        cases m with
        | ret r=>
          obtain⟨rfl,h',tk,rfl,z,k3⟩:=d
          repeat any_goals first|assumption|wp_step
          exact hQ _ _ z k3
        | _=>exact d.elim
   | _=>exact C.elim
end
section
variable{X:Cx}{K:ZA}
noncomputable def jv(w:World)(a:Addr)(ks:ZB):HO:= .ext (bp w a ks)
theorem yW(b:X.calm=true):cx X (.type "set") (λxs H Q=>∃p ss,xs=[.ref p]/\SqL X.K H p (ss.map V.str)/\ss.length<=4000/\∀l,H l=none->Q (.ref l) (upd H l (jv X.w l (aK ss)))):=by
 intro pins s j H xs us Q I r h;obtain⟨p,ss,rfl,c,m,q⟩:=h;obtain⟨u,rfl,d⟩:=dh r;cases d;obtain⟨its,e,pl,n⟩:=I.list c;have a:=gG e;have f:its.toArray.size=ss.length:=bB a;refine nZ (I.ok.hd b) pl.isList (a) (by rw[f];show ss.length+1<4096;lia) λh' tk S k=>%[.ref ⇑s,_,I.laid (o:=jv X.w ⇑s _) k (Zi _) %[S,?_|λt v g k1=>g.keep k1],rfl|q _ I.fresh]
 obtain⟨o,_,_,_,_,i,_⟩:=S;exact%[o|i]
theorem yX(h:X.K=K)(hw:X.w=w)(a:X.calm=true):cN X (.type "set") (λxs H Q=>∃p ss,xs=[.ref p]/\SqL K H p (ss.map V.str)/\ss.length<=4000/\∀l,H l=none->Q (.ref l) (upd H l (jv w l (aK ss)))):=by subst h;subst hw;exact⟨yW a⟩
end
theorem gM:∀{xs:List a} {i:Nat} (h:i<xs.length),(xs[i]::xs.eraseIdx i).Perm xs
 | x::r,0,_=>by simp
 | x::r,i+1,h=>by
   exact(List.Perm.swap _ _ _).trans (.cons _ (gM (by simpa using h)))
section
#where
theorem wE(a:n≠0)(h:∀i d,i<n->Q i {s with drawn:=d}):↥A (choose b n) Q E s:=by
 intro c p _;exact%[a|h _ _ (mod_lt _ (Nat.pos_of_ne_zero a))]
theorem qj:∀(n:Nat) (xs:List b) (s:Shared) (Q:List b->Shared->Prop),xs.length<=n->(∀ys d,ys.Perm xs->Q ys {s with drawn:=d})->↥A (drawOrder n xs) Q E s
 | 0,xs,s,Q,a,h=>by
   have e:=length_eq_zero_iff.mp (le_zero.mp a);subst e;exact Z3 (h [] s.drawn .nil)
 | n+1,[],s,Q,a,h=>Z3 (h [] s.drawn .nil)
 | n+1,x::r,s,Q,a,h=>by
   unfold drawOrder;refine Z2 (wE ∅ λi d hi=>?_);rw[(Z4 hi)];exact Z2 (qj n _ _ _ (by rw[List.length_eraseIdx];simp only[hi];simp_all) λys c p=>Z3 (h _ c ((List.Perm.cons _ p).trans (gM hi))))
end
theorem vq(next:Nat->Nat):∀(fuel k:Nat) (left:List a) (out:Array a),left.length<=fuel->(pickOrder.go next fuel k left out).toList.Perm (out.toList++left)
 | 0,k,left,out,h=>by
   have e:=length_eq_zero_iff.mp (le_zero.mp h);subst e;rw[Zz];exact .refl _
 | fuel+1,k,[],out,h=>by
   unfold pickOrder.go;simp
 | fuel+1,k,x::r,out,h=>by
   unfold pickOrder.go;have hi:next k%(x::r).length<(x::r).length:=mod_lt _ ∅;rw[Z4 hi];refine(vq next fuel _ _ _ (by rw[List.length_eraseIdx];simp_all)).trans ?_;rw[toList_push,Ze];exact(List.Perm.refl _).append (gM hi)
theorem oY(next:Nat->Nat)(xs:Array a):(pickOrder next xs).toList.Perm xs.toList:=by
 have:=vq next xs.size 0 xs.toList #[] ∅;simpa [pickOrder]using this
theorem oZ(p j:Nat):SetTable.below #[p] j=if p<j then 1 else 0:=by
 unfold SetTable.below;simp only[Zp,Zr];unfold SetTable.below.go;simp
 split<;>(rfl)
theorem ug(j:Nat):SetTable.below #[] j=0:=rfl
theorem pd{a:Type}{xs:Array a}(h:xs.size=1):∃p,xs= #[p]:=by
 obtain⟨l⟩:=xs
 match l,h with
 |[p],_=>exact%[p|rfl]
def SIt(w:World)(I S T:Addr)(o:Obj)(b:Array (Int×Value))(c:Nat)(t:SetTable)(a:ZF)(i:Nat)(h:Heap):Prop:=
 h.get? S=some o/\∃first,h.get? I=some {cls:= .type "set_iterator",dict:=none,data:= .fields #[first,rawInt i,.ref S,rawInt b.size,rawInt c],slots:= #[]}/\
  ((aQ w=true/\first=rawInt 0/\a=(pickOrder (w.params.setOrder S c) b).toList.map (·.2))\/
   (aQ w=false/\first= .ref T/\T≠I/\∃ps:List Nat,h.get? T=some {cls:= .type "tuple",data:= .seq (ps.map λ(i:Nat)=>rawInt i).toArray}/\ps.length=a.length/\∀(j p:Nat),ps[j]? =some p->∃e,b[p]? =some e/\a[j]? =some e.2)\/
   (aQ w=false/\b.size<=1/\a=b.toList.map (·.2)/\(i=0->first=rawInt 0)/\(i=1->∃p:Nat,t.place[0]? =some p/\first=rawInt (p+1))))
theorem SIt.is{w:World}{I S T:Addr}{o:Obj}{b:Array _}{c:Nat}{t:SetTable}{a:ZF}{i:Nat}{s:Shared}(h:SIt w I S T o b c t a i s.heap):s.TypeIs (.ref I) "set_iterator":=by
 obtain⟨_,f,d,_⟩:=h;exact%[_,d|rfl]
section
#where
variable{I S T:Addr}{o:Obj}{es:Array (Int×Value)}{ep:Nat}{t:SetTable}{ord:ZF}
theorem uh{i:Nat}{v:Value}{Q:Option Value->Shared->Prop}(y:o.data= .set es ep t)(h:t.fits es.size=true)(z:t.led=!aQ w)(j:S≠I)(st:SIt w I S T o es ep t ord i s.heap)(f:ord[i]? =some v)(hn:ord.length=es.size)
 (U:∀h',SIt w I S T o es ep t ord (i+1) h'->SameBut I s.heap h'->Q (some v) (s>>>h')):↥A (pyNext (.ref I)) Q E s:=by
 have hT:=st.is;obtain⟨g,first,N,m⟩:=st;unfold pyNext;refine Z2 (wpAny_attempt (wpAny_callSpecial?_slot (name:=Str.ofString "__next__") hT bR (wpAny_call_entry bR hT fX ?_ (io _))));unfold Builtin.«set_iterator.__next__»;refine Z2 (m:=slotArgs _ _ _) (Z3 ?_);refine Z2 (wpAny_fieldsOf N rfl ?_);show wpAny _ _ (setEntries S>>= _) _ _ _;refine Z2 (wpAny_setEntries_of g y h ?_);rw[if_neg ∅];rcases m with⟨c,rfl,B⟩|⟨c,rfl,C,ps,G,Y,H⟩|⟨c,h1,B,f0,f1⟩
 .show wpAny _ _ (setNext S 0 i ep>>= _) _ _ _;refine Z2 ?_;unfold setNext;refine Z2 (wpAny_setState_of g y h ?_);refine Z2 (Z2 (wpAny_askSetting (Z3 ?_)));show wpAny _ _ (if aQ w=true then _ else _) _ _ _;rw[if_pos c];dsimp only;rw[if_neg (show ¬ ((ep != ep)=true) by simp)];refine Z2 ?_;unfold setWalk;refine Z2 (wpAny_setState_of g y h ?_);refine Z2 (Z2 (wpAny_askSetting (Z3 ?_)));show wpAny _ _ (if aQ w=true then _ else _) _ _ _;rw[if_pos c];refine Z2 (wpAny_askSetting (Z3 (Z3 ?_)));have d:(pickOrder (w.params.setOrder S ep) es)[i]?.map (·.2)=some v:=by
   rw[B]at f;simpa using f
  cases u:(pickOrder (w.params.setOrder S ep) es)[i]? with
  | none=>rw[u]at d;cases d
  | some e=>
    rw[u]at d;have J:e.2=v:=by simpa using d
    show wpAny _ _ (match((pickOrder (w.params.setOrder S ep) es)[i]?).map λe=>(e.2,0)with|some (x,next)=>_|none=>_) _ _ _;rw[u];refine Z2 (wpAny_setField_rec N ∅ λg1 b a=>?_);refine Z2 (wpAny_setField_rec (s:=(s>>>g1)) b ∅ λg2 l n=>?_);rw[J];have L:SameBut I s.heap g2:=a.trans n;refine Z3 %[v,rfl|Z3 (U g2 %[(L.2 S j).trans g,_,l|.inl %[c,rfl|B]] L)]
 .refine Z2 (wpAny_seqItems G rfl ?_);have hi:i<ord.length:=(Xo f).1;have ab:i<ps.length:=by lia
  obtain⟨e,O,ac⟩:=H i ps[i] ∅;have J:e.2=v:=by rw[ac]at f;exact Za f
  have M:(ps.map λ(i:Nat)=>rawInt i).toArray[(i:Int).toNat]? =some (rawInt ps[i]):=by simp[ab]
  dsimp only;rw[M];show wpAny _ _ (setNextDrawn S ps[i] ep>>= _) _ _ _;refine Z2 ?_;unfold setNextDrawn;refine Z2 (wpAny_setState_of g y h ?_);dsimp only;rw[if_neg (show ¬ ((ep != ep)=true) by simp),O];refine Z3 ?_;refine Z2 (wpAny_setField_rec N ∅ λg1 b a=>?_);rw[J];exact Z3 %[v,rfl|Z3 (U g1 %[(a.2 S j).trans g,_,b|.inr (.inl %[c,rfl,C,ps,(a.2 T C).trans G,Y|H])] a)]
 .have hi:i<ord.length:=(Xo f).1;have i0:i=0:=by lia
  subst i0;have f0:=f0 rfl;subst f0;have e1:es.size=1:=by lia
  have pz:t.place.size=1:=by
   simp only[SetTable.fits,Zx,beq_iff_eq,decide_eq_true_eq]at h;rw[h.1,e1]
  obtain⟨p,u⟩:=pd pz;obtain⟨e,O⟩:∃e,es[0]? =some e:=%[es[0]|by simp]
  have J:e.2=v:=by
   rw[B]at f;have:(es[0]?).map (·.2)=some v:=by simpa using f
   rw[O]at this;simpa using this
  show wpAny _ _ (setNext S 0 0 ep>>= _) _ _ _;refine Z2 ?_;unfold setNext;refine Z2 (wpAny_setState_of g y h ?_);show wpAny _ _ (if aQ w=true then _ else _) _ _ _;rw[if_neg (by rw[c];decide)];dsimp only
  split
  .rename_i r
   change (!t.plain&&decide (es.size>1))=true at r;rw[e1]at r;simp at r
  .refine Z2 (m:=(if(!t.led&&!es.isEmpty)=true then unsupported "set:maker-not-led" else pure ())) ?_;rw[z,c];refine Z3 ?_;rw[u,oZ];simp only[X8,↓reduceIte,O];refine Z3 ?_;show wpAny _ _ (setField (.ref I) 0 (rawInt ((p+1:Nat):Int))>>= _) _ _ _;refine Z2 (wpAny_setField_rec N ∅ λg1 b a=>Z2 (wpAny_setField_rec (s:=(s>>>g1)) b ∅ λg2 l n=>?_));rw[J];have L:SameBut I s.heap g2:=a.trans n;exact Z3 %[v,rfl|Z3 (U g2 %[(L.2 S j).trans g,_,l|.inr (.inr %[c,⋯,B,λq=>by lia|λ_=>%[p,by rw[u];rfl|rfl]])] L)]
theorem rP{c:Type}{Q:c->Shared->Prop}(d:A.handled=none)(f:∀h' e,(∀b o,s.heap.get? b=some o->h'.get? b=some o)->(∃o,h'.get? e=some o/\o.cls= .type "StopIteration")->E (.ref e) (s>>>h')):
 ↥A (newExc (.type "StopIteration") []>>= λe=>(raiseNew e)) Q E s:=by
 refine Z2 ?_;refine Z2 (wpAny_newObj_type ?_ (by size_fits));refine Z2 (wpAny_of_eq (a:=Value.none) (by first|rfl|lia) (wpAny_newObj_type (wpAny_raiseNew_none d (f _ _ (λb o e=>Z7 _ (Z7 _ e)) %[_,Zj _ rfl|rfl])) (by size_fits)))
theorem wF{i:Nat}{Q:Option Value->Shared->Prop}(hh:A.handled=none)(y:o.data= .set es ep t)(j:t.fits es.size=true)(n:t.led=!aQ w)(st:SIt w I S T o es ep t ord i s.heap)(hi:i=ord.length)(hn:ord.length=es.size)
 (hQ:∀h',(∀b o,b≠I->s.heap.get? b=some o->h'.get? b=some o)->Q none (s>>>h')):↥A (pyNext (.ref I)) Q E s:=by
 have Y:=st.is;obtain⟨z,first,B,m⟩:=st;have H:A.in1.handled=none:=hh;have c:∀(g:Heap) (Q':Fin->Shared->Prop),SameBut I s.heap g->↥A.in1 (newExc (.type "StopIteration") []>>= λe=>(raiseNew e:Sem Fin)) Q' (λe s'=>↥A (do
  if(<-isInstance e (.type "StopIteration"))then pure none else throw e) Q E s') (s>>>g):=λg Q' sb=>by
  refine rP H λh' e k ⟨oe,he,hc⟩=>?_
  refine Z2 (wpAny_isInstance (T:="StopIteration") (b:=true) %[oe,he|hc] isSubtype_stop (Z3 (hQ h' λb o r q=>k b o ((sb.2 b r).trans q))))
 unfold pyNext;refine Z2 (wpAny_attempt (wpAny_callSpecial?_slot (name:=Str.ofString "__next__") Y bR (wpAny_call_entry bR Y fX ?_ (io _))));unfold Builtin.«set_iterator.__next__»;refine Z2 (m:=slotArgs _ _ _) (Z3 ?_);refine Z2 (wpAny_fieldsOf B rfl ?_);show wpAny _ _ (setEntries S>>= _) _ _ _;refine Z2 (wpAny_setEntries_of z y j ?_);rw[if_neg ∅];rcases m with⟨l,rfl,eo⟩|⟨l,rfl,ab,ps,J,ac,ag⟩|⟨l,h1,eo,L,M⟩
 .show wpAny _ _ (setNext S 0 i ep>>= _) _ _ _;refine Z2 ?_;unfold setNext;refine Z2 (wpAny_setState_of z y j ?_);refine Z2 (Z2 (wpAny_askSetting (Z3 ?_)));show wpAny _ _ (if aQ w=true then _ else _) _ _ _;rw[if_pos l];dsimp only;rw[if_neg (show ¬ ((ep != ep)=true) by simp)];refine Z2 ?_;unfold setWalk;refine Z2 (wpAny_setState_of z y j (Z2 (Z2 (wpAny_askSetting (Z3 ?_)))));show wpAny _ _ (if aQ w=true then _ else _) _ _ _;rw[if_pos l];refine Z2 (wpAny_askSetting (Z3 (Z3 ?_)));have C:(pickOrder (w.params.setOrder S ep) es)[i]? =none:=by
   rw[Array.getElem?_eq_none_iff,hi,eo,Z6,Zb];exact Zi _
  show wpAny _ _ (match((pickOrder (w.params.setOrder S ep) es)[i]?).map λe=>(e.2,0)with|some (x,next)=>_|none=>_) _ _ _;rw[C];show wpAny _ _ (setField (.ref I) 2 .none>>= _) _ _ _;exact Z2 (wpAny_setField_rec B ∅ λg1 _ d=>c g1 _ d)
 .show wpAny _ _ (seqItems? (.ref T)>>= _) _ _ _;refine Z2 (wpAny_seqItems J rfl ?_);have u:(ps.map λ(i:Nat)=>rawInt i).toArray[(i:Int).toNat]? =none:=by simp;lia
  dsimp only;rw[u];exact Z2 (wpAny_setField_rec B ∅ λg1 N d=>Z2 (wpAny_setField_rec N ∅ λg2 _ O=>c g2 _ (d.trans O)))
 .have done:∀slot:Nat,first=rawInt slot->SetTable.below t.place slot=es.size->↥A.in1 (setNext S slot i ep) (λa s'=>a=none/\s'=s) (λ_ _=>False) s:=by
   intro slot _ r;unfold setNext;refine Z2 (wpAny_setState_of z y j ?_);show wpAny _ _ (if aQ w=true then _ else _) _ _ _;rw[if_neg (by rw[l];decide)];dsimp only
   split
   .rename_i h
    change (!t.plain&&decide (es.size>1))=true at h;have:decide (es.size>1)=false:=Zh ⋯;rw[this,Bool.and_false]at h;cases h
   .refine Z2 (m:=(if(!t.led&&!es.isEmpty)=true then unsupported "set:maker-not-led" else pure ())) ?_;rw[n,l];refine Z3 ?_;rw[r,show es[es.size]? =none by simp];exact Z3 %[rfl|rfl]
  have go:∀slot:Nat,first=rawInt slot->SetTable.below t.place slot=es.size->↥A.in1 (setNext S slot i ep>>= λa=>match a with
   | some (x,next)=>(do
     setField (.ref I) 0 (rawInt ↑next)
     setField (.ref I) 1 (rawInt (↑i+1))
     ret x)
   | none=>(do
     setField (.ref I) 2 .none
     let e<-newExc (.type "StopIteration") []
     raiseNew e)) (λc s'=>∃v,c=Fin.done (Flow.ret v)/\↥A (pure (some v)) Q E s') (λe s'=>↥A (do
   if(<-isInstance e (.type "StopIteration"))then pure none else throw e) Q E s') s:=by
   intro slot e r;refine Z2 (wpAny_mono (done slot e r) (λa s' ⟨G,e2⟩=>?_) λ_ _ f=>f.elim);subst G;subst e2;exact Z2 (wpAny_setField_rec B ∅ λg1 _ d=>c g1 _ d)
  have pz:=by
   simp only[SetTable.fits,Zx,beq_iff_eq,decide_eq_true_eq]at j;exact j.1
  by_cases e0:es.size=0
  .have i0:i=0:=by lia
   subst i0;have L:=L rfl;subst L;refine go 0 rfl ?_;have:t.place= #[]:=Array.eq_empty_of_size_eq_zero ⋯;rw[this,ug,e0]
  .have G:es.size=1:=by lia
   have i1:i=1:=by lia
   subst i1;obtain⟨p,C,M⟩:=M rfl;subst M;refine go (p+1) rfl ?_;obtain⟨p',U⟩:=pd (by rw[pz,G]:t.place.size=1);rw[U]at C ⊢;have:p'=p:=by simpa using C
   subst this;rw[oZ,if_pos (Yr _),G]
end
theorem ip:Slot "set_iterator" "__iter__" "set_iterator.__iter__":=
 .of (owner:="set_iterator") (n:="__iter__") (by rw[typeLookup_type,builtinLookup_eq_fast];kernel_rfl) (by decide +kernel) (by decide +kernel) (by decide +kernel) (by first|exact .inl (by decide +kernel)|exact .inr ∅) (by kernel_rfl)
theorem kA:entryFor table "set_iterator.__iter__"=some Builtin.«dict_keyiterator.__iter__»:=entryFor_alias (id':="dict_keyiterator.__iter__") (by kernel_rfl) rfl (by decide +kernel) (by kernel_rfl)
theorem lR(a:Value):argsOk "set_iterator.__iter__" %[[a]|[]]:=by kernel_rfl
theorem qk:typeLookup (.type "set") "__len__"=pure (some (.builtin "set.__len__")):=by kernel_rfl
section
#where
variable{I S T:Addr}{o:Obj}{es:Array (Int×Value)}{ep:Nat}{t:SetTable}{ord:ZF}
theorem wG(hh:A.handled=none)(hd:o.data= .set es ep t)(hf:t.fits es.size=true)(hled:t.led=!aQ w)(hSI:S≠I)(hn:ord.length=es.size):
 Walks prog w A I [I,S,T] [I] ord.length (λi v=>ord[i]? =some v) (λi h=>SIt w I S T o es ep t ord i h) where
 sub:=by simp
 frame:=λi h h' st k=>by
  obtain⟨hS,first,hI,m⟩:=st;refine⟨k S ∅ _ hS,first,k I ∅ _ hI,?_⟩;rcases m with m|⟨bt,e,hTI,ps,hTt,r⟩|m
  .exact .inl m
  .exact .inr (.inl %[bt,e,hTI,ps,k T ∅ _ hTt|r])
  .exact .inr (.inr m)
 item:=λi s Q E hi st hQ=>uh (v:=ord[i]) hd hf hled hSI st ∅ hn λh' st' sb=>hQ _ h' s.toks ∅ st' λb o' hb e=>(sb.2 b (λq=>hb (by simp[q]))).trans e
 done:=λs Q E st hQ=>wF hh hd hf hled st rfl hn λh' k=>hQ h' s.toks λb o' hb e=>k b o' (λq=>hb (by simp[q])) e
 self:=λi s Q E st hQ=>by
  have hT:=st.is;exact wpAny_pyIter_slot hT ip (wpAny_call_entry ip hT kA (Z3 %[_,rfl,"set_iterator",_,hT,bR.lookup|hQ]) (lR _))
theorem wH(g:s.heap.get? S=some o)(B:o.ExactSet)(C:o.data= .set es ep t)(hb:es.size<scanBound)(G:t.fits es.size=true)(H:es.size≠0->t.plain=false)(O:t.led=!aQ w)
 (hQ:∀(I T:Addr) (ord:ZF) (h':Heap) d,(∀b o,s.heap.get? b=some o->h'.get? b=some o)->⇑s<=I->S≠I->(T=S\/⇑s<=T)->T<h'.objs.size->I<h'.objs.size->ord.length=es.size->
  SIt w I S T o es ep t ord 0 h'->ord.Perm (es.toList.map (·.2))->Q (.ref I) {s with heap:=h',drawn:=d}):↥A (pyIter (.ref S)) Q E s:=by
 have U:s.TypeIs (.ref S) "set":=%[o,g|B.1]
 have n:S<⇑s:=Zv g;refine wpAny_pyIter_slot U F.slot_set_iter (wpAny_call_entry F.slot_set_iter U nU ?_ (F.args_set_iter_1 _));unfold Builtin.«frozenset.__iter__»;refine Z2 (m:=Builtin.Frozenset.slot0 _ _) (Z2 (m:=slotArgs _ _ _) (Z3 (Z3 ?_)));refine Z2 (m:=Builtin.Frozenset.sizeOf S) (Z2 (wpAny_setEntries_of g C G (Z3 ?_)));refine Z2 (m:=setDrawn S) ?_;unfold setDrawn;refine Z2 (wpAny_setState_of g C G (Z2 (Z2 (wpAny_askSetting (Z3 (Z3 ?_))))));have a:∀(first:Value) (c:Shared) (T:Addr) (ord:ZF),c.heap.get? S=some o->(∃d f,c={s with heap:=f,drawn:=d})->(∀b o,s.heap.get? b=some o->c.heap.get? b=some o)->T<⇑c->⇑s<=⇑c->(T=S\/⇑s<=T)->ord.Perm (es.toList.map (·.2))->
  ((aQ w=true/\first=rawInt 0/\ord=(pickOrder (w.params.setOrder S ep) es).toList.map (·.2))\/(aQ w=false/\first= .ref T/\∃ps:List Nat,c.heap.get? T=some {cls:= .type "tuple",data:= .seq (ps.map λ(i:Nat)=>rawInt i).toArray}/\ps.length=ord.length/\∀(j p:Nat),ps[j]? =some p->∃e,es[p]? =some e/\ord[j]? =some e.2)\/(aQ w=false/\es.size<=1/\ord=es.toList.map (·.2)/\first=rawInt 0))->ord.length=es.size->
  ↥A.in1 (do ret (<-newFields "set_iterator" [first,rawInt 0,.ref S,rawInt es.size,rawInt (<-setEpoch S)])) (λa s'=>∃v,a=Fin.done (Flow.ret v)/\∃Y r,s'.TypeIs v Y/\typeLookup (.type Y) "__next__"=pure (some r)/\Q v s') (λe s'=>E e s') c:=by
  intro first c T ord f %[d,g1|e1] k1 tl sl J y m hn
  subst e1;refine Z2 (wpAny_setEpoch_of f C G (Z2 (wpAny_newObj_type ?_)));have gI:(g1.push {cls:= .type "set_iterator",data:= .fields #[first,rawInt 0,.ref S,rawInt es.size,rawInt ep]}).get? g1.objs.size=some _:=Zj _ rfl;refine Z3 %[_,rfl,"set_iterator",_,%[_,gI|rfl],bR.lookup|hQ g1.objs.size T ord _ d (λb o' e=>Z7 _ (k1 b o' e)) sl (Zt (Zv f)) J (by rw[Zq];exact Yq tl) (by rw[Zq];exact Yr _) hn ?_ y];refine⟨Z7 _ f,first,gI,?_⟩;rcases m with m|⟨h,e,ps,L,r⟩|⟨h,M,eo,e⟩
  .exact .inl m
  .exact .inr (.inl %[h,e,Zt tl,ps,Z7 _ L|r])
  .exact .inr (.inr %[h,M,eo,λ_=>e|λq=>absurd q ∅])
 have lst:(es.toList.map (·.2)).length=es.size:=by rw[Z6,Zb]
 by_cases h:aQ w=true
 .show wpAny _ _ (if(!aQ w&&_)=true then _ else _) _ _ _;rw[h,Bool.not_true,Bool.false_and,if_neg ∅];refine Z2 (Z3 ?_);have u:=(oY (w.params.setOrder S ep) es).map (·.2);exact a (rawInt 0) s S _ g %[s.drawn,s.heap|rfl] (λ_ _ e=>e) n (Zi _) (.inl rfl) u (.inl %[h,rfl|rfl]) (by rw[u.length_eq,lst])
 .have z:aQ w=false:=by simpa using h
  show wpAny _ _ (if(!aQ w&&(!t.plain&&decide (es.size>1)))=true then _ else _) _ _ _;by_cases f:es.size>1
  .rw[z,H ⋯,Zf f];refine Z2 (qj es.size _ _ _ ∅ λps d l=>Z2 (wpAny_newTuple ?_ (by rw[Z6,l.length_eq,Ym];exact fits_of_scanBound hb)));have lt:∀p∈ps,p<es.size:=λp q=>mem_range.mp (l.mem_iff.mp q)
   have er:(List.range es.size).map (λp=>((es[p]?).map (·.2)).getD .none)=es.toList.map (·.2):=by
    apply ext_getElem
    .simp
    .intro i y q2;simp at y;simp[y]
   have u:(ps.map (λp=>((es[p]?).map (·.2)).getD .none)).Perm (es.toList.map (·.2)):=er▸l.map _;refine a _ _ ⇑s _ (Z7 _ g) %[d,_|rfl] (λb o' e=>Z7 _ e) (by rw[Zq];exact Yr _) (by rw[Zq];exact Yi _) (.inr (Zi _)) u
    (.inr (.inl %[z,rfl,ps,Zj _ rfl,by rw[Z6]|λj p q=>?_])) (by rw[u.length_eq,lst])
   have N:=lt p (Z8 q);exact%[es[p],by simp|by simp[q,N]]
  .rw[z,Zh f];simp only[Bool.and_false,Y2];exact a (rawInt 0) s S _ g %[s.drawn,s.heap|rfl] (λ_ _ e=>e) n (Zi _) (.inl rfl) (List.Perm.refl _) (.inr (.inr %[z,⋯,rfl|rfl])) lst
theorem jR(hh:A.handled=none)(u:s.heap.get? S=some r)(a:r.ExactSet)(v:r.data= .set g a2 t0)(y:g.size<scanBound)(z:t0.fits g.size=true)(B:g.size≠0->t0.plain=false)(c:t0.led=!aQ w)
 (hQ:∀s' vs,vs.Perm (g.toList.map (·.2))->(∀b o,s.heap.get? b=some o->s'.heap.get? b=some o)->s'.gens=s.gens->s'.os=s.os->⇑s<=⇑s'->Q vs s'):↥A (collect (.ref S)) Q E s:=by
 unfold collect;refine Z2 (wpAny_runValue (codeAny_builtin F.entry_proto_collect ?_));rw[Around.under_plainId F.plain_proto_collect _];show wpAny _ A.in1 (newList []>>= λl=>again (.builtin "list.__iadd__" %[[l,.ref S]|[]])) _ _ s;refine Z2 (wpAny_newObj_type (Z3 %[plainId_quiet F.plain_list_iadd _|codeAny_builtin F.entry_list_iadd ?_]));rw[Around.under_plainId F.plain_list_iadd _];have i:S<⇑s:=Zv u;show wpAny _ A.in1 (Builtin.List.listExtendWith (.ref ⇑s) (.ref S) (.ref ⇑s)) _ _ _;unfold Builtin.List.listExtendWith
 generalize O:s.heap.push {cls:= .type "list",data:= .seq ([]:ZF).toArray}=G
 have gS:G.get? S=some r:=by rw[<-O];exact Z7 _ u
 have gz:G.objs.size=⇑s+1:=by rw[<-O,Zq]
 have gL:G.get? ⇑s=some {cls:= .type "list",data:= .seq ([]:ZF).toArray}:=O▸Zj _ rfl;have tS:Shared.TypeIs (s>>>G) (.ref S) "set":=%[r,gS|a.1]
 refine Z2 (wpAny_typeOf (T:="set") tS ?_);have n1:Builtin.List.listSameRef (.ref ⇑s) (.ref S)=false:=by
  show(⇑s==S)=false;exact beq_eq_false_iff_ne.mpr (X3 i)
 have n2:(Value.type "set"==Value.type "list")=false:=by decide
 have n3:(Value.type "set"==Value.type "tuple")=false:=by decide
 simp only[n1,n2,n3,Bool.or_false,Y2,if_false];refine Z2 (wH (s:=(s>>>G)) gS a v y z B c λI T ord h d k1 U ab ac a3 a4 hn st q1=>?_);replace k1:∀b o,G.get? b=some o->h.get? b=some o:=k1;replace U:G.objs.size<=I:=U;have ag:h.get? S=some r:=k1 _ _ gS;refine Z2 (wpAny_holding ?_);unfold Builtin.List.listLengthHint;have m:Shared.TypeIs {s with heap:=h,drawn:=d} (.ref S) "set":=%[r,ag|a.1]
 refine Z2 (wpAny_specialOf (T:="set") m qk ?_)
 wp_delta
 refine Z2 (wpAny_isInstance (T:="set") (b:=true) m (by rw[isSubtype_type];kernel_rfl) ?_);show wpAny _ A.in1 (typeOf (.ref S)>>= _) _ _ _;refine Z2 (wpAny_typeOf (T:="set") m (Z3 ?_));rw[if_pos (by decide)];refine Z2 (wpAny_rule ?_);have C:h.get? ⇑s=some {cls:= .type "list",data:= .seq ([]:ZF).toArray}:=k1 _ _ gL;refine Z2 ?_;unfold Builtin.List.listTouch;refine Z2 (listUpdate_at (s:={s with heap:=h,drawn:=d}) C rfl ?_ (Xh _) (by show 1<=sizeLine+1;lia));have H:=get?_update_self (Obj.mapSeq (·.push Value.none)) C rfl;refine listUpdate_at (xs:= #[Value.none]) (n:=1) (s:={s with heap:=h.update ⇑s (Obj.mapSeq _),drawn:=d}) H rfl ?_ (by decide) (by show 0<=sizeLine+1;lia);have al:=get?_update_self (Obj.mapSeq (·.pop)) H rfl;have J:∀b o,b≠⇑s->h.get? b=some o->((h.update ⇑s (Obj.mapSeq (·.push Value.none))).update ⇑s (Obj.mapSeq (·.pop))).get? b=some o:=λb o Y e=>(get?_update_other _ _ (Ne.symm Y)).trans ((get?_update_other _ _ (Ne.symm Y)).trans e)
 have an:=Zt (Zg (by rw[gz];exact Yr _) U);have neT:⇑s≠T:=by
  rcases ac with e|e
  .exact e▸X3 i
  .exact Zt (Zg (gz▸Yr _) e)
 have L:⇑s∉[I,S,T]:=by
  simp only[Yy,X9,or_false,not_or];exact%[an,X3 i|neT]
 have as:ord.length<=sizeLine:=hn▸fits_of_scanBound y;have W:=wG (prog:=prog) (A:=A.in1) (T:=T) (hh) v z c ab hn;have a0:=W.frame 0 h _ st λb Y M e=>J b M (λq=>L (q▸Y)) e
 refine Z3 %[plainId_quiet F.plain_extend_loop _|codeAny_extend_loopS W.toS as _ L _ ord.length 0 _ _ _ rfl (Xh _) a0 al (ItemsOf.nil _) λs5 acc c5 m5 N f=>?_];refine Z2 (wpAny_load N (Z3 ?_));have ea:acc.toList=ord:=by
  apply ext_getElem?;intro j;by_cases hj:j<ord.length
  .have a1:j<acc.size:=f.1▸hj;have:=f.2 j acc[j] ∅;rw[this];simp[a1]
  .have l1:acc.toList.length=ord.length:=f.1;rw[List.getElem?_eq_none ⋯,List.getElem?_eq_none (l:=ord) ⋯]
 rw[ea];refine hQ s5 ord q1 (λb M e=>?_) m5.gens m5.os (Yh (Zv N));have p:=Zv e;refine m5.heap b M ?_ (J b M (Zt p) (k1 b M (O▸Z7 _ e)));simp only[Yy,X9,or_false,not_or];exact%[Zt p|Zt (Zg p (Yj (gz▸Yi _) U))]
theorem lA(f:A.handled=none)(h:bp w S ks s.heap)
 (i:∀s' vs ss,StrsAre vs ss->ss.Perm ks->(∀b o,s.heap.get? b=some o->s'.heap.get? b=some o)->s'.gens=s.gens->s'.os=s.os->⇑s<=⇑s'->Q vs s'):↥A (collect (.ref S)) Q E s:=by
 obtain⟨o,es,ep,t,ss,j,c,l,d,m,n,p,q,r,e,a⟩:=h;refine jR f j c l q r e a λs' vs pv k g os sz=>?_
 obtain⟨ts,u,v⟩:=cp d pv;exact i s' vs ts u (v.trans m) k g os sz
end
section
variable{X:Cx}{pins:ZE}{σ:St}{H:Hp}{s s':Shared}
theorem Inv.keptS(I:Inv X pins σ H s)(k:∀b o,s.heap.get? b=some o->s'.heap.get? b=some o)(c:s'.gens=s.gens)(a:s'.os=s.os):Inv X pins σ H s':=by
 obtain⟨h',g',d',t',d⟩:=s';replace a:d=s.os:=a;subst c;subst a;refine I.step (ch:=[]) (λb f=>absurd f ∅) (λb o _ _ _ e _=>k b o e) (λb o _ _ _ e _=>%[o.slots|k b o e]) (λ_ _ _ _ n=>n) (λb o _ e=>%[o|k b o e]) (λ_ _ e=>e) (λ_ _ _ e=>e) (λb ps e=>%[#[]|by rw[e];simp]) (λm g=>?_) (λb v e=>?_) I.bare
 .obtain⟨o,h,i,a,r⟩:=g;exact%[o,h,i,k _ o a|r]
 .exact(I.hok b v e).stay (λj l _ q=>k j l q) (λ_ q=>q) λ_ _ q=>q
theorem Inv.stoodS(I:Inv X pins σ H s)(J:Inv X pins σ H s')(c:⇑s<=a)(new:dg X.prog X.w (upd H a o) s'.heap a o):Inv X pins σ (upd H a o) s':=by
 have d:=I.hok.fresh c;refine%[J.ok,J.os,J.bare,?_,J.loc,J.cell,?_,?_,?_,?_|J.len]
 .refine%[J.base.keep,J.base.slot,λb o e n j=>?_,J.base.there,λb xs e=>?_,λb o v e=>?_|λb ps e=>?_]
  .rw[ap ((λb o e=>Zt (Zg (Zg (Zv e) I.sz) c)) b o e)];exact J.base.free b o e n j
  .rw[ap (av (J.base.tups b xs e) d)];exact J.base.tups b xs e
  .rw[ap (av (J.base.frzs b o v e) d)];exact J.base.frzs b o v e
  .obtain⟨m,q⟩:=J.base.tbls b ps e;exact%[m|(ap (av q d))▸q]
 .rw[ap (Zt (Zg I.lt c))];exact J.free
 .intro g f e;obtain⟨l,q⟩:=I.cell g f e;rw[ap (Zt (Zg q.lt c))];exact J.freeC g f e
 .intro p h;obtain⟨e,n,r⟩:=J.pin p h;refine%[e,?_|r];rw[ap (Zt (Zg (Zv (I.pin p h).1) c))];exact n
 .intro b v e;by_cases i:b=a
  .subst i;rw[aa]at e;cases e;exact new
  .rw[ap i]at e;refine(J.hok b v e).stay (λ_ _ _ q=>q) (λf q=>?_) λf xs q=>?_
   .rw[ap (av q d)];exact q
   .rw[ap (av q d)];exact q
end
section
#where
variable{S:Addr}
theorem uk(t:A.handled=none)(u:bp w S ks s.heap)(g:ks.length<64)
 (v:∀(s':Shared) (l:Addr) (vs:ZF) (ss:ZB) (n:Nat),StrsAre vs ss->ss.Perm ks->sortedS ss=true->(∀b o,s.heap.get? b=some o->s'.heap.get? b=some o)->s'.gens=s.gens->s'.os=s.os->⇑s<=l->s'.heap.get? l=some {cls:= .type "list",data:= .seq vs.toArray n}->Q (.ref l) s'):
 ↥A (call (.builtin "sorted") [.ref S]) Q E s:=by
 refine Calls.call_function_entry kind_sorted plain_sorted entry_sorted (args_sorted1 _) ?_;unfold Builtin.«sorted»;refine Z2 (m:=checkCount "sorted" 1 1 _) (Z3 ?_);refine Z2 (lA (show A.in1.handled=none from t) u λc vs ss f j k1 g1 y h=>?_);have z:vs.length<64:=by rw[bB f,j.length_eq];exact g
 refine Z2 (wpAny_newList ?_ (by rw[sizeLine_eq];lia));have i:(c.heap.push (seqObj "list" vs.toArray 0)).get? ⇑c=some (seqObj "list" vs.toArray 0):=Zj _ rfl;refine Z2 (wpAny_holding (wpAny_call_entry slot_list_sort %[_,i|rfl] entry_list_sort (list_sort_treeK (s:=(c>>>c.heap.push (seqObj "list" vs.toArray 0))) strKind_oneLt i f.keysOf (λp q rest e=>keyKind_strs (by rw[<-e];exact f)) z λa B C=>%[_,rfl|?_]) (args_list_sort _)));obtain⟨ts,G,H,I⟩:=sorted_out_str f B C;obtain⟨n,J⟩:∃n,(sortedHeap (c.heap.push (seqObj "list" vs.toArray 0)) ⇑c vs ((arrOf a).map (·.2))).get? ⇑c=some (seqObj "list" ((arrOf a).map (·.2)) n):=sortedHeap_at i;refine Z3 %[_,rfl|v _ ⇑c ((arrOf a).map (·.2)).toList ts n G (H.trans j) I (λb L e=>?_) g1 y h ?_]
 rotate_left
 .show _=some (seqObj "list" ((arrOf a).map (·.2)).toList.toArray n);rw[Array.toArray_toList];exact J
 have r:=k1 b L e;have d:=Zv r;show(sortedHeap _ _ _ _).get? b=_;rw[sortedHeap_old (Zt d) (by rw[Zq];exact Yq d)];exact Z7 _ r
end
section
variable{X:Cx}{K:ZA}
theorem qo(d:X.calm=true):cx X (.builtin "sorted") (λxs H Q=>∃a ks,xs=[.ref a]/\H a=some (jv X.w a ks)/\ks.length<64/\∀l ss,H l=none->ss.Perm ks->sortedS ss=true->Q (.ref l) (upd H l (.lst (ss.map V.str)))):=by
 intro pins s t H xs us Q I r h;obtain⟨a,ks,rfl,e,f,q⟩:=h;obtain⟨u,rfl,i⟩:=dh r;cases i;obtain⟨S,_,_⟩:=(I.hok a _ e)
 refine uk (I.ok.hd d) S f λs' l vs ss n j c m k g o b p=>%[.ref l,_,I.stoodS (o:= .lst _) (I.keptS k g o) b %[?_,vs,n,oS j|p],rfl|q l ss (I.hok.fresh b) c m]
 rw[Z6,c.length_eq,sizeLine_eq]
 lia
theorem wI(h:X.w=w)(b:X.calm=true):cN X (.builtin "sorted") (λxs H Q=>∃a ks,xs=[.ref a]/\H a=some (jv w a ks)/\ks.length<64/\∀l ss,H l=none->ss.Perm ks->sortedS ss=true->Q (.ref l) (upd H l (.lst (ss.map V.str)))):=by subst h;exact⟨qo b⟩
end
theorem am{D:lK}(h:∀c:lK,(∀a b,u D a b->c.nx a b)->(∀v b,D.rt v b->c.rt v b)->t c d H):bv t u D d H:=h _ (λ_ _ x=>x) λ_ _ x=>x
theorem aA{t:TS}{D:lK}(h:∀c:lK,(∀a b,D.nx a b->c.nx a b)->(∀v b,D.rt v b->c.rt v b)->t c d H):t D d H:=h _ (λ_ _ x=>x) λ_ _ x=>x
theorem jS{K:ZA}{xs:List V}{g:TG}{j:TS}{D:lK}(Pv:Nat->St->Hp->Prop)(n:Pv 0 b H)(o:∀i b H,i<=xs.length->Pv i b H->SqL K H a xs)
 (r:∀i x T b H,xs[i]? =some x->Pv i b H->H T=none->g (.ref T) b (upd H T (.tup [.int i,x])) λc h=>j {D with nx:=Pv (i+1),ct:=Pv (i+1),bk:=D.nx} c h) (s:∀b H,Pv xs.length b H->D.nx b H):
 ∃W:Nat->Nat->St->Hp->Prop,(∃m,W 0 m b H)/\∀i m b H,W i m b H->
  ((Ite K a xs).stop i H/\D.nx b H)\/((Ite K a xs).go i H/\∃N:St->Hp->Prop,(∀d f,N d f->∃l,l<m/\W (i+1) l d f)/\∀x f,(Ite K a xs).yld i H x f->g x b f λc h=>j {D with nx:=N,ct:=N,bk:=D.nx} c h):=by
 refine%[λi m b H=>m=xs.length-i/\i<=xs.length/\Pv i b H,%[xs.length,by simp,Xh _|n]|?_];rintro i m b H ⟨rfl,hi,p⟩;have q:=o i b H hi p;by_cases lt:i<xs.length
 .refine .inr %[%[q|lt],Pv _,λd f t=>%[xs.length-(i+1),⋯,rfl,lt|t]|λv f y=>?_];obtain⟨x,T,e,u,rfl,rfl⟩:=y;exact r i x T b _ e p u
 .have e:i=xs.length:=by lia
  subst e;exact .inl %[%[q|Zi _]|s b H p]
section
variable{X:Cx}{K:ZA}{pos:Pos}{a b:Expr}{ta tb:TE}
theorem cq:OpQ X (binaryOp .Add) (rI0 λi j=> .int (i+j)):=⟨x8⟩
theorem fP:OpQ X (binaryOp .Mult) (rI x6 λi j=> .int (i*j)):=⟨x9⟩
theorem c6(h:X.K=K)(c:jL b)(d:QE X a ta)(e:QE X b tb):QE X (.Subscript a b pos) (tOp (AI K) ta tb):=by subst h;exact⟨vg vh d.h e.h c⟩
theorem A7(c:jL b)(d:QE X a ta)(e:QE X b tb):QE X (.Subscript a b pos) (tOp AK ta tb):=⟨vg yw d.h e.h c⟩
end
end L2
namespace Cut
open PySem L2 PyProof.Rows
noncomputable def gN:Str:="abcdefghijklmnopqrstuvwxyz"
noncomputable def iL(c:Nat):Bool:=decide (c∈gN.cps.toList)
noncomputable def okc(c:Nat):Bool:=decide (c=46)||iL c
noncomputable def nl:Str:="\n"
theorem EM:nl=⟨#[10]⟩:=rfl
theorem kB:iL c=true↔97<=c/\c<=122:=by
 have e:gN.cps.toList=(List.range 26).map (·+97):=by decide +kernel
 unfold iL;rw[decide_eq_true_iff,e,mem_map]
 constructor
 .rintro⟨i,h,rfl⟩;have:=mem_range.mp h
  lia
 .rintro⟨a,b⟩;exact%[c-97,mem_range.mpr ⋯|⋯]
theorem Dc(h:okc c=true):c≠10:=by
 intro e;subst e
 revert h
 decide +kernel
structure bU (rows:ZB):Prop where
 pos:1<=rows.length
 high:rows.length<=40
 wide:∃wd,1<=wd/\wd<=40/\∀r∈rows,r.cps.size=wd
 sign:∀r∈rows,r.cps.toList.all okc=true
 fall:∀i r r',rows[i]? =some r->rows[i+1]? =some r'->∀(j c c':Nat),r.cps[j]? =some c->r'.cps[j]? =some c'->c'=46->c=46
 some':∃r∈rows,∃c∈r.cps.toList,c≠46
theorem dO{x y:Str}(h:x.cps.toList=y.cps.toList):x=y:=by
 obtain⟨⟨l⟩⟩:=x
 simp_all
theorem fY(sep x y:Str)(r:ZB):(Str.join sep (x::y::r)).cps.toList=x.cps.toList++sep.cps.toList++(Str.join sep (y::r)).cps.toList:=by
 show((x.cps++sep.cps) ++(Str.join sep _).cps).toList=_;rw[Xg,Xg]
theorem yY [DecidableEq f]:∀{a b x y:List f},c∉a->c∉b->a++c::x=b++c::y->a=b/\x=y
 |[],[],_,_,_,_,h=>%[rfl|(List.cons.inj h).2]
 |[],b::bs,_,_,_,d,h=>absurd (((List.cons.inj h).1)▸Zm) d
 | a::g,[],_,_,e,_,h=>absurd (((List.cons.inj h).1)▸Zm) e
 | a::g,b::bs,x,y,e,d,h=>by
   obtain⟨i,j⟩:=List.cons.inj h;obtain⟨l,m⟩:=yY (λq=>e (Zk _ q)) (λq=>d (Zk _ q)) j;exact%[by rw[i,l]|m]
theorem rQ{c:Nat}:∀{ps qs:ZB},ps≠[]->qs≠[]->(∀p∈ps,c∉p.cps.toList)->(∀q∈qs,c∉q.cps.toList)->(Str.join ⟨#[c]⟩ ps).cps.toList=(Str.join ⟨#[c]⟩ qs).cps.toList->ps=qs
 |[],_,h,_,_,_,_=>absurd rfl h
 | _,[],_,h,_,_,_=>absurd rfl h
 |[p],[q],_,_,_,_,e=>by rw[dO (show p.cps.toList=q.cps.toList from e)]
 |[p],q::f::qs,_,_,a,_,e=>by
  rw[fY]at e;refine absurd ?_ (a p Zm);rw[show p.cps.toList=(Str.join _ [p]).cps.toList from rfl,e];simp
 | p::g::ps,[q],_,_,_,b,e=>by
   rw[fY]at e;refine absurd ?_ (b q Zm);rw[show q.cps.toList=(Str.join _ [q]).cps.toList from rfl,<-e];simp
 | p::g::ps,q::f::qs,_,_,a,b,e=>by
   rw[fY,fY,Ze,Ze]at e;obtain⟨i,j⟩:=yY (a p Zm) (b q Zm) e;rw[dO i,rQ ∅ ∅ (λx d=>a x (Zk _ d)) (λx d=>b x (Zk _ d)) j]
theorem um(a:rows≠[])(h:∀r∈rows,10∉r.cps.toList):Txt.split (Str.join nl rows) nl=rows:=by
 have e:=StrLaws.join_split (Str.join nl rows) nl;rw[EM]at e ⊢;refine rQ ?_ a (StrLaws.split_free _ 10) h (by rw[e]);intro q;have:=split_pos (Str.join ⟨#[10]⟩ rows) ⟨#[10]⟩
 simp_all
theorem bU.nonl(h:bU rows):∀r∈rows,10∉r.cps.toList:=λr a b=>by
 have:=all_eq_true.mp (h.sign r a) 10 b;exact Dc this rfl
theorem bU.split(h:bU rows):Txt.split (Str.join nl rows) nl=rows:=
 um (λe=>by have:=h.pos;simp_all) h.nonl
theorem qp:∀{xs:List b},(∀x∈xs,f x<=B)->(xs.map f).sum<=xs.length*B
 |[],_=>by simp
 | x::r,h=>by
   have c:=qp λy a=>h y (Zk _ a)
   have d:=h x Zm;rw[Yt,List.sum_cons,Zr,Nat.succ_mul]
   lia
theorem bU.sum(h:bU rows):(rows.map (·.length)).sum<=1600:=by
 obtain⟨wd,_,c,a⟩:=h.wide;have:=qp (f:=λr:Str=>r.length) λr b=>by have:=a r b;show r.cps.size<=40;lia
 have:=h.high
 grind
theorem bU.text(h:bU rows):(Str.join nl rows).length<=2000:=by
 have a:=StrLaws.join_length_le nl rows;have b:=h.sum;have c:=h.high;have d:nl.length=1:=rfl
 lia
noncomputable def sgn(c:Nat):Str:=⟨#[c]⟩
theorem mP{cs:List Nat}(h:∀c∈cs,iL c=true):(aK (cs.map sgn)).length<=26:=by
 have a:∀x∈aK _,x∈gN.cps.toList.map sgn:=λx b=>by
  obtain⟨c,d,e⟩:=Xr (bx.mp b);exact Xs %[c,Zo (h c d)|e]
 have:=List.Nodup.length_le_of_subset (eW _) a;rw[Z6]at this;have e:gN.cps.toList.length=26:=by decide +kernel
 lia
noncomputable def cV(rows:ZB):List Nat:=(Str.join (Str.ofString "") rows).cps.toList.filter (λc=>decide (c≠46))
theorem rR:∀(rows:ZB),(Str.join (Str.ofString "") rows).cps.toList=(rows.map (·.cps.toList)).flatten
 |[]=>rfl
 |[x]=>by simp[Str.join]
 | x::y::r=>by
   have e:(Str.ofString "").cps.toList=[]:=rfl;rw[fY,rR _,e,Zz];simp
theorem kC(h:∀r∈rows,r.cps.toList.all okc=true):∀c∈cV rows,iL c=true:=λc a=>by
 unfold cV at a;rw[List.mem_filter,rR]at a;obtain⟨b,d⟩:=a;obtain⟨l,e,f⟩:=List.mem_flatten.mp b;obtain⟨r,g,rfl⟩:=Xr e;have:=all_eq_true.mp (h r g) c f;unfold okc at this;rw[or_eq_true]at this;rcases this with q|q
 .exact absurd (Zo q) (Zo d)
 .exact q
theorem bU.signs_ne(h:bU rows):cV rows≠[]:=by
 obtain⟨r,b,c,d,a⟩:=h.some';have:c∈cV rows:=by
  unfold cV;rw[List.mem_filter,rR];exact%[List.mem_flatten.mpr %[_,Xs %[r,b|rfl]|d]|Zf a]
 grind
noncomputable def qq(z:Str):Bool:=(decide (1<=(z.length:Int))&&decide ((z.length:Int)<=40))&&z.cps.toList.all okc
noncomputable def eX(row a:Str):Bool:=decide (row.length=a.length)&&(List.zip a.cps.toList row.cps.toList).all λp=>!decide (p.2=46)||decide (p.1=46)
theorem bU.row(h:bU rows)(a:r∈rows):qq r=true:=by
 obtain⟨wd,c,d,b⟩:=h.wide;have e:r.length=wd:=b r a;unfold qq;rw[h.sign r a,e,Zf ⋯,Zf ⋯];rfl
theorem bU.beneath(h:bU rows)(c:rows[i]? =some r)(d:rows[i+1]? =some a):eX a r=true:=by
 obtain⟨wd,m,n,e⟩:=h.wide;have f:r.length=wd:=e r (Z8 c);have g:a.length=wd:=e a (Z8 d);unfold eX;rw[Zf (g.trans f.symm),Bool.true_and,all_eq_true];intro p l;obtain⟨j,b⟩:=Xi l;rw[List.getElem?_zip_eq_some]at b;have:=h.fall i r a c d j p.1 p.2 (by simpa using b.1) (by simpa using b.2)
 grind
theorem mQ(cs:List Nat):(Str.join (Str.ofString "") (cs.map sgn))=⟨cs.toArray⟩:=by
 refine dO ?_;rw[rR,Yu];show((cs.map (λc=>[c])).flatten)=cs
 induction cs with
 | nil=>rfl
 | cons c r a=>simp_all
theorem qr:∀cs:List Nat,((cs.map sgn).map (λx=>x.length)).sum=cs.length
 |[]=>rfl
 | c::r=>by
   rw[Yt,Yt,List.sum_cons,qr r,Zr];show 1+r.length=r.length+1
   lia
end Cut
namespace Cut
open PySem L2
end Cut
namespace L2
open PySem PySem.Spec PyProof.Rows
def Up(B:Heap)(l:List Env)(e:Addr)(cls:Value)(b:ZI)(d:Option Value)(h:Heap):Prop:=
 B.StaysIn h/\B.get? e=none/\h.FunFrames B l/\∃a vs,h.get? e=some a/\a.cls=cls/\a.dict=b/\a.data= .fields vs/\1<vs.size/\
  match d with
  | none=>vs[1]? =some .none
  | some f=>∃T c ts,vs[1]? =some (.ref T)/\B.get? T=none/\T≠e/\h.get? T=some c/\c.data= .fields ts/\ts[3]? =some f
section
variable{M:Model}{A:Around}{E:ZD}{s:Shared}{B:Heap}{env:Env}{outer:List Env}{L e:Addr}{cls:Value}{dct:ZI}{Q:Unit->Shared->Prop}
end
section
variable{P:Program}{w:World}{H:Hp}{h:Heap}{a:Addr}{o:HO}
end
section
variable{P:Program}{w:World}{l:List Env}{H H':Hp}{s s':Shared}{ea:Addr}{B h':Heap}{cls:Value}{dx:ZI}{fl fl':Option Value}
end
section
variable{P:Program}{w:World}{K:ZA}{mg:ZC}{base:Heap}{N:ZB}{qual:Str}{scope:Scope}{f:Addr}{cd:Value}{A:Around}{outer:List Env}{s₀:Shared}{H₀:Hp}{E:XK}
end
section
variable{prog:Program}{w:World}{A:Around}{E:ZD}{h:Heap}{g:Array GenState}{d:Drawn}{t:Nat}{os:OsState}
variable{nm q:Str}{C N:Addr}{bs bm bmB:ZF}{hdct:Bool}{sn:ZB}{sub:ZF}{ab:Bool}{col:Option Bool}{dd:ZI}{k0 k1 k2 k3 k5:Option Value}{B newId initId:String}
end
section
#where
variable{K:ZA}{x C:Addr}{name:Str}{v:Value}{ox:Obj}{od:Option Obj}
end
section
variable{X:Cx}{C f:Addr}
end
section
variable{X:Cx}{pins:ZE}{σ:St}{H:Hp}{s s':Shared}
end
section
variable{X:Cx}{C D f:Addr}{x nm:Str}{p pos pos' apos:Pos}{e o value:Expr}{es:List Expr}{t:TA}{ta tv:TE}{r:List V->Hp->VK->Prop}
end
def Dd(b:TE):TE:=λc H Q=>b c H λv a=>(∃i:Int,v= .int i/\i.natAbs<2^64/\Q (.str (toString i)) a)\/∃y:Str,v= .str y/\y.length<=sizeLine/\Q (.str y) a
def mR:List TE->Str->TE
 |[],out=>λa H Q=>out.length<=sizeLine/\Q (.str out) H
 | t::ts,out=>λa H Q=>t a H λv b=>∃y:Str,v= .str y/\(out++y).length<=sizeLine/\mR ts (out++y) a b Q
inductive PJ (X:Cx):List Expr->List TE->Prop
 | nil:PJ X [] []
 | cons {e:Expr} {es:List Expr} {t:TE} {ts:List TE}:PE X e t->PJ X es ts->PJ X (e::es) (t::ts)
section
variable{X:Cx}{e v1 v2:Expr}{rest:List Expr}{te t1 t2:TE}{ts:List TE}{pos:Pos}
theorem De(c:PE X e te):PE X (.FormattedValue e (-1) none pos) (Dd te):=by
 intro pins s d H Q I h;refine FormattedValue_plain (thP (c pins s d H _ I h) λu j v a b r q=>?_);rcases q with⟨i,rfl,hi,q⟩|⟨y,rfl,f,q⟩
 .obtain⟨t,rfl⟩:=(show∃t,u=Value.int i t from r)
  have g:i.natAbs.log2<1920:=by
   by_cases z:i.natAbs=0
   .rw[z];decide
   .exact(Nat.log2_lt z).mpr (Zg hi (Nat.pow_le_pow_right (by decide) ∅))
  exact formatField_int_small g %[V.str (toString i),a,b.tok _,%[_|rfl]|q]
 .obtain⟨t,rfl⟩:=(r)
  exact formatField_str (λt' tk=>%[.str y,a,b.tok _,%[_|rfl]|q]) f
theorem yZ(h:PJ X c ts):∀(out:Str) (pins:ZE) (s:Shared) (a:St) (H:Hp) (Q:VK),Inv X pins a H s->mR ts out a H Q->
 (~~~X) (joinParts out (evalEach c X.env)) (EP X pins a Q) X.xe s:=by
 induction h with
 | nil=>exact λout pins s a H Q I ⟨b,q⟩=>joinParts_nil %[.str out,H,I.tok _,%[_|rfl]|q] b
 | cons d _ f=>
   intro out pins s a H Q I q;refine joinParts_cons (thP (d pins s a H _ I q) λu g v i j r ⟨y,l,b,m⟩=>?_);subst l;obtain⟨t,rfl⟩:=(r)
   exact%[b|f _ pins g a i Q j m]
theorem A8(h:PJ X (v1::v2::rest) ts):PE X (.JoinedStr (v1::v2::rest) pos) (mR ts Str.empty):=λpins s a H Q I q=>
 JoinedStr_many (yZ h _ pins s a H Q I q)
end
section
variable{X:Cx}{k:Nat}{f C:Addr}{fd:FuncData}{ps:ZB}{sp:Sp}{x:Str}{p pos cpos:Pos}{e:Expr}{es:List Expr}{te:TE}{t:TA}
end
noncomputable def drop(H:Hp)(a:Addr):Hp:=λb=>if b=a then none else H b
theorem wJ:drop H a a=none:=by unfold drop;rw[if_pos rfl]
theorem iZ(h:b≠a):drop H a b=H b:=by unfold drop;rw[if_neg h]
section
variable{X:Cx}{pins:ZE}{σ:St}{H:Hp}{s s':Shared}
end
section
variable{M:Model}{A:Around}{E:ZD}{s:Shared}{K:ZA}{D C e:Addr}{oe:Obj}{b:Bool}{Q:Bool->Shared->Prop}
end
section
variable{X:Cx}{pins pins' pn:ZE}{σ:St}{H:Hp}{s:Shared}{E:ZD}
end
section
#where
variable{K:ZA}{x C:Addr}{name:Str}{v:Value}{ox:Obj}{od:Option Obj}
end
section
#where
variable{K:ZA}{x C:Addr}{ox:Obj}{od:Option Obj}
end
section
#version
end
noncomputable def cG(mg:ZC)(x:Str):Addr:=match mg x with
 | some (.ref C)=>C
 | _=>0
theorem A9(h:mg x=some (.ref C)):cG mg x=C:=by unfold cG;rw[h]
section
variable{P:Program}{w:World}{K:ZA}{mg:ZC}{base:Heap}{x qual:Str}{st:Stmt}{N ps:ZB}{k:Nat}{sp:Sp}
end
section
variable{X:Cx}{K:ZA}{pos:Pos}
theorem Df(a:QE X e b):QE X (.FormattedValue e (-1) none pos) (Dd b):=⟨De a.h⟩
theorem BY:PJ X [] []:= .nil
theorem pjE(a:QE X e t)(h:PJ X b ts):PJ X (e::b) (t::ts):= .cons a.h h
theorem BZ{rest:List Expr}(h:PJ X (v1::a::rest) ts):QE X (.JoinedStr (v1::a::rest) pos) (mR ts Str.empty):=⟨A8 h⟩
end
section
#where
end
section
#where
end
section
#where
end
section
#where
end
def clo(c:TE):TE:=λd H Q=>∃a:VK,c d H a/\∀v b,a v b->Q v b
theorem Dg{X:Cx}(h:PE X e b):PE X e (clo b):=λpins s c H Q I ⟨d,q,k⟩=>
 thP (h pins s c H d I q) λ_ _ v a f r z=>%[v,a,f,r|k v a z]
theorem Dh{X:Cx}(h:PE X e t)(k:∀a H Q,t' a H Q->t a H Q):PE X e t':=λpins s a H Q I q=>h pins s a H Q I (k a H Q q)
theorem y3(h:H r=none):drop (upd H r o) r=H:=by
 funext b;unfold drop upd
 simp_all
section
variable{X:Cx}{K:ZA}{pos:Pos}
end
end L2
namespace SBig
open PySem PyProof.Rows
section
variable(prog:Program)(w:World)(A:Around)(SI:Shared->Prop)
def SC{a:Type}(m:StateT SortSt Sem a)(Q:a->SortSt->Prop)(st:SortSt):Prop:=
 ∀s,SI s->↥A (m.run st) (λr s'=>SI s'/\Q r.1 r.2) (λ_ _=>False) s
def Cmp(a:SortKind)(D:Keyed->Prop)(N:Keyed->Nat):Prop:=
 ∀x y s,D x->D y->SI s->↥A (keyLt' a x.1 y.1) (λb s'=>b=decide (N x<N y)/\SI s') (λ_ _=>False) s
end
section
variable{prog:Program}{w:World}{A:Around}{SI:Shared->Prop}{α β:Type}
theorem ao{st:SortSt}(h:Q a st):(SC prog w A SI) (pure a) Q st:=λs b=>by
 exact Z3 %[b|h]
theorem aj{st:SortSt}(h:(SC prog w A SI) m (λa b=>(SC prog w A SI) (f a) Q b) st):(SC prog w A SI) (m>>= f) Q st:=λs c=>by
 exact Z2 (wpAny_mono (h s c) (λr s' h'=>h'.2 s' h'.1) λ_ _ e=>e)
theorem be{st:SortSt}(h:(SC prog w A SI) m Q st)(c:∀a b,Q a b->d a b):(SC prog w A SI) m d st:=λs f=>
 wpAny_mono (h s f) (λr s' h'=>%[h'.1|c _ _ h'.2]) λ_ _ e=>e
theorem d9{st:SortSt}(h:Q st st):(SC prog w A SI) get Q st:=λs a=>by
 exact Z3 %[a|h]
theorem bN{st:SortSt}(h:Q ⟨⟩ (f st)):(SC prog w A SI) (modify f) Q st:=λs a=>by
 exact Z3 %[a|h]
theorem Di{st:SortSt}(h:Q ⟨⟩ x):(SC prog w A SI) (set x) Q st:=λs a=>by
 rw[StateT.run_set];exact Z3 %[a|h]
theorem vt{st:SortSt}(h:∀s,SI s->↥A m (λa s'=>SI s'/\Q a st) (λ_ _=>False) s):(SC prog w A SI) (liftM m:StateT SortSt Sem α) Q st:=λs b=>by
 exact Z2 (wpAny_mono (h s b) (λa s' h'=>Z3 h') λ_ _ e=>e)
theorem gO{st:SortSt}(h:Q () st):(SC prog w A SI) (liftM (rule t):StateT SortSt Sem Unit) Q st:=vt λs a=>wpAny_rule %[a|h]
theorem aO{st:SortSt}(I:Nat->β->SortSt->Prop)(j:a<=b)(l:I a c st)
 (m:∀i x st,a<=i->i<b->I i x st->(SC prog w A SI) (f i x) (λr g=>match r with| .done y=>Q y g| .yield y=>I (i+1) y g) st) (n:∀x st,I b x st->Q x st):(SC prog w A SI) (forIn [a:b] c f) Q st:=by
 rw[Std.Legacy.Range.forIn_eq_forIn_range'];have o:([a:b]).size=b-a:=by simp[Std.Legacy.Range.size]
 have p:∀d i x st,i+d=b->a<=i->I i x st->(SC prog w A SI) (forIn (List.range' i d 1) x f) Q st:=by
  intro d
  induction d with
  | zero=>
    intro i x st e _ h;subst e;exact ao (n x st h)
  | succ d q=>
    intro i x st e s h;rw[List.range'_succ,forIn_cons];refine aj (be (m i x st s ⋯ h) λr g h'=>?_);cases r with
    | done y=>exact ao h'
    | yield y=>exact q _ y g ⋯ ⋯ h'
 exact p _ a c st ⋯ (Zi _) l
theorem bn{st:SortSt}(a:xs[i]? =some x)(h:Q x st):(SC prog w A SI) (elem' xs i) Q st:=by
 rw[elem'_eq,a];exact ao h
theorem rS{st:SortSt}(c:Cmp prog w A SI (kindOf st) D N)(d:D x)(f:D y)(h:Q (some (decide (N x<N y))) st):(SC prog w A SI) (lt' x y) Q st:=by
 refine aj (d9 (aj (vt (λs g=>wpAny_attempt (wpAny_mono (c x y s d f g) (λb s' ⟨i,a⟩=>?_) λ_ _ e=>e.elim)))));subst i;exact%[a|ao h]
theorem Ba{st:SortSt}(c:Cmp prog w A SI (kindOf st) D N)(hi:(arrOf st)[i]? =some x)(a:(arrOf st)[j]? =some y)(b:D x)(d:D y)
 (h:Q (some (decide (N x<N y))) st):(SC prog w A SI) (ltAt' i j) Q st:=by
 exact aj (d9 (aj (bn hi (aj (bn a (rS c b d h))))))
end
noncomputable def fF:Bool->Keyed->Array Keyed->Nat->Nat->Nat->StateT SortSt Sem (Option Nat):=sortPriv% PySem.Builtin.gallop
theorem uo(left:Bool)(d:Keyed)(f:Array Keyed)(base n a:Nat):fF left d f base n a=(do
 let c (i:Nat):StateT SortSt Sem (Option Bool):=do
  let x<-elem' f (base+i)
  if left then lt' x d else return (<-lt' d x).map (!·)
 let mut lastofs:=0
 let mut ofs:=1
 let mut lo:=0
 let mut hi:=0
 let some right<-c a|return none
 if right then
  let b:=n-a
  for _ in [0:n] do
   if ofs>=b then break
   let some more<-c (a+ofs)|return none
   if !more then break
   lastofs:=ofs
   ofs:=2*ofs+1
  lo:=a+lastofs+1
  hi:=a+min ofs b
 else
  let b:=a+1
  for _ in [0:n] do
   if ofs>=b then break
   let some e<-c (a-ofs)|return none
   if e then break
   lastofs:=ofs
   ofs:=2*ofs+1
  lo:=a+1-min ofs b
  hi:=a-lastofs
 for _ in [0:n] do
  if lo>=hi then break
  let m:=lo+(hi-lo)/2
  let some more<-c m|return none
  if more then lo:=m+1 else hi:=m
 return some hi):=rfl
end SBig
namespace SBig
open PySem PyProof.Rows
section
variable{prog:Program}{w:World}{A:Around}{SI:Shared->Prop}{α β:Type}
noncomputable def cc(N:Keyed->Nat)(left:Bool)(a x:Keyed):Bool:=if left then decide (N x<N a)else !decide (N a<N x)
theorem wK{D:Keyed->Prop}{N:Keyed->Nat}{left:Bool}{a x:Keyed}{b:Array Keyed}{i:Nat}{Q:Option Bool->SortSt->Prop}{st:SortSt}(c:Cmp prog w A SI (kindOf st) D N)(d:D a)(f:b[i]? =some x)(e:D x)
 (h:Q (some (cc N left a x)) st):(SC prog w A SI) (do let x<-elem' b i;if left=true then lt' x a else do let y<-lt' a x;pure (y.map (!·))) Q st:=by
 refine aj (bn f ?_);cases left with
 | true=>
   rw[if_pos rfl];exact rS c e d h
 | false=>
   rw[if_neg ∅];exact aj (rS c d e (ao h))
theorem eP{D:Keyed->Prop}{N:Keyed->Nat}{left:Bool}{u:Keyed}{z:Array Keyed}{base n a:Nat}{Q:Option Nat->SortSt->Prop}{st:SortSt}(c:Cmp prog w A SI (kindOf st) D N)(p:D u)
 (ha:∀i,i<n->∃x,z[base+i]? =some x/\D x) (P:Nat->Bool) (hP:∀i x,i<n->z[base+i]? =some x->P i=cc N left u x) (d:∀i j,i<=j->j<n->P j=true->P i=true) (hh:a<n)
 (h:∀k,k<=n->(∀i,i<k->P i=true)->(∀i,k<=i->i<n->P i=false)->Q (some k) st):(SC prog w A SI) (fF left u z base n a) Q st:=by
 have ask:∀(i:Nat) (R:Option Bool->SortSt->Prop),i<n->R (some (P i)) st->(SC prog w A SI) (do let x<-elem' z (base+i);if left=true then lt' x u else do let y<-lt' u x;pure (y.map (!·))) R st:=λi R hi hR=>by
  obtain⟨x,hx,hd⟩:=ha i hi;exact wK c p hx hd (by rw[<-hP i x hi hx];exact hR)
 rw[uo];refine aj (ask a _ hh ?_);dsimp only
 split
 .rename_i G
  refine aj (be (aO (Q:=λx b=>b=st/\∃l o,x=(none,l,o)/\l<o/\a+l<n/\P (a+l)=true/\(n-a<=o\/(a+o<n/\P (a+o)=false)))
   (λj x b=>b=st/\∃l o,x=(none,l,o)/\l<o/\a+l<n/\P (a+l)=true/\j<o) (Xh _) %[rfl,0,1,rfl,⋯,⋯,G|⋯] ?_ ?_) ?_)
  .rintro j x b _ I ⟨rfl,l,o,rfl,g,f,m,B⟩;dsimp only;by_cases e:o>=n-a
   .rw[if_pos e];exact ao %[rfl,l,o,rfl,g,f,m|.inl e]
   .rw[if_neg e];refine aj (ask _ _ ⋯ ?_);dsimp only;cases r:P (a+o)with
    | true=>
      rw[if_neg ∅];exact ao %[rfl,o,_,rfl,⋯,⋯,r|⋯]
    | false=>
      rw[if_pos ∅];exact ao %[rfl,l,o,rfl,g,f,m|.inr %[⋯|r]]
  .rintro x b ⟨rfl,l,o,rfl,g,f,m,B⟩;exact%[rfl,l,o,rfl,g,f,m|.inl ⋯]
  .rintro x v ⟨J,l,o,rfl,g,f,m,C⟩;subst J;dsimp only;have L:∀i,i<a+l+1->P i=true:=λi hi=>d i _ ⋯ f m
   have M:∀i,a+min o (n-a)<=i->i<n->P i=false:=λi hi q=>by
    rcases C with C|⟨C,r⟩
    .lia
    .cases O:P i with
     | false=>rfl
     | true=>rw[d _ i ⋯ q O]at r;cases r
   have T:a+l+1<=a+min o (n-a):=by lia
   have U:a+min o (n-a)<=n:=by lia
   refine aj (be (aO (Q:=λx b=>b=v/\∃k,x=(none,k,k)/\k<=n/\(∀i,i<k->P i=true)/\(∀i,k<=i->i<n->P i=false))
    (λj x b=>b=v/\∃l k,x=(none,l,k)/\l<=k/\k-l<=n-j/\k<=n/\(∀i,i<l->P i=true)/\(∀i,k<=i->i<n->P i=false)) (Xh _) %[rfl,_,_,rfl,T,⋯,U,L|M] ?_ ?_) ?_)
   .rintro j x b _ I ⟨rfl,l,k,rfl,E,Y,p,s,t⟩;dsimp only;by_cases e:l>=k
    .rw[if_pos e];have:l=k:=by lia
     subst this;exact ao %[rfl,l,rfl,p,s|t]
    .rw[if_neg e];have H:l+(k-l)/2<k:=by lia
     refine aj (ask _ _ ⋯ ?_);dsimp only;cases m:P (l+(k-l)/2)with
     | true=>
       rw[if_pos rfl];exact ao %[rfl,_,_,rfl,⋯,⋯,p,λi hi=>d i _ ⋯ ⋯ m|t]
     | false=>
       rw[if_neg ∅];refine ao %[rfl,_,_,rfl,⋯,⋯,⋯,s|λi hi q=>?_];cases r:P i with
       | false=>rfl
       | true=>rw[d _ i hi q r]at m;cases m
   .rintro x b ⟨rfl,l,k,rfl,E,Y,p,s,t⟩;have:l=k:=by lia
    subst this;exact%[rfl,l,rfl,p,s|t]
   .rintro x b ⟨rfl,k,rfl,p,s,t⟩;exact ao (h k p s t)
 .rename_i G
  have G:P a=false:=by simpa using G
  refine aj (be (aO (Q:=λx b=>b=st/\∃l o,x=(none,l,o)/\l<o/\l<=a/\P (a-l)=false/\(a+1<=o\/(o<=a/\P (a-o)=true)))
   (λj x b=>b=st/\∃l o,x=(none,l,o)/\l<o/\l<=a/\P (a-l)=false/\j<o) (Xh _) %[rfl,0,1,rfl,⋯,⋯,G|⋯] ?_ ?_) ?_)
  .rintro j x b _ I ⟨rfl,l,o,rfl,g,f,m,B⟩;dsimp only;by_cases e:o>=a+1
   .rw[if_pos e];exact ao %[rfl,l,o,rfl,g,f,m|.inl e]
   .rw[if_neg e];refine aj (ask _ _ ⋯ ?_);dsimp only;cases r:P (a-o)with
    | false=>
      rw[if_neg ∅];exact ao %[rfl,o,_,rfl,⋯,⋯,r|⋯]
    | true=>
      rw[if_pos rfl];exact ao %[rfl,l,o,rfl,g,f,m|.inr %[⋯|r]]
  .rintro x b ⟨rfl,l,o,rfl,g,f,m,B⟩;exact%[rfl,l,o,rfl,g,f,m|.inl ⋯]
  .rintro x v ⟨J,l,o,rfl,g,f,m,C⟩;subst J;dsimp only;have L:∀i,i<a+1-min o (a+1)->P i=true:=λi hi=>by
    rcases C with C|⟨C,r⟩
    .lia
    .exact d i _ ⋯ ⋯ r
   have M:∀i,a-l<=i->i<n->P i=false:=λi hi q=>by
    cases O:P i with
    | false=>rfl
    | true=>rw[d _ i ⋯ q O]at m;cases m
   have T:a+1-min o (a+1)<=a-l:=by lia
   have U:a-l<=n:=by lia
   refine aj (be (aO (Q:=λx b=>b=v/\∃k,x=(none,k,k)/\k<=n/\(∀i,i<k->P i=true)/\(∀i,k<=i->i<n->P i=false))
    (λj x b=>b=v/\∃l k,x=(none,l,k)/\l<=k/\k-l<=n-j/\k<=n/\(∀i,i<l->P i=true)/\(∀i,k<=i->i<n->P i=false)) (Xh _) %[rfl,_,_,rfl,T,⋯,U,L|M] ?_ ?_) ?_)
   .rintro j x b _ I ⟨rfl,l,k,rfl,E,Y,p,s,t⟩;dsimp only;by_cases e:l>=k
    .rw[if_pos e];have:l=k:=by lia
     subst this;exact ao %[rfl,l,rfl,p,s|t]
    .rw[if_neg e];have H:l+(k-l)/2<k:=by lia
     refine aj (ask _ _ ⋯ ?_);dsimp only;cases m:P (l+(k-l)/2)with
     | true=>
       rw[if_pos rfl];exact ao %[rfl,_,_,rfl,⋯,⋯,p,λi hi=>d i _ ⋯ ⋯ m|t]
     | false=>
       rw[if_neg ∅];refine ao %[rfl,_,_,rfl,⋯,⋯,⋯,s|λi hi q=>?_];cases r:P i with
       | false=>rfl
       | true=>rw[d _ i hi q r]at m;cases m
   .rintro x b ⟨rfl,l,k,rfl,E,Y,p,s,t⟩;have:l=k:=by lia
    subst this;exact%[rfl,l,rfl,p,s|t]
   .rintro x b ⟨rfl,k,rfl,p,s,t⟩;exact ao (h k p s t)
end
end SBig
namespace SBig
open PySem PyProof.Rows
noncomputable def mS:Array Keyed->Array Keyed->StateT SortSt Sem (Array Keyed):=sortPriv% PySem.Builtin.mergeLo
noncomputable def mT:Array Keyed->Array Keyed->StateT SortSt Sem (Array Keyed):=sortPriv% PySem.Builtin.mergeHi
noncomputable def cS:Nat->StateT SortSt Sem Unit:=sortPriv% PySem.Builtin.setMinGallop
theorem fZ(g:Nat):cS g=modify (λs=>SortSt.mk' (kindOf s) (arrOf s) (pendingOf s) g (failedOf s)):=rfl
def Srt(N:Keyed->Nat)(l:List Keyed):Prop:=l.Pairwise λx y=>N x<=N y
theorem Srt.drop{N:Keyed->Nat}{l:List Keyed}(h:Srt N l)(k:Nat):Srt N (l.drop k):=List.Pairwise.sublist (List.drop_sublist _ _) h
theorem Srt.le{N:Keyed->Nat}{l:List Keyed}(h:Srt N l){i j:Nat}{x y:Keyed}(a:i<=j)(b:l[i]? =some x)(c:l[j]? =some y):N x<=N y:=by
 rcases Nat.eq_or_lt_of_le a with e|e
 .simp_all
 .obtain⟨d,g⟩:=Xo b;obtain⟨f,m⟩:=Xo c;have:=List.pairwise_iff_getElem.mp h i j d f e
  simp_all
theorem bV{l:List Keyed}{k:Nat}{y:Keyed}(h:y∈l.drop k):∃j,k<=j/\j<l.length/\l[j]? =some y:=by
 obtain⟨i,hi⟩:=Xi h;rw[Yc]at hi;exact%[k+i,⋯,(Xo hi).1|hi]
theorem lB{l:List Keyed}{i k:Nat}{x:Keyed}(h:x∈(l.drop i).take k):∃j,j<k/\l[i+j]? =some x:=by
 obtain⟨j,a⟩:=Xi h;rw[Yd]at a
 split at a
 .rw[Yc]at a;exact%[j,by assumption|a]
 .cases a
theorem Srt.drop_le{N:Keyed->Nat}{l:List Keyed}(h:Srt N l){i:Nat}{x y:Keyed}(a:l[i]? =some x)(b:y∈l.drop i):N x<=N y:=by
 obtain⟨j,c,_,e⟩:=bV b;exact h.le c a e
structure MI (N:Keyed->Nat) (A B out:List Keyed) (ia ib:Nat):Prop where
 perm:(out++A.drop ia++B.drop ib).Perm (A++B)
 srt:Srt N out
 ca:∀x∈out,∀y∈A.drop ia,N x<=N y
 cb:∀x∈out,∀y∈B.drop ib,N x<=N y
theorem MI.zero(N:Keyed->Nat)(A B:List Keyed):MI N A B [] 0 0:=%[by simp,List.Pairwise.nil,λ_ h=>(nomatch h)|λ_ h=>(nomatch h)]
theorem MI.takeA{N:Keyed->Nat}{A B out:List Keyed}{b d:Nat}(h:MI N A B out b d)(g:Srt N A)(k:Nat)(f:∀x∈(A.drop b).take k,∀y∈B.drop d,N x<=N y):MI N A B (out++(A.drop b).take k) (b+k) d:=by
 have e:A.drop b=(A.drop b).take k++A.drop (b+k):=by rw[<-drop_drop];exact(Xe k _).symm
 have i:((A.drop b).take k++A.drop (b+k)).Pairwise λx y=>N x<=N y:=by rw[<-e];exact g.drop b
 obtain⟨j,_,l⟩:=pairwise_append.mp i;refine%[?_,pairwise_append.mpr %[h.srt,j|λx a y c=>h.ca x a y (X1 c)],λx a y c=>?_|λx a y c=>?_]
 .have p:=h.perm;rw[e]at p;rwa[<-Ze]at p
 .rcases Xp a with a|a
  .exact h.ca x a y (by rw[e];exact Yx _ c)
  .exact l x a y c
 .rcases Xp a with a|a
  .exact h.cb x a y c
  .exact f x a y c
theorem MI.takeB{N:Keyed->Nat}{A B out:List Keyed}{d b:Nat}(h:MI N A B out d b)(g:Srt N B)(k:Nat)(f:∀x∈(B.drop b).take k,∀y∈A.drop d,N x<=N y):MI N A B (out++(B.drop b).take k) d (b+k):=by
 have e:B.drop b=(B.drop b).take k++B.drop (b+k):=by rw[<-drop_drop];exact(Xe k _).symm
 have i:((B.drop b).take k++B.drop (b+k)).Pairwise λx y=>N x<=N y:=by rw[<-e];exact g.drop b
 obtain⟨j,_,l⟩:=pairwise_append.mp i;refine%[?_,pairwise_append.mpr %[h.srt,j|λx a y c=>h.cb x a y (X1 c)],λx a y c=>?_|λx a y c=>?_]
 .have p:=h.perm;rw[e]at p;refine List.Perm.trans ?_ p;rw[Ze,Ze,Ze];refine List.Perm.append_left _ ?_;rw[<-Ze,<-Ze];exact Xn _ perm_append_comm
 .rcases Xp a with a|a
  .exact h.ca x a y c
  .exact f x a y c
 .rcases Xp a with a|a
  .exact h.cb x a y (by rw[e];exact Yx _ c)
  .exact l x a y c
def cr(N:Keyed->Nat)(A B r:List Keyed):Prop:=Srt N r/\r.Perm (A++B)
theorem MI.done{N:Keyed->Nat}{A B out:List Keyed}{a b:Nat}(h:MI N A B out a b)(e:Srt N A)(f:Srt N B)(g:∀x∈A.drop a,∀y∈B.drop b,N x<=N y):cr N A B (out++A.drop a++B.drop b):=
 %[pairwise_append.mpr %[pairwise_append.mpr %[h.srt,e.drop a|h.ca],f.drop b|λx c y d=>(Xp c).elim (λq=>h.cb x q y d) λq=>g x q y d]|h.perm]
theorem MI.last{N:Keyed->Nat}{A B out:List Keyed}{a b:Nat}(h:MI N A B out a b)(e:Srt N A)(f:Srt N B)(g:∀y∈B.drop b,∀x∈A.drop a,N y<=N x):cr N A B (out++B.drop b++A.drop a):=by
 refine%[pairwise_append.mpr %[pairwise_append.mpr %[h.srt,f.drop b|h.cb],e.drop a|λx c y d=>(Xp c).elim (λq=>h.ca x q y d) λq=>g x q y d]|List.Perm.trans ?_ h.perm];rw[Ze,Ze];exact List.Perm.append_left _ perm_append_comm
theorem jT{l:List Keyed}{i:Nat}{x:Keyed}(h:l[i]? =some x):(l.drop i).take 1=[x]:=by
 obtain⟨a,e⟩:=Xo h;rw[Y0 a,e];rfl
theorem MI.oneA{N:Keyed->Nat}{A B out:List Keyed}{a b:Nat}{x:Keyed}(h:MI N A B out a b)(e:Srt N A)(d:A[a]? =some x)(c:∀y∈B.drop b,N x<=N y):MI N A B (out++[x]) (a+1) b:=by
 have:=h.takeA e 1 (by rw[jT d];intro z f;rw[Xq f];exact c);rwa[jT d]at this
theorem MI.oneB{N:Keyed->Nat}{A B out:List Keyed}{a b:Nat}{x:Keyed}(h:MI N A B out a b)(e:Srt N B)(d:B[b]? =some x)(c:∀y∈A.drop a,N x<=N y):MI N A B (out++[x]) a (b+1):=by
 have:=h.takeB e 1 (by rw[jT d];intro z f;rw[Xq f];exact c);rwa[jT d]at this
theorem iM(a:Array Keyed)(i j:Nat):(a.extract i j).toList=(a.toList.drop i).take (j-i):=by
 rw[toList_extract,Y1]
theorem l7(a:Array Keyed)(i:Nat):(a.extract i a.size).toList=a.toList.drop i:=by
 rw[iM,Zn];rw[Yk,Zb];exact Zi _
def SG(st a:SortSt):Prop:=kindOf a=kindOf st/\arrOf a=arrOf st/\pendingOf a=pendingOf st/\failedOf a=failedOf st
theorem SG.refl(st:SortSt):SG st st:=%[rfl,rfl,rfl|rfl]
theorem SG.set{st a:SortSt}(h:SG st a)(g:Nat):SG st (SortSt.mk' (kindOf a) (arrOf a) (pendingOf a) g (failedOf a)):=h
end SBig
namespace SBig
open PySem PyProof.Rows
section
variable{prog:Program}{w:World}{A:Around}{SI:Shared->Prop}{α β:Type}
theorem aU{a:Array Keyed}{i:Nat}(h:i<a.size):a[i]? =some a[i]/\a.toList[i]? =some a[i]:=%[by simp|by simp]
theorem qt(a:Array Keyed)(i k:Nat):(a.extract i (i+k)).toList=(a.toList.drop i).take k:=by
 rw[iM,Zw]
theorem pf{N:Keyed->Nat}{a:Array Keyed}{b:Nat}{c d:Keyed}(g:Srt N a.toList){i j:Nat}(m:i<=j)(f:b+j<a.size)(h:cc N false c (a.getD (b+j) d)=true):cc N false c (a.getD (b+i) d)=true:=by
 have e:∀(i:Nat) (hi:b+i<a.size),a.getD (b+i) d=a[b+i]:=λi hi=>by simp[Array.getD,hi]
 rw[e j f]at h;rw[e i ⋯];have l:=g.le (i:=b+i) (j:=b+j) ⋯ (aU ⋯).2 (aU f).2;unfold cc at h ⊢;simp only[Y2,if_false,Bool.not_eq_true',decide_eq_false_iff_not]at h ⊢;omega
theorem ph{N:Keyed->Nat}{a:Array Keyed}{b:Nat}{c d:Keyed}(g:Srt N a.toList){i j:Nat}(m:i<=j)(f:b+j<a.size)(h:cc N true c (a.getD (b+j) d)=true):cc N true c (a.getD (b+i) d)=true:=by
 have e:∀(i:Nat) (hi:b+i<a.size),a.getD (b+i) d=a[b+i]:=λi hi=>by simp[Array.getD,hi]
 rw[e j f]at h;rw[e i ⋯];have l:=g.le (i:=b+i) (j:=b+j) ⋯ (aU ⋯).2 (aU f).2;unfold cc at h ⊢;simp only[if_true,decide_eq_true_eq]at h ⊢;omega
theorem EN{N:Keyed->Nat}{a:Array Keyed}{c n k:Nat}{b d:Keyed}(f:∀i,i<k->cc N false b (a.getD (c+i) d)=true)(g:∀i,k<=i->i<n->cc N false b (a.getD (c+i) d)=false):
 (∀i x,i<k->a[c+i]? =some x->N x<=N b)/\∀i x,k<=i->i<n->a[c+i]? =some x->N b<N x:=by
 refine%[λi x hi e=>?_|λi x hi h e=>?_]
 .have:=f i hi;rw[Zs,e]at this;unfold cc at this;simpa using this
 .have:=g i hi h;rw[Zs,e]at this;unfold cc at this;simpa using this
theorem EO{N:Keyed->Nat}{a:Array Keyed}{c n k:Nat}{b d:Keyed}(f:∀i,i<k->cc N true b (a.getD (c+i) d)=true)(g:∀i,k<=i->i<n->cc N true b (a.getD (c+i) d)=false):
 (∀i x,i<k->a[c+i]? =some x->N x<N b)/\∀i x,k<=i->i<n->a[c+i]? =some x->N b<=N x:=by
 refine%[λi x hi e=>?_|λi x hi h e=>?_]
 .have:=f i hi;rw[Zs,e]at this;unfold cc at this;simpa using this
 .have:=g i hi h;rw[Zs,e]at this;unfold cc at this;simpa using this
structure ML (N:Keyed->Nat) (a b out:Array Keyed) (ia ib:Nat):Prop where
 mi:MI N a.toList b.toList out.toList ia ib
 na:ia+1<a.size
 nb:ib<b.size
noncomputable def lo3(a b out:Array Keyed)(c d g k k1:Nat):StateT SortSt Sem (ForInStep (Option (Array Keyed)×Array Keyed×Nat×Nat×Nat×Nat×Nat)):=do
 let e<-elem' a c
 if(c+1+1==a.size)=true then pure (.done (some (out.push e++b.extract d b.size++a.extract (c+1) a.size),out.push e,c+1,d,g,k,k1))
 else if(decide (k<7)&&decide (k1<7))=true then pure (.done (none,out.push e,c+1,d,g,k,k1))else pure (.yield (none,out.push e,c+1,d,g,k,k1))
noncomputable def lo2(a b out:Array Keyed)(d c g k f:Nat):StateT SortSt Sem (ForInStep (Option (Array Keyed)×Array Keyed×Nat×Nat×Nat×Nat×Nat)):=do
 let e<-elem' b c
 if(c+1==b.size)=true then pure (.done (some (out.push e++a.extract d a.size++b.extract (c+1) b.size),out.push e,d,c+1,g,k,f))
 else do
  let h<-elem' a d
  match<-fF true h b (c+1) (b.size-(c+1)) 0 with
  | some k1=>if k1>0 then if(c+1+k1==b.size)=true then pure (.done (some (out.push e++b.extract (c+1) (c+1+k1) ++a.extract d a.size++b.extract (c+1+k1) b.size),out.push e++b.extract (c+1) (c+1+k1),d,c+1+k1,g,k,k1))else lo3 a b (out.push e++b.extract (c+1) (c+1+k1)) d (c+1+k1) g k k1 else lo3 a b (out.push e) d (c+1) g k k1
  | _=>pure (.done (some (out.push e++a.extract d a.size++b.extract (c+1) b.size),out.push e,d,c+1,g,k,f))
noncomputable def lo1(a b out:Array Keyed)(c d h f g:Nat):StateT SortSt Sem (ForInStep (Option (Array Keyed)×Array Keyed×Nat×Nat×Nat×Nat×Nat)):=do
 cS g
 let e<-elem' b d
 match<-fF false e a c (a.size-c) 0 with
 | some k=>if k>0 then if(c+k+1==a.size)=true then pure (.done (some (out++a.extract c (c+k) ++b.extract d b.size++a.extract (c+k) a.size),out++a.extract c (c+k),c+k,d,g,k,f))else if(c+k==a.size)=true then pure (.done (some (out++a.extract c (c+k) ++a.extract (c+k) a.size++b.extract d b.size),out++a.extract c (c+k),c+k,d,g,k,f))else lo2 a b (out++a.extract c (c+k)) (c+k) d g k f else lo2 a b out c d g k f
 | _=>pure (.done (some (out++a.extract c a.size++b.extract d b.size),out,c,d,g,h,f))
noncomputable def loI(a b out:Array Keyed)(c d g f h:Nat):StateT SortSt Sem (ForInStep (Option (Array Keyed)×Array Keyed×Nat×Nat×Nat×Nat)):=do
 let i<-elem' b d
 let j<-elem' a c
 match<-lt' i j with
 | some w=>
   if w=true then(do
    let e<-elem' b d
    if(d+1==b.size)=true then pure (.done (some (out.push e++a.extract c a.size++b.extract (d+1) b.size),out.push e,c,d+1,0,h+1))
    else if h+1>=g then pure (.done (none,out.push e,c,d+1,0,h+1))else pure (.yield (none,out.push e,c,d+1,0,h+1)))
   else(do
    let e<-elem' a c
    if(c+1+1==a.size)=true then pure (.done (some (out.push e++b.extract d b.size++a.extract (c+1) a.size),out.push e,c+1,d,f+1,0))
    else if f+1>=g then pure (.done (none,out.push e,c+1,d,f+1,0))else pure (.yield (none,out.push e,c+1,d,f+1,0)))
 | _=>pure (.done (some (out++a.extract c a.size++b.extract d b.size),out,c,d,f,h))
noncomputable def loG(a b:Array Keyed):Option (Array Keyed)×Array Keyed×Nat×Nat×Nat×Nat×Nat->StateT SortSt Sem (ForInStep (Option (Array Keyed)×Array Keyed×Nat×Nat×Nat×Nat×Nat)):=λx=>
 if x.2.2.2.2.1>1 then lo1 a b x.2.1 x.2.2.1 x.2.2.2.1 x.2.2.2.2.2.1 x.2.2.2.2.2.2 (x.2.2.2.2.1-1)else lo1 a b x.2.1 x.2.2.1 x.2.2.2.1 x.2.2.2.2.2.1 x.2.2.2.2.2.2 x.2.2.2.2.1
noncomputable def loE(x:Option (Array Keyed)×Array Keyed×Nat×Nat×Nat×Nat×Nat):StateT SortSt Sem (ForInStep (Option (Array Keyed)×Array Keyed×Nat×Nat×Nat)):=
 match x.1 with
 | some r=>pure (.done (some r,x.2.1,x.2.2.1,x.2.2.2.1,x.2.2.2.2.1))
 | none=>do
   cS (x.2.2.2.2.1+1)
   pure (.yield (none,x.2.1,x.2.2.1,x.2.2.2.1,x.2.2.2.2.1+1))
noncomputable def loF(a b:Array Keyed)(g:Nat)(x:Option (Array Keyed)×Array Keyed×Nat×Nat×Nat×Nat):StateT SortSt Sem (ForInStep (Option (Array Keyed)×Array Keyed×Nat×Nat×Nat)):=
 match x.1 with
 | some r=>pure (.done (some r,x.2.1,x.2.2.1,x.2.2.2.1,g))
 | none=>do
   rule "list.sort.gallop"
   let x<-forIn [0:a.size+b.size] (none,x.2.1,x.2.2.1,x.2.2.2.1,g+1,x.2.2.2.2.1,x.2.2.2.2.2) λ_ x=>loG a b x
   loE x
noncomputable def loO(a b:Array Keyed):Option (Array Keyed)×Array Keyed×Nat×Nat×Nat->StateT SortSt Sem (ForInStep (Option (Array Keyed)×Array Keyed×Nat×Nat×Nat)):=λx=>do
 let y<-forIn [0:a.size+b.size] (none,x.2.1,x.2.2.1,x.2.2.2.1,0,0) λ_ y=>loI a b y.2.1 y.2.2.1 y.2.2.2.1 x.2.2.2.2 y.2.2.2.2.1 y.2.2.2.2.2
 loF a b x.2.2.2.2 y
noncomputable def loR(x:Option (Array Keyed)×Array Keyed×Nat×Nat×Nat):StateT SortSt Sem (Array Keyed):=
 match x.1 with
 | some r=>pure r
 | none=>unsupported "internal:list.sort.merge-bound"
set_option smartUnfolding false in
theorem EQ(a b:Array Keyed):mS a b=(do
 rule "list.sort.merge-lo"
 let e<-elem' b 0
 if(1==b.size)=true then pure (#[e] ++a.extract 0 a.size++b.extract 1 b.size)
 else if(0+1==a.size)=true then pure (#[e] ++b.extract 1 b.size++a.extract 0 a.size)
 else do
  let s<-get
  let x<-forIn [0:a.size+b.size] (none,#[e],0,1,gallopOf s) λ_ x=>loO a b x
  loR x):=by
 rfl
theorem SG.trans{s t u:SortSt}(h:SG s t)(k:SG t u):SG s u:=%[k.1.trans h.1,k.2.1.trans h.2.1,k.2.2.1.trans h.2.2.1|k.2.2.2.trans h.2.2.2]
theorem y4{N:Keyed->Nat}{a b out:Array Keyed}{c d g k k1 z:Nat}{R:ForInStep (Option (Array Keyed)×Array Keyed×Nat×Nat×Nat×Nat×Nat)->SortSt->Prop}{st:SortSt}(n:Srt N a.toList)(m:MI N a.toList b.toList out.toList c d)(na:c+1<a.size)(nb:d<b.size)(e:∀y∈b.toList.drop d,N (a[c]'⋯)<=N y)(p:z<=out.size+1)
 (q:∀(out:Array Keyed) (c d:Nat),MI N a.toList b.toList out.toList c d->c+1=a.size->cr N a.toList b.toList (out++b.extract d b.size++a.extract c a.size).toList)
 (s:∀r o,cr N a.toList b.toList r.toList->R (.done (some r,o)) st) (t:∀out c d g k k1,ML N a b out c d->z<=out.size->R (.done (none,out,c,d,g,k,k1)) st/\R (.yield (none,out,c,d,g,k,k1)) st):(SC prog w A SI) (lo3 a b out c d g k k1) R st:=by
 obtain⟨u,f⟩:=aU (a:=a) (i:=c) ⋯;unfold lo3;refine aj (bn u ?_);have j:=MI.oneA m n f e;rw[<-toList_push]at j;by_cases l:c+1+1=a.size
 .rw[if_pos (by simp[l])];exact ao (s _ _ (q _ _ _ j l))
 rw[if_neg (by simp[l])];have h:=t _ _ _ g k k1 (ML.mk (a:=a) (b:=b) j ⋯ nb) (by rw[Xl];exact p)
 split
 .exact ao h.1
 .exact ao h.2
theorem y6{D:Keyed->Prop}{N:Keyed->Nat}{a b out:Array Keyed}{f d g k Q z:Nat}{R:ForInStep (Option (Array Keyed)×Array Keyed×Nat×Nat×Nat×Nat×Nat)->SortSt->Prop}{st:SortSt}(c:Cmp prog w A SI (kindOf st) D N)(p:Srt N a.toList)(q:Srt N b.toList)(T:∀{i:Nat} (hi:i<a.size),D a[i])(U:∀{i:Nat} (hi:i<b.size),D b[i])(m:MI N a.toList b.toList out.toList f d)(na:f+1<a.size)(nb:d<b.size)(s:∀y∈a.toList.drop f,N b[d]<=N y)(hz:z<=out.size+2)
 (G:∀(out:Array Keyed) (f d:Nat),MI N a.toList b.toList out.toList f d->(a.size<=f\/b.size<=d)->cr N a.toList b.toList (out++a.extract f a.size++b.extract d b.size).toList)
 (H:∀(out:Array Keyed) (f d:Nat),MI N a.toList b.toList out.toList f d->f+1=a.size->cr N a.toList b.toList (out++b.extract d b.size++a.extract f a.size).toList)
 (l:∀r o,cr N a.toList b.toList r.toList->R (.done (some r,o)) st) (I:∀out f d g k k1,ML N a b out f d->z<=out.size->R (.done (none,out,f,d,g,k,k1)) st/\R (.yield (none,out,f,d,g,k,k1)) st):(SC prog w A SI) (lo2 a b out f d g k Q) R st:=by
 obtain⟨Y,t⟩:=aU (a:=b) (i:=d) nb;obtain⟨ea,u⟩:=aU (a:=a) (i:=f) ⋯;unfold lo2;refine aj (bn Y ?_);have n:=MI.oneB m q t s;rw[<-toList_push]at n;by_cases J:d+1=b.size
 .rw[if_pos (by simp[J])];exact ao (l _ _ (G _ _ _ n (.inr ⋯)))
 rw[if_neg (by simp[J])];refine aj (bn ea ?_);refine aj (eP c (T ⋯) (λi hi=>%[b[d+1+i]'⋯,(aU ⋯).1|U ⋯]) (λi=>cc N true (a[f]'⋯) (b.getD (d+1+i) b[d]))
  (λi x hi v=>by rw[Zs,v];rfl) (λi i' B hi hp=>ph q B ⋯ hp) ⋯ λk2 ab p3 p4=>?_)
 dsimp only;have L:=EO p3 p4;have h:∀y∈b.toList.drop (d+1+k2),N (a[f]'⋯)<=N y:=λy C=>by
  obtain⟨j,h1,h2,e⟩:=bV C;rw[Zb]at h2;exact L.2 (j-(d+1)) y ⋯ ⋯ (by rw[show d+1+(j-(d+1))=j by lia];simpa using e)
 have E:=n.takeB q k2 (λx v y C=>by
  obtain⟨i,hi,e⟩:=lB v;exact Yj (Yh (L.1 i x hi (by simpa using e))) (p.drop_le u C))
 by_cases M:k2>0
 .rw[if_pos M];rw[<-qt,<-Xg]at E;by_cases O:d+1+k2=b.size
  .rw[if_pos (by simp[O])];exact ao (l _ _ (G _ _ _ E (.inr ⋯)))
  rw[if_neg (by simp[O])];exact y4 p E na ⋯ h (by simp;lia) H l I
 .rw[if_neg M];obtain rfl:k2=0:=by lia
  exact y4 p n na ⋯ h (by rw[Xl];lia) H l I
theorem Dj{D:Keyed->Prop}{N:Keyed->Nat}{a b out:Array Keyed}{d f T U g z:Nat}{R:ForInStep (Option (Array Keyed)×Array Keyed×Nat×Nat×Nat×Nat×Nat)->SortSt->Prop}{st:SortSt}(c:Cmp prog w A SI (kindOf st) D N)(q:Srt N a.toList)(t:Srt N b.toList)(u:∀{i:Nat} (hi:i<a.size),D a[i])(v:∀{i:Nat} (hi:i<b.size),D b[i])(m:ML N a b out d f)(Y:z<=out.size+2)
 (B:∀(out:Array Keyed) (d f:Nat),MI N a.toList b.toList out.toList d f->(a.size<=d\/b.size<=f)->cr N a.toList b.toList (out++a.extract d a.size++b.extract f b.size).toList)
 (C:∀(out:Array Keyed) (d f:Nat),MI N a.toList b.toList out.toList d f->d+1=a.size->cr N a.toList b.toList (out++b.extract f b.size++a.extract d a.size).toList)
 (s:∀h r o,SG st h->cr N a.toList b.toList r.toList->R (.done (some r,o)) h) (M:∀h out d f g k k1,SG st h->ML N a b out d f->z<=out.size->R (.done (none,out,d,f,g,k,k1)) h/\R (.yield (none,out,d,f,g,k,k1)) h):(SC prog w A SI) (lo1 a b out d f T U g) R st:=by
 have l:=m.nb;have E:=m.na;obtain⟨eb,G⟩:=aU (a:=b) (i:=f) l;unfold lo1;rw[fZ];refine aj (bN ?_);have sg:=(SG.refl st).set g;refine aj (bn eb ?_);refine aj (eP (by rw[show kindOf _=kindOf st from sg.1];exact c) (v l) (λi hi=>%[a[d+i]'⋯,(aU ⋯).1|u ⋯]) (λi=>cc N false b[f] (a.getD (d+i) b[f]))
  (λi x hi H=>by rw[Zs,H];rfl) (λi i' I hi hp=>pf q I ⋯ hp) ⋯ λk hk p1 p2=>?_)
 dsimp only;have O:=EN p1 p2;have mk:=m.mi.takeA q k (λx H y J=>by
  obtain⟨i,hi,e⟩:=lB H;exact Yj (O.1 i x hi (by simpa using e)) (t.drop_le G J))
 have n:∀y∈a.toList.drop (d+k),N b[f]<=N y:=λy J=>by
  obtain⟨j,h1,h2,e⟩:=bV J;rw[Zb]at h2;exact Yh (O.2 (j-d) y ⋯ ⋯ (by rw[show d+(j-d)=j by lia];simpa using e))
 by_cases p:k>0
 .rw[if_pos p];rw[<-qt,<-Xg]at mk;by_cases L:d+k+1=a.size
  .rw[if_pos (by simp[L])];exact ao (s _ _ _ sg (C _ _ _ mk L))
  rw[if_neg (by simp[L])];by_cases Q:d+k=a.size
  .rw[if_pos (by simp[Q])];exact ao (s _ _ _ sg (B _ _ _ mk (.inl ⋯)))
  rw[if_neg (by simp[Q])];exact y6 (by rw[show kindOf _=kindOf st from sg.1];exact c) q t u v mk ⋯ l n (by simp;lia) B C (λr o=>s _ r o sg) λout d f g k k1=>M _ out d f g k k1 sg
 .rw[if_neg p];obtain rfl:k=0:=by lia
  exact y6 (by rw[show kindOf _=kindOf st from sg.1];exact c) q t u v m.mi E l n Y B C (λr o=>s _ r o sg) λout d f g k k1=>M _ out d f g k k1 sg
theorem Dk{D:Keyed->Prop}{N:Keyed->Nat}{a b out:Array Keyed}{d e g l n z:Nat}{R:ForInStep (Option (Array Keyed)×Array Keyed×Nat×Nat×Nat×Nat)->SortSt->Prop}{st:SortSt}(c:Cmp prog w A SI (kindOf st) D N)(B:Srt N a.toList)(C:Srt N b.toList)(L:∀{i:Nat} (hi:i<a.size),D a[i])(M:∀{i:Nat} (hi:i<b.size),D b[i])(m:ML N a b out d e)(E:z<=out.size+1)
 (O:∀(out:Array Keyed) (d e:Nat),MI N a.toList b.toList out.toList d e->(a.size<=d\/b.size<=e)->cr N a.toList b.toList (out++a.extract d a.size++b.extract e b.size).toList)
 (Q:∀(out:Array Keyed) (d e:Nat),MI N a.toList b.toList out.toList d e->d+1=a.size->cr N a.toList b.toList (out++b.extract e b.size++a.extract d a.size).toList)
 (G:∀r o,cr N a.toList b.toList r.toList->R (.done (some r,o)) st) (H:∀out d e l n,ML N a b out d e->z<=out.size->R (.done (none,out,d,e,l,n)) st/\R (.yield (none,out,d,e,l,n)) st):(SC prog w A SI) (loI a b out d e g l n) R st:=by
 have u:=m.na;have j:=m.nb;have p:d<a.size:=by lia
 obtain⟨I,s⟩:=aU (a:=a) (i:=d) p;obtain⟨J,t⟩:=aU (a:=b) (i:=e) j;unfold loI;refine aj (bn J (aj (bn I (aj (rS c (M j) (L p) ?_)))));dsimp only;by_cases f:N b[e]<N a[d]
 .rw[Zf f,if_pos rfl];refine aj (bn J ?_);have m2:=m.mi.oneB C t λy v=>Yj (Yh f) (B.drop_le s v)
  rw[<-toList_push]at m2;by_cases q:e+1=b.size
  .rw[if_pos (by simp[q])];exact ao (G _ _ (O _ _ _ m2 (.inr ⋯)))
  rw[if_neg (by simp[q])];have h:=H _ _ _ 0 (n+1) %[m2,u|⋯] (by rw[Xl];exact E)
  split
  .exact ao h.1
  .exact ao h.2
 .rw[Zh f,if_neg ∅];refine aj (bn I ?_);have m2:=m.mi.oneA B s λy v=>Yj (Nat.le_of_not_lt f) (C.drop_le t v)
  rw[<-toList_push]at m2;by_cases q:d+1+1=a.size
  .rw[if_pos (by simp[q])];exact ao (G _ _ (Q _ _ _ m2 q))
  rw[if_neg (by simp[q])];have h:=H _ _ _ (l+1) 0 %[m2,⋯|j] (by rw[Xl];exact E)
  split
  .exact ao h.1
  .exact ao h.2
theorem Dl{D:Keyed->Prop}{N:Keyed->Nat}{a b out:Array Keyed}{e f g j:Nat}{q:Option (Array Keyed)}{R:ForInStep (Option (Array Keyed)×Array Keyed×Nat×Nat×Nat)->SortSt->Prop}{st:SortSt}(c:Cmp prog w A SI (kindOf st) D N)(y:Srt N a.toList)(B:Srt N b.toList)(C:∀{i:Nat} (hi:i<a.size),D a[i])(E:∀{i:Nat} (hi:i<b.size),D b[i])(m:ML N a b out e f)(n:j+1<=out.size)
 (G:∀(out:Array Keyed) (e f:Nat),MI N a.toList b.toList out.toList e f->(a.size<=e\/b.size<=f)->cr N a.toList b.toList (out++a.extract e a.size++b.extract f b.size).toList)
 (H:∀(out:Array Keyed) (e f:Nat),MI N a.toList b.toList out.toList e f->e+1=a.size->cr N a.toList b.toList (out++b.extract f b.size++a.extract e a.size).toList)
 (I:∀l r o,SG st l->cr N a.toList b.toList r.toList->R (.done (some r,o)) l) (J:∀l out e f g,SG st l->ML N a b out e f->j+2<=out.size->R (.yield (none,out,e,f,g)) l):(SC prog w A SI) (loO a b (q,out,e,f,g)) R st:=by
 have L:=m.na;unfold loO;refine aj (be (aO (Q:=λx l=>SG st l/\((∃r o,x=(some r,o)/\cr N a.toList b.toList r.toList)\/∃out e f p s,x=(none,out,e,f,p,s)/\ML N a b out e f/\j+2<=out.size))
  (λj2 x l=>SG st l/\∃out e f p s,x=(none,out,e,f,p,s)/\ML N a b out e f/\j+1+j2<=out.size) (Xh _) %[SG.refl _,_,_,_,_,_,rfl,m|n] ?_ ?_) ?_)
 .rintro j2 x t _ u ⟨d,out,e,f,p,s,rfl,m,n⟩;exact Dk (z:=j+1+(j2+1)) (by rw[d.1];exact c) y B C E m ⋯ G H (λr o h=>%[d|.inl %[r,o,rfl|h]]) λout e f p s h z=>%[%[d|.inr %[_,_,_,_,_,rfl,h|⋯]],d,_,_,_,_,_,rfl,h|z]
 .rintro x t ⟨d,out,e,f,p,s,rfl,m,n⟩;exact%[d|.inr %[_,_,_,_,_,rfl,m|⋯]]
 .rintro x t ⟨d,⟨r,o,rfl,v⟩|⟨out,e,f,p,s,rfl,m,n⟩⟩
  .exact ao (I _ r _ d v)
  .refine aj (gO ?_);refine aj (be (aO (Q:=λx l=>SG st l/\((∃r o,x=(some r,o)/\cr N a.toList b.toList r.toList)\/∃out e f g p s,x=(none,out,e,f,g,p,s)/\ML N a b out e f/\j+2<=out.size))
    (λj2 x l=>SG st l/\∃out e f g p s,x=(none,out,e,f,g,p,s)/\ML N a b out e f/\j+2<=out.size) (Xh _) %[d,_,_,_,_,_,_,rfl,m|n] ?_ ?_) ?_)
   .rintro j2 x t _ u ⟨d,out,e,f,g,p,s,rfl,m,n⟩;unfold loG;rw[<-apply_ite (lo1 _ _ _ _ _ _ _)];exact Dj (z:=j+2) (by rw[d.1];exact c) y B C E m ⋯ G H (λl r o sg h=>%[SG.trans d sg|.inl %[r,o,rfl|h]]) λl out e f g k k1 sg h z=>%[%[SG.trans d sg|.inr %[_,_,_,_,_,_,rfl,h|z]],SG.trans d sg,_,_,_,_,_,_,rfl,h|z]
   .rintro x t ⟨d,out,e,f,g,p,s,rfl,m,n⟩;exact%[d|.inr %[_,_,_,_,_,_,rfl,m|⋯]]
   .rintro x t ⟨d,⟨r,o,rfl,v⟩|⟨out,e,f,g,p,s,rfl,m,n⟩⟩
    .exact ao (I _ r _ d v)
    .exact aj (bN (ao (J _ _ _ _ _ (d.set _) m n)))
theorem uq{D:Keyed->Prop}{N:Keyed->Nat}{a b:Array Keyed}{Q:Array Keyed->SortSt->Prop}{st:SortSt}(c:Cmp prog w A SI (kindOf st) D N)(v:Srt N a.toList)(B:Srt N b.toList)(M:∀x∈a.toList,D x)(O:∀x∈b.toList,D x)
 (ha:1<=a.size) (hb:1<=b.size) (T:∀x y,b.toList[0]? =some x->a.toList[0]? =some y->N x<=N y) (U:∀y∈b.toList,∀x∈a.toList.drop (a.size-1),N y<=N x)
 (h:∀r d,SG st d->cr N a.toList b.toList r.toList->Q r d):(SC prog w A SI) (mS a b) Q st:=by
 have Y:∀{i:Nat} (hi:i<a.size),D a[i]:=λhi=>M _ ∅
 have DB:∀{i:Nat} (hi:i<b.size),D b[i]:=λhi=>O _ ∅
 have I:∀(out:Array Keyed) (e f:Nat),MI N a.toList b.toList out.toList e f->(a.size<=e\/b.size<=f)->cr N a.toList b.toList (out++a.extract e a.size++b.extract f b.size).toList:=λout e f m q=>by
  rw[Xg,Xg,l7,l7];refine m.done v B λx C y p=>?_
  rcases q with q|q
  .obtain⟨j,h1,E,_⟩:=bV C;rw[Zb]at E
   lia
  .obtain⟨j,h1,E,_⟩:=bV p;rw[Zb]at E
   lia
 have J:∀(out:Array Keyed) (e f:Nat),MI N a.toList b.toList out.toList e f->e+1=a.size->cr N a.toList b.toList (out++b.extract f b.size++a.extract e a.size).toList:=λout e f m q=>by
  rw[Xg,Xg,l7,l7];exact m.last v B λy p x C=>U y (Yz p) x (by rw[show a.size-1=e by lia];exact C)
 rw[EQ];refine aj (gO ?_);obtain⟨eb,s⟩:=aU (a:=b) (i:=0) ⋯;refine aj (bn eb ?_);have G:MI N a.toList b.toList #[b[0]].toList 0 1:=(MI.zero N a.toList b.toList).oneB B s λy p=>by
  obtain⟨ea,t⟩:=aU (a:=a) (i:=0) ⋯;exact Yj (T _ _ s t) (v.drop_le t p)
 by_cases q1:1=b.size
 .rw[if_pos (by simp[<-q1])];exact ao (h _ st (SG.refl _) (I _ _ _ G (.inr ⋯)))
 rw[if_neg (by simp;lia)];by_cases H:0+1=a.size
 .rw[if_pos (by simp[<-H])];exact ao (h _ st (SG.refl _) (J _ _ _ G H))
 rw[if_neg (by simp at H ⊢;lia)];refine aj (d9 ?_);refine aj (be (aO (Q:=λx d=>SG st d/\∃r,x.1=some r/\cr N a.toList b.toList r.toList)
  (λj x d=>SG st d/\∃out e f g,x=(none,out,e,f,g)/\ML N a b out e f/\j+1<=out.size) (Xh _) %[SG.refl _,_,_,_,_,rfl,%[G,⋯|⋯]|Zi _] ?_ ?_) ?_)
 .rintro j x l _ hj ⟨sg,out,e,f,g,rfl,m,u⟩;exact Dl (by rw[sg.1];exact c) v B Y DB m u I J (λd r o n h=>%[SG.trans sg n,r,rfl|h]) λd out e f g n h z=>%[SG.trans sg n,_,_,_,_,rfl,h|z]
 .rintro x l ⟨sg,out,e,f,g,rfl,m,u⟩;have:=m.na;have:=m.nb;have q:=m.mi.perm.length_eq;simp only[Z9,Yk,Zb]at q
  lia
 .rintro x l ⟨sg,r,L,gd⟩;obtain⟨x1,x2⟩:=x;dsimp only at L;subst L;exact ao (h r l sg gd)
end
end SBig
namespace SBig
open PySem PyProof.Rows
theorem Srt.take{N:Keyed->Nat}{l:List Keyed}(h:Srt N l)(k:Nat):Srt N (l.take k):=List.Pairwise.sublist (List.take_sublist _ _) h
theorem bC{l:List Keyed}{k:Nat}{x:Keyed}(h:x∈l.take k):∃j,j<k/\j<l.length/\l[j]? =some x:=by
 obtain⟨j,a⟩:=Xi h;rw[Yd]at a
 split at a
 .exact%[j,by assumption,(Xo a).1|a]
 .cases a
theorem vv{l:List Keyed}{i k:Nat}{x:Keyed}(h:x∈(l.take k).drop i):∃j,i<=j/\j<k/\j<l.length/\l[j]? =some x:=by
 obtain⟨j,a,b,e⟩:=bV h;rw[Yd]at e
 split at e
 .exact%[j,a,by assumption,(Xo e).1|e]
 .cases e
structure MH (N:Keyed->Nat) (A B O:List Keyed) (na nb:Nat):Prop where
 perm:(A.take na++B.take nb++O).Perm (A++B)
 srt:Srt N O
 ca:∀x∈A.take na,∀y∈O,N x<=N y
 cb:∀x∈B.take nb,∀y∈O,N x<=N y
theorem MH.zero(N:Keyed->Nat)(A B:List Keyed):MH N A B [] A.length B.length:=%[by simp,List.Pairwise.nil,λ_ _ _ h=>(nomatch h)|λ_ _ _ h=>(nomatch h)]
theorem MH.takeA{N:Keyed->Nat}{A B O:List Keyed}{na nb:Nat}(h:MH N A B O na nb)(d:Srt N A)(k:Nat)(f:k<=na)(c:∀y∈(A.take na).drop k,∀x∈B.take nb,N x<=N y):MH N A B ((A.take na).drop k++O) k nb:=by
 have e:A.take na=A.take k++(A.take na).drop k:=by
  have:=(Xe k (A.take na)).symm;rw[List.take_take,X2 f]at this;exact this
 have g:(A.take k++(A.take na).drop k).Pairwise λx y=>N x<=N y:=by rw[<-e];exact d.take na
 obtain⟨_,i,j⟩:=pairwise_append.mp g;refine%[?_,pairwise_append.mpr %[i,h.srt|λx b y a=>h.ca x (Yz b) y a],λx b y a=>?_|λx b y a=>?_]
 .refine List.Perm.trans ?_ h.perm;rw[<-Ze];refine Xn _ ?_;rw (occs:= .pos [2]) [e];rw[Ze,Ze];exact List.Perm.append_left _ perm_append_comm
 .rcases Xp a with a|a
  .exact j x b y a
  .exact h.ca x (by rw[e];exact Yw _ b) y a
 .rcases Xp a with a|a
  .exact c y a x b
  .exact h.cb x b y a
theorem MH.takeB{N:Keyed->Nat}{A B O:List Keyed}{na nb:Nat}(h:MH N A B O na nb)(d:Srt N B)(k:Nat)(f:k<=nb)(c:∀y∈(B.take nb).drop k,∀x∈A.take na,N x<=N y):MH N A B ((B.take nb).drop k++O) na k:=by
 have e:B.take nb=B.take k++(B.take nb).drop k:=by
  have:=(Xe k (B.take nb)).symm;rw[List.take_take,X2 f]at this;exact this
 have g:(B.take k++(B.take nb).drop k).Pairwise λx y=>N x<=N y:=by rw[<-e];exact d.take nb
 obtain⟨_,i,j⟩:=pairwise_append.mp g;refine%[?_,pairwise_append.mpr %[i,h.srt|λx b y a=>h.cb x (Yz b) y a],λx b y a=>?_|λx b y a=>?_]
 .refine List.Perm.trans ?_ h.perm;rw[<-Ze];refine Xn _ ?_;rw (occs:= .pos [2]) [e];rw[Ze]
 .rcases Xp a with a|a
  .exact c y a x b
  .exact h.ca x b y a
 .rcases Xp a with a|a
  .exact j x b y a
  .exact h.cb x (by rw[e];exact Yw _ b) y a
theorem jU{l:List Keyed}{k:Nat}{x:Keyed}(h:l[k]? =some x):(l.take (k+1)).drop k=[x]:=by
 obtain⟨a,e⟩:=Xo h;rw[List.take_succ_eq_append_getElem a,e,List.drop_append_of_le_length (by rw[Yo];lia),drop_of_length_le (by rw[Yo];lia)];rfl
theorem MH.oneA{N:Keyed->Nat}{A B O:List Keyed}{na nb:Nat}{x:Keyed}(h:MH N A B O (na+1) nb)(c:Srt N A)(b:A[na]? =some x)(a:∀y∈B.take nb,N y<=N x):MH N A B (x::O) na nb:=by
 have:=h.takeA c na (by omega) (by rw[jU b];intro z d;rw[Xq d];exact a);rwa[jU b]at this
theorem MH.oneB{N:Keyed->Nat}{A B O:List Keyed}{na nb:Nat}{x:Keyed}(h:MH N A B O na (nb+1))(c:Srt N B)(b:B[nb]? =some x)(a:∀y∈A.take na,N y<=N x):MH N A B (x::O) na nb:=by
 have:=h.takeB c nb (by omega) (by rw[jU b];intro z d;rw[Xq d];exact a);rwa[jU b]at this
theorem MH.done{N:Keyed->Nat}{A B O:List Keyed}{na nb:Nat}(h:MH N A B O na nb)(c:Srt N A)(d:Srt N B)(e:∀x∈A.take na,∀y∈B.take nb,N x<=N y):cr N A B (A.take na++B.take nb++O):=
 %[pairwise_append.mpr %[pairwise_append.mpr %[c.take na,d.take nb|e],h.srt|λx a y b=>(Xp a).elim (λq=>h.ca x q y b) λq=>h.cb x q y b]|h.perm]
theorem MH.first{N:Keyed->Nat}{A B O:List Keyed}{na nb:Nat}(h:MH N A B O na nb)(c:Srt N A)(d:Srt N B)(e:∀y∈B.take nb,∀x∈A.take na,N y<=N x):cr N A B (B.take nb++A.take na++O):=
 %[pairwise_append.mpr %[pairwise_append.mpr %[d.take nb,c.take na|e],h.srt|λx a y b=>(Xp a).elim (λq=>h.cb x q y b) λq=>h.ca x q y b]|List.Perm.trans (Xn _ perm_append_comm) h.perm]
theorem Bb(a:Array Keyed)(k:Nat):(a.extract 0 k).toList=a.toList.take k:=by rw[iM];simp
theorem vw(a:Array Keyed)(i k:Nat):(a.extract i k).toList=(a.toList.take k).drop i:=by
 rw[iM,List.drop_take]
theorem Srt.take_le{N:Keyed->Nat}{l:List Keyed}(h:Srt N l){i:Nat}{x y:Keyed}(a:l[i]? =some x)(b:y∈l.take (i+1)):N y<=N x:=by
 obtain⟨j,c,_,e⟩:=bC b;exact h.le (by omega) e a
theorem jV(out:Array Keyed)(x:Keyed):(out.push x).reverse.toList=x::out.reverse.toList:=by simp
theorem vx(out p:Array Keyed):(out++p.reverse).reverse.toList=p.toList++out.reverse.toList:=by simp
section
variable{prog:Program}{w:World}{A:Around}{SI:Shared->Prop}{α β:Type}
structure MHS (N:Keyed->Nat) (a b out:Array Keyed) (na nb:Nat):Prop where
 mh:MH N a.toList b.toList out.reverse.toList na nb
 pa:1<=na
 pb:2<=nb
 ma:na<=a.size
 mb:nb<=b.size
noncomputable def hi3(a b:Array Keyed)(na nb:Nat)(out:Array Keyed)(g k k1:Nat):StateT SortSt Sem (ForInStep (Option (Array Keyed)×Nat×Nat×Array Keyed×Nat×Nat×Nat)):=do
 let e<-elem' a (na-1)
 if(na-1==0)=true then pure (.done (some (a.extract 0 (na-1) ++b.extract 0 nb++(out.push e).reverse),na-1,nb,out.push e,g,k,k1))
 else if(decide (k<7)&&decide (k1<7))=true then pure (.done (none,na-1,nb,out.push e,g,k,k1))else pure (.yield (none,na-1,nb,out.push e,g,k,k1))
noncomputable def hi2(a b:Array Keyed)(na nb:Nat)(out:Array Keyed)(g k c:Nat):StateT SortSt Sem (ForInStep (Option (Array Keyed)×Nat×Nat×Array Keyed×Nat×Nat×Nat)):=do
 let e<-elem' b (nb-1)
 if(nb-1==1)=true then pure (.done (some (b.extract 0 (nb-1) ++a.extract 0 na++(out.push e).reverse),na,nb-1,out.push e,g,k,c))
 else do
  let d<-elem' a (na-1)
  match<-fF true d b 0 (nb-1) (nb-1-1)with
  | some k1=>if nb-1-k1>0 then if(k1==1)=true then pure (.done (some (b.extract 0 k1++a.extract 0 na++(out.push e++(b.extract k1 (nb-1)).reverse).reverse),na,k1,out.push e++(b.extract k1 (nb-1)).reverse,g,k,nb-1-k1))else if(k1==0)=true then pure (.done (some (a.extract 0 na++b.extract 0 k1++(out.push e++(b.extract k1 (nb-1)).reverse).reverse),na,k1,out.push e++(b.extract k1 (nb-1)).reverse,g,k,nb-1-k1))else hi3 a b na k1 (out.push e++(b.extract k1 (nb-1)).reverse) g k (nb-1-k1)else hi3 a b na (nb-1) (out.push e) g k (nb-1-k1)
  | _=>pure (.done (some (a.extract 0 na++b.extract 0 (nb-1) ++(out.push e).reverse),na,nb-1,out.push e,g,k,c))
noncomputable def hi1(a b:Array Keyed)(na nb:Nat)(out:Array Keyed)(d c g:Nat):StateT SortSt Sem (ForInStep (Option (Array Keyed)×Nat×Nat×Array Keyed×Nat×Nat×Nat)):=do
 cS g
 let e<-elem' b (nb-1)
 match<-fF false e a 0 na (na-1)with
 | some k=>if na-k>0 then if(k==0)=true then pure (.done (some (a.extract 0 k++b.extract 0 nb++(out++(a.extract k na).reverse).reverse),k,nb,out++(a.extract k na).reverse,g,na-k,c))else hi2 a b k nb (out++(a.extract k na).reverse) g (na-k) c else hi2 a b na nb out g (na-k) c
 | _=>pure (.done (some (a.extract 0 na++b.extract 0 nb++out.reverse),na,nb,out,g,d,c))
noncomputable def hiI(a b:Array Keyed)(na nb:Nat)(out:Array Keyed)(g c d:Nat):StateT SortSt Sem (ForInStep (Option (Array Keyed)×Nat×Nat×Array Keyed×Nat×Nat)):=do
 let f<-elem' b (nb-1)
 let h<-elem' a (na-1)
 match<-lt' f h with
 | some w=>
   if w=true then(do
    let e<-elem' a (na-1)
    if(na-1==0)=true then pure (.done (some (a.extract 0 (na-1) ++b.extract 0 nb++(out.push e).reverse),na-1,nb,out.push e,c+1,0))
    else if c+1>=g then pure (.done (none,na-1,nb,out.push e,c+1,0))else pure (.yield (none,na-1,nb,out.push e,c+1,0)))
   else(do
    let e<-elem' b (nb-1)
    if(nb-1==1)=true then pure (.done (some (b.extract 0 (nb-1) ++a.extract 0 na++(out.push e).reverse),na,nb-1,out.push e,0,d+1))
    else if d+1>=g then pure (.done (none,na,nb-1,out.push e,0,d+1))else pure (.yield (none,na,nb-1,out.push e,0,d+1)))
 | _=>pure (.done (some (a.extract 0 na++b.extract 0 nb++out.reverse),na,nb,out,c,d))
noncomputable def hiG(a b:Array Keyed)(x:Option (Array Keyed)×Nat×Nat×Array Keyed×Nat×Nat×Nat):StateT SortSt Sem (ForInStep (Option (Array Keyed)×Nat×Nat×Array Keyed×Nat×Nat×Nat)):=
 if x.2.2.2.2.1>1 then hi1 a b x.2.1 x.2.2.1 x.2.2.2.1 x.2.2.2.2.2.1 x.2.2.2.2.2.2 (x.2.2.2.2.1-1)else hi1 a b x.2.1 x.2.2.1 x.2.2.2.1 x.2.2.2.2.2.1 x.2.2.2.2.2.2 x.2.2.2.2.1
noncomputable def hiE(x:Option (Array Keyed)×Nat×Nat×Array Keyed×Nat×Nat×Nat):StateT SortSt Sem (ForInStep (Option (Array Keyed)×Nat×Nat×Array Keyed×Nat)):=
 match x.1 with
 | some r=>pure (.done (some r,x.2.1,x.2.2.1,x.2.2.2.1,x.2.2.2.2.1))
 | none=>do
   cS (x.2.2.2.2.1+1)
   pure (.yield (none,x.2.1,x.2.2.1,x.2.2.2.1,x.2.2.2.2.1+1))
noncomputable def hiF(a b:Array Keyed)(g:Nat)(x:Option (Array Keyed)×Nat×Nat×Array Keyed×Nat×Nat):StateT SortSt Sem (ForInStep (Option (Array Keyed)×Nat×Nat×Array Keyed×Nat)):=
 match x.1 with
 | some r=>pure (.done (some r,x.2.1,x.2.2.1,x.2.2.2.1,g))
 | none=>do
   rule "list.sort.gallop"
   let x<-forIn [0:a.size+b.size] (none,x.2.1,x.2.2.1,x.2.2.2.1,g+1,x.2.2.2.2.1,x.2.2.2.2.2) λ_ x=>hiG a b x
   hiE x
noncomputable def hiO(a b:Array Keyed)(x:Option (Array Keyed)×Nat×Nat×Array Keyed×Nat):StateT SortSt Sem (ForInStep (Option (Array Keyed)×Nat×Nat×Array Keyed×Nat)):=do
 let y<-forIn [0:a.size+b.size] (none,x.2.1,x.2.2.1,x.2.2.2.1,0,0) λ_ y=>hiI a b y.2.1 y.2.2.1 y.2.2.2.1 x.2.2.2.2 y.2.2.2.2.1 y.2.2.2.2.2
 hiF a b x.2.2.2.2 y
noncomputable def hiR(x:Option (Array Keyed)×Nat×Nat×Array Keyed×Nat):StateT SortSt Sem (Array Keyed):=
 match x.1 with
 | some r=>pure r
 | none=>unsupported "internal:list.sort.merge-bound"
set_option smartUnfolding false in
theorem ER(a b:Array Keyed):mT a b=(do
 rule "list.sort.merge-hi"
 let e<-elem' a (a.size-1)
 if(a.size-1==0)=true then pure (a.extract 0 (a.size-1) ++b.extract 0 b.size++ #[e].reverse)
 else if(b.size==1)=true then pure (b.extract 0 b.size++a.extract 0 (a.size-1) ++ #[e].reverse)
 else do
  let s<-get
  let x<-forIn [0:a.size+b.size] (none,a.size-1,b.size,#[e],gallopOf s) λ_ x=>hiO a b x
  hiR x):=by
 rfl
structure HC (prog:Program) (w:World) (A:Around) (SI:Shared->Prop) (D:Keyed->Prop) (N:Keyed->Nat) (a b:Array Keyed) (st:SortSt):Prop where
 c:Cmp prog w A SI (kindOf st) D N
 hA:Srt N a.toList
 hB:Srt N b.toList
 DA:∀{i:Nat} (hi:i<a.size),D a[i]
 DB:∀{i:Nat} (hi:i<b.size),D b[i]
 fd:∀(out:Array Keyed) (na nb:Nat),MH N a.toList b.toList out.reverse.toList na nb->(na=0\/nb=0)->cr N a.toList b.toList (a.extract 0 na++b.extract 0 nb++out.reverse).toList
 ff:∀(out:Array Keyed) (na nb:Nat),MH N a.toList b.toList out.reverse.toList na nb->nb=1->cr N a.toList b.toList (b.extract 0 nb++a.extract 0 na++out.reverse).toList
theorem HC.of{D:Keyed->Prop}{N:Keyed->Nat}{a b:Array Keyed}{s t:SortSt}(C:HC prog w A SI D N a b s)(h:SG s t):HC prog w A SI D N a b t:={C with c:=by rw[h.1];exact C.c}
variable{D:Keyed->Prop}{N:Keyed->Nat}{a b out:Array Keyed}{na nb g k bc z:Nat}{st:SortSt}
theorem y8{k1:Nat}{R:ForInStep (Option (Array Keyed)×Nat×Nat×Array Keyed×Nat×Nat×Nat)->SortSt->Prop}(C:HC prog w A SI D N a b st)(m:MH N a.toList b.toList out.reverse.toList (na+1) nb)(t:na+1<=a.size)(j:2<=nb)(l:nb<=b.size)(c:∀y∈b.toList.take nb,N y<=N (a[na]'⋯))(n:z<=out.size+1)
 (p:∀r o,cr N a.toList b.toList r.toList->R (.done (some r,o)) st) (q:∀na nb out g k k1,MHS N a b out na nb->z<=out.size->R (.done (none,na,nb,out,g,k,k1)) st/\R (.yield (none,na,nb,out,g,k,k1)) st):(SC prog w A SI) (hi3 a b (na+1) nb out g k k1) R st:=by
 obtain⟨s,d⟩:=aU (a:=a) (i:=na) ⋯;unfold hi3;rw[add_sub_cancel];refine aj (bn s ?_);have e:=MH.oneA m C.hA d c;rw[<-jV]at e;by_cases f:na=0
 .rw[if_pos (by simp[f])];exact ao (p _ _ (C.fd _ _ _ e (.inl f)))
 rw[if_neg (by simp[f])];have h:=q _ _ _ g k k1 (MHS.mk (a:=a) (b:=b) e ⋯ j ⋯ l) (by rw[Xl];exact n)
 split
 .exact ao h.1
 .exact ao h.2
theorem y9{R:ForInStep (Option (Array Keyed)×Nat×Nat×Array Keyed×Nat×Nat×Nat)->SortSt->Prop}(C:HC prog w A SI D N a b st)(m:MH N a.toList b.toList out.reverse.toList (na+1) (nb+1))(H:na+1<=a.size)(pb:1<=nb)(mb:nb+1<=b.size)(l:∀y∈a.toList.take (na+1),N y<=N b[nb])(hz:z<=out.size+2)
 (d:∀r o,cr N a.toList b.toList r.toList->R (.done (some r,o)) st) (I:∀na nb out g k k1,MHS N a b out na nb->z<=out.size->R (.done (none,na,nb,out,g,k,k1)) st/\R (.yield (none,na,nb,out,g,k,k1)) st):(SC prog w A SI) (hi2 a b (na+1) (nb+1) out g k bc) R st:=by
 obtain⟨O,n⟩:=aU (a:=b) (i:=nb) ⋯;obtain⟨Q,p⟩:=aU (a:=a) (i:=na) ⋯;unfold hi2;rw[add_sub_cancel,add_sub_cancel];refine aj (bn O ?_);have f:=MH.oneB m C.hB n l;rw[<-jV]at f;by_cases q:nb=1
 .rw[if_pos (by simp[q])];exact ao (d _ _ (C.ff _ _ _ f q))
 rw[if_neg (by simp[q])];refine aj (bn Q ?_);refine aj (eP C.c (C.DA ⋯) (λi hi=>%[b[0+i]'⋯,(aU ⋯).1|C.DB ⋯]) (λi=>cc N true (a[na]'⋯) (b.getD (0+i) b[nb]))
  (λi x hi s=>by rw[Zs,s];rfl) (λi i' t hi T=>ph C.hB t ⋯ T) ⋯ λk2 u U Y=>?_)
 dsimp only;have J:=EO U Y;have c:∀y∈b.toList.take k2,N y<=N (a[na]'⋯):=λy v=>by
  obtain⟨j,B,L,e⟩:=bC v;exact Yh (J.1 j y B (by simpa using e))
 have h:=f.takeB C.hB k2 u (λy v x s=>by
  obtain⟨i,B,L,h3,e⟩:=vv v;exact Yj (C.hA.take_le p s) (J.2 i y B L (by simpa using e)))
 by_cases M:nb-k2>0
 .rw[if_pos M];rw[<-vw,<-vx]at h;by_cases E:k2=1
  .rw[if_pos (by simp[E])];exact ao (d _ _ (C.ff _ _ _ h E))
  rw[if_neg (by simp[E])];by_cases G:k2=0
  .rw[if_pos (by simp[G])];exact ao (d _ _ (C.fd _ _ _ h (.inr G)))
  rw[if_neg (by simp[G])];exact y8 C h H ⋯ ⋯ c (by simp;lia) d I
 .rw[if_neg M];obtain rfl:k2=nb:=by lia
  exact y8 C f H ⋯ ⋯ c (by rw[Xl];lia) d I
theorem Dm{I:Nat}{R:ForInStep (Option (Array Keyed)×Nat×Nat×Array Keyed×Nat×Nat×Nat)->SortSt->Prop}(C:HC prog w A SI D N a b st)(m:MHS N a b out na nb)(J:z<=out.size+2)
 (h:∀c r o,SG st c->cr N a.toList b.toList r.toList->R (.done (some r,o)) c) (B:∀c na nb out g k k1,SG st c->MHS N a b out na nb->z<=out.size->R (.done (none,na,nb,out,g,k,k1)) c/\R (.yield (none,na,nb,out,g,k,k1)) c):(SC prog w A SI) (hi1 a b na nb out I bc g) R st:=by
 obtain⟨E,Y,pb,L,G⟩:=m;obtain⟨nb,rfl⟩:∃n,nb=n+1:=%[nb-1|⋯]
 obtain⟨M,l⟩:=aU (a:=b) (i:=nb) ⋯;unfold hi1;rw[add_sub_cancel,fZ];refine aj (bN ?_);have sg:=(SG.refl st).set g;refine aj (bn M ?_);refine aj (eP (C.of sg).c (C.DB ⋯) (λi hi=>%[a[0+i]'⋯,(aU ⋯).1|C.DA ⋯]) (λi=>cc N false b[nb] (a.getD (0+i) b[nb]))
  (λi x hi p=>by rw[Zs,p];rfl) (λi i' q hi O=>pf C.hA q ⋯ O) ⋯ λk Q T U=>?_)
 dsimp only;have s:=EN T U;simp only[zero_add]at s;have mk:=E.takeA C.hA k Q (λy t x p=>by
  obtain⟨i,u,H,h3,e⟩:=vv t;exact Yj (C.hB.take_le l p) (Yh (s.2 i y u H (by simpa using e))))
 have d:∀y∈a.toList.take k,N y<=N b[nb]:=λy t=>by
  obtain⟨j,u,H,e⟩:=bC t;exact s.1 j y u (by simpa using e)
 by_cases f:na-k>0
 .rw[if_pos f];rw[<-vw,<-vx]at mk;by_cases v:k=0
  .rw[if_pos (by simp[v])];exact ao (h _ _ _ sg (C.fd _ _ _ mk (.inl v)))
  rw[if_neg (by simp[v])];obtain⟨k,rfl⟩:∃n,k=n+1:=%[k-1|⋯]
  exact y9 (C.of sg) mk ⋯ ⋯ G d (by simp;lia) (λr o=>h _ r o sg) λna nb out g k k1=>B _ na nb out g k k1 sg
 .rw[if_neg f];obtain rfl:k=na:=by lia
  obtain⟨k,rfl⟩:∃n,k=n+1:=%[k-1|⋯]
  exact y9 (C.of sg) E L ⋯ G d J (λr o=>h _ r o sg) λna nb out g k k1=>B _ na nb out g k k1 sg
theorem Do{d:Nat}{R:ForInStep (Option (Array Keyed)×Nat×Nat×Array Keyed×Nat×Nat)->SortSt->Prop}(C:HC prog w A SI D N a b st)(m:MHS N a b out na nb)(l:z<=out.size+1)
 (p:∀r o,cr N a.toList b.toList r.toList->R (.done (some r,o)) st) (s:∀na nb out d bc,MHS N a b out na nb->z<=out.size->R (.done (none,na,nb,out,d,bc)) st/\R (.yield (none,na,nb,out,d,bc)) st):(SC prog w A SI) (hiI a b na nb out g d bc) R st:=by
 obtain⟨t,B,E,G,H⟩:=m;obtain⟨na,rfl⟩:∃n,na=n+1:=%[na-1|⋯]
 obtain⟨nb,rfl⟩:∃n,nb=n+1:=%[nb-1|⋯]
 obtain⟨u,e⟩:=aU (a:=a) (i:=na) ⋯;obtain⟨v,f⟩:=aU (a:=b) (i:=nb) ⋯;unfold hiI;rw[add_sub_cancel,add_sub_cancel];refine aj (bn v (aj (bn u (aj (rS C.c (C.DB ⋯) (C.DA ⋯) ?_)))));dsimp only;by_cases c:N b[nb]<N a[na]
 .rw[Zf c,if_pos rfl];refine aj (bn u ?_);have m2:=t.oneA C.hA e λy j=>Yj (C.hB.take_le f j) (Yh c)
  rw[<-jV]at m2;by_cases q:na=0
  .rw[if_pos (by simp[q])];exact ao (p _ _ (C.fd _ _ _ m2 (.inl q)))
  rw[if_neg (by simp[q])];have h:=s _ _ _ (d+1) 0 %[m2,⋯,E,⋯|H] (by rw[Xl];exact l)
  split
  .exact ao h.1
  .exact ao h.2
 .rw[Zh c,if_neg ∅];refine aj (bn v ?_);have m2:=t.oneB C.hB f λy j=>Yj (C.hA.take_le e j) (Nat.le_of_not_lt c)
  rw[<-jV]at m2;by_cases q:nb=1
  .rw[if_pos (by simp[q])];exact ao (p _ _ (C.ff _ _ _ m2 q))
  rw[if_neg (by simp[q])];have h:=s _ _ _ 0 (bc+1) %[m2,B,⋯,G|⋯] (by rw[Xl];exact l)
  split
  .exact ao h.1
  .exact ao h.2
theorem Dp{j:Nat}{q:Option (Array Keyed)}{R:ForInStep (Option (Array Keyed)×Nat×Nat×Array Keyed×Nat)->SortSt->Prop}(C:HC prog w A SI D N a b st)(m:MHS N a b out na nb)(e:j+1<=out.size)
 (p:∀d r o,SG st d->cr N a.toList b.toList r.toList->R (.done (some r,o)) d) (s:∀d na nb out g,SG st d->MHS N a b out na nb->j+2<=out.size->R (.yield (none,na,nb,out,g)) d):(SC prog w A SI) (hiO a b (q,na,nb,out,g)) R st:=by
 have t:=m.pa;have u:=m.ma;unfold hiO;refine aj (be (aO (Q:=λx d=>SG st d/\((∃r o,x=(some r,o)/\cr N a.toList b.toList r.toList)\/∃na nb out f bc,x=(none,na,nb,out,f,bc)/\MHS N a b out na nb/\j+2<=out.size))
  (λj2 x d=>SG st d/\∃na nb out f bc,x=(none,na,nb,out,f,bc)/\MHS N a b out na nb/\j+1+j2<=out.size) (Xh _) %[SG.refl _,_,_,_,_,_,rfl,m|e] ?_ ?_) ?_)
 .rintro j2 x i _ l ⟨c,na,nb,out,f,bc,rfl,m,e⟩;exact Do (z:=j+1+(j2+1)) (C.of c) m ⋯ (λr o h=>%[c|.inl %[r,o,rfl|h]]) λna nb out f bc h z=>%[%[c|.inr %[_,_,_,_,_,rfl,h|⋯]],c,_,_,_,_,_,rfl,h|z]
 .rintro x i ⟨c,na,nb,out,f,bc,rfl,m,e⟩;exact%[c|.inr %[_,_,_,_,_,rfl,m|⋯]]
 .rintro x i ⟨c,⟨r,o,rfl,n⟩|⟨na,nb,out,f,bc,rfl,m,e⟩⟩
  .exact ao (p _ r _ c n)
  .refine aj (gO ?_);refine aj (be (aO (Q:=λx d=>SG st d/\((∃r o,x=(some r,o)/\cr N a.toList b.toList r.toList)\/∃na nb out g f bc,x=(none,na,nb,out,g,f,bc)/\MHS N a b out na nb/\j+2<=out.size))
    (λj2 x d=>SG st d/\∃na nb out g f bc,x=(none,na,nb,out,g,f,bc)/\MHS N a b out na nb/\j+2<=out.size) (Xh _) %[c,_,_,_,_,_,_,rfl,m|e] ?_ ?_) ?_)
   .rintro j2 x i _ l ⟨c,na,nb,out,g,f,bc,rfl,m,e⟩;unfold hiG;rw[<-apply_ite (hi1 _ _ _ _ _ _ _)];exact Dm (z:=j+2) (C.of c) m ⋯ (λd r o sg h=>%[SG.trans c sg|.inl %[r,o,rfl|h]]) λd na nb out g k k1 sg h z=>%[%[SG.trans c sg|.inr %[_,_,_,_,_,_,rfl,h|z]],SG.trans c sg,_,_,_,_,_,_,rfl,h|z]
   .rintro x i ⟨c,na,nb,out,g,f,bc,rfl,m,e⟩;exact%[c|.inr %[_,_,_,_,_,_,rfl,m|⋯]]
   .rintro x i ⟨c,⟨r,o,rfl,n⟩|⟨na,nb,out,g,f,bc,rfl,m,e⟩⟩
    .exact ao (p _ r _ c n)
    .exact aj (bN (ao (s _ _ _ _ _ (c.set _) m e)))
theorem ur{D:Keyed->Prop}{N:Keyed->Nat}{a b:Array Keyed}{Q:Array Keyed->SortSt->Prop}{st:SortSt}(c:Cmp prog w A SI (kindOf st) D N)(s:Srt N a.toList)(v:Srt N b.toList)(T:∀x∈a.toList,D x)(U:∀x∈b.toList,D x)
 (ha:1<=a.size) (hb:1<=b.size) (Y:∀x y,b.toList[0]? =some x->a.toList[0]? =some y->N x<=N y) (hl:∀y∈b.toList,∀x∈a.toList.drop (a.size-1),N y<=N x)
 (h:∀r d,SG st d->cr N a.toList b.toList r.toList->Q r d):(SC prog w A SI) (mT a b) Q st:=by
 have DA:∀{i:Nat} (hi:i<a.size),D a[i]:=λhi=>T _ ∅
 have DB:∀{i:Nat} (hi:i<b.size),D b[i]:=λhi=>U _ ∅
 have I:∀(out:Array Keyed) (na nb:Nat),MH N a.toList b.toList out.reverse.toList na nb->(na=0\/nb=0)->cr N a.toList b.toList (a.extract 0 na++b.extract 0 nb++out.reverse).toList:=λout na nb m q=>by
  rw[Xg,Xg,Bb,Bb];refine m.done s v λx B y t=>?_
  rcases q with q|q
  .obtain⟨j,J,_⟩:=bC B
   lia
  .obtain⟨j,J,_⟩:=bC t
   lia
 have L:∀(out:Array Keyed) (na nb:Nat),MH N a.toList b.toList out.reverse.toList na nb->nb=1->cr N a.toList b.toList (b.extract 0 nb++a.extract 0 na++out.reverse).toList:=λout na nb m q=>by
  rw[Xg,Xg,Bb,Bb];refine m.first s v λy t x B=>?_
  obtain⟨j,J,h2,e⟩:=bC t;obtain⟨i,_,h4,e'⟩:=bC B;have j0:j=0:=by lia
  subst j0;obtain⟨M,f⟩:=aU (a:=a) (i:=0) ⋯;exact Yj (Y _ _ e f) (s.le (Xh _) f e')
 rw[ER];refine aj (gO ?_);obtain⟨l,C⟩:∃l,a.size=l+1:=%[a.size-1|⋯]
 obtain⟨M,f⟩:=aU (a:=a) (i:=l) ⋯;rw[show a.size-1=l by lia];refine aj (bn M ?_);have E:MH N a.toList b.toList #[a[l]].reverse.toList l b.size:=by
  have z:=MH.zero N a.toList b.toList;rw[Zb,Zb,C]at z;exact z.oneA s f λy t=>hl y (X1 t) _ (by
   rw[show a.size-1=l by lia];exact Z8 (i:=0) (by rw[Yc];exact f))
 by_cases G:l=0
 .rw[if_pos (by simp[G])];exact ao (h _ st (SG.refl _) (I _ _ _ E (.inl G)))
 rw[if_neg (by simp[G])];by_cases H:b.size=1
 .rw[if_pos (by simp[H])];exact ao (h _ st (SG.refl _) (L _ _ _ E H))
 rw[if_neg (by simp[H])];refine aj (d9 ?_);refine aj (be (aO (Q:=λx d=>SG st d/\∃r,x.1=some r/\cr N a.toList b.toList r.toList)
  (λj x d=>SG st d/\∃na nb out g,x=(none,na,nb,out,g)/\MHS N a b out na nb/\j+1<=out.size) (Xh _) %[SG.refl _,_,_,_,_,rfl,%[E,⋯,⋯,⋯|⋯]|Zi _] ?_ ?_) ?_)
 .rintro j x n _ hj ⟨sg,na,nb,out,g,rfl,m,u⟩;exact Dp (HC.of %[c,s,v,DA,DB,I|L] sg) m u (λd r o p h=>%[SG.trans sg p,r,rfl|h]) λd na nb out g p h z=>%[SG.trans sg p,_,_,_,_,rfl,h|z]
 .rintro x n ⟨sg,na,nb,out,g,rfl,m,u⟩;have:=m.pa;have:=m.pb;have:=m.ma;have:=m.mb;have q:=m.mh.perm.length_eq;simp only[Z9,Yo,Zb,Array.size_reverse]at q
  lia
 .rintro x n ⟨sg,r,O,gd⟩;obtain⟨x1,x2⟩:=x;dsimp only at O;subst O;exact ao (h r n sg gd)
end
end SBig
namespace SBig
open PySem PyProof.Rows
theorem rT(i:Nat):mergeAt' i=(do
 let s<-get
 let(some (b,na,c),some (d,nb,_)):=((pendingOf s)[i]?,(pendingOf s)[i+1]?)|unsupported "internal:list.sort.pending"
 set (setPending s (((pendingOf s).setIfInBounds i (b,na+nb,c)).eraseIdxIfInBounds (i+1)))
 let some k<-fF false (<-elem' (arrOf s) d) (arrOf s) b na 0|return false
 let(b,na):=(b+k,na-k)
 if na==0 then return true
 let some nb<-fF true (<-elem' (arrOf s) (b+na-1)) (arrOf s) d nb (nb-1)|return false
 if nb==0 then return true
 let x:=(arrOf s).extract b d
 let y:=(arrOf s).extract d (d+nb)
 let merged<-if na<=nb then mS x y else mT x y
 modify λs=>setArr s (merged.toList.zipIdx.foldl (λa (p,j)=>a.setIfInBounds (b+j) p) (arrOf s))
 return (failedOf (<-get)).isNone):=rfl
theorem rV:∀(m:List Keyed) (c o:Nat) (a:Array Keyed),o+c+m.length<=a.size->
 ((m.zipIdx c).foldl (λ(a:Array Keyed) (p:Keyed×Nat)=>a.setIfInBounds (o+p.2) p.1) a).toList=a.toList.take (o+c) ++m++a.toList.drop (o+c+m.length)
 |[],c,o,a,_=>by simp
 | x::m,c,o,a,h=>by
   rw[List.zipIdx_cons,Y9];rw[Zr]at h;rw[rV m (c+1) o _ (by rw[Array.size_setIfInBounds];lia),Array.toList_setIfInBounds];have b:o+c<a.toList.length:=by rw[Zb];lia
   rw[Zr,List.take_set,List.drop_set];rw[show o+(c+1)=o+c+1 by lia,show o+c+1+m.length=o+c+(m.length+1) by lia];rw[if_pos ⋯];have e:(a.toList.take (o+c+1)).set (o+c) x=a.toList.take (o+c) ++[x]:=by
    rw[List.take_succ_eq_append_getElem b];rw[List.set_append_right _ _ (by rw[Yo];lia)];rw[Yo,X2 ⋯,sub_self];rfl
   rw[e];simp
section
variable{prog:Program}{w:World}{A:Around}{SI:Shared->Prop}{α β:Type}
theorem ut{D:Keyed->Prop}{N:Keyed->Nat}{i p p2:Nat}{b X Y L2:List Keyed}{Q:Bool->SortSt->Prop}{st:SortSt}(c:Cmp prog w A SI (kindOf st) D N)(e:(arrOf st).toList=b++X++Y++L2)(M:Srt N X)(O:Srt N Y)(nX:X≠[])(nY:Y≠[])
 (dX:∀x∈X,D x) (dY:∀x∈Y,D x) (hp:(pendingOf st)[i]? =some (b.length,X.length,p)) (as:(pendingOf st)[i+1]? =some (b.length+X.length,Y.length,p2)) (hf:failedOf st=none)
 (h:∀Z t,Srt N Z->Z.Perm (X++Y)->(arrOf t).toList=b++Z++L2->kindOf t=kindOf st->failedOf t=none->pendingOf t=((pendingOf st).setIfInBounds i (b.length,X.length+Y.length,p)).eraseIdxIfInBounds (i+1)->Q true t):(SC prog w A SI) (mergeAt' i) Q st:=by
 have lX:0<X.length:=length_pos_iff.mpr nX;have lY:0<Y.length:=length_pos_iff.mpr nY;have sz:(arrOf st).size=b.length+X.length+Y.length+L2.length:=by
  rw[<-Zb,e];simp only[Z9]
 have E:∀(j:Nat) (d:j<X.length),(arrOf st)[b.length+j]? =some X[j]:=λj d=>by
  have:(arrOf st).toList[b.length+j]? =some X[j]:=by
   rw[e,Ze,Ze,Yb ⋯,Zw,Ya d];simp[d]
  simpa using this
 have G:∀(j:Nat) (d:j<Y.length),(arrOf st)[b.length+X.length+j]? =some Y[j]:=λj d=>by
  have:(arrOf st).toList[b.length+X.length+j]? =some Y[j]:=by
   rw[e,Ze,Yb (by rw[Z9];lia),Z9,Zw,Ya d];simp[d]
  simpa using this
 have DX:∀(j:Nat) (d:j<X.length),D X[j]:=λj d=>dX _ (Yf d)
 have DY:∀(j:Nat) (d:j<Y.length),D Y[j]:=λj d=>dY _ (Yf d)
 have u:∀(i j:Nat) (hi:i<=j) (d:j<X.length),N (X[i]'⋯)<=N X[j]:=λi j hi d=>M.le hi ∅ ∅
 have z:∀(i j:Nat) (hi:i<=j) (d:j<Y.length),N (Y[i]'⋯)<=N Y[j]:=λi j hi d=>O.le hi ∅ ∅
 rw[rT];refine aj (d9 ?_);rw[hp,as];dsimp only;refine aj (Di ?_);have eb:=G 0 lY;rw[add_zero]at eb;refine aj (bn eb ?_);refine aj (eP c (DY 0 lY) (λi hi=>%[_,E i hi|DX i hi]) (λi=>cc N false Y[0] (X.getD i Y[0])) (λi x hi f=>by
  rw[E i hi]at f;cases f;rw[Zc,Z4 hi];rfl) (λi j H d I=>?_) lX λk hk p1 p2=>?_)
 .rw[Zc,Z4 d]at I;rw[Zc,Z4 ⋯];have:=u i j H d;unfold cc at I ⊢;simp only[Y2,if_false,Bool.not_eq_true',decide_eq_false_iff_not,getD_some]at I ⊢
  lia
 have g1:∀(j:Nat) (d:j<X.length),j<k->N X[j]<=N Y[0]:=λj d m=>by
  have:=p1 j m;rw[Zc,Z4 d]at this;unfold cc at this;simpa using this
 have g2:∀(j:Nat) (d:j<X.length),k<=j->N Y[0]<N X[j]:=λj d m=>by
  have:=p2 j m d;rw[Zc,Z4 d]at this;unfold cc at this;simpa using this
 dsimp only;by_cases q1:X.length-k=0
 .rw[if_pos (by simp[q1])];refine ao (h (X++Y) _ (pairwise_append.mpr %[M,O|λx f y n=>?_]) (List.Perm.refl _) (by show(arrOf st).toList=_;rw[e];simp) rfl hf rfl);obtain⟨j,d,rfl⟩:=Yg f;obtain⟨o,l,rfl⟩:=Yg n;exact Yj (g1 j d ⋯) (z 0 o (Xh _) l)
 rw[if_neg (by simpa using q1)];have el:=E (X.length-1) ⋯;rw[show b.length+k+(X.length-k) -1=b.length+(X.length-1) by lia];refine aj (bn el ?_);refine aj (eP c (DX _ ⋯) (λi hi=>%[_,G i hi|DY i hi]) (λi=>cc N true (X[X.length-1]'⋯) (Y.getD i Y[0])) (λi x hi f=>by
  rw[G i hi]at f;cases f;rw[Zc,Z4 hi];rfl) (λi j H d I=>?_) ⋯ λk2 T p3 p4=>?_)
 .rw[Zc,Z4 d]at I;rw[Zc,Z4 ⋯];have:=z i j H d;unfold cc at I ⊢;simp only[if_true,decide_eq_true_eq,getD_some]at I ⊢
  lia
 have g3:∀(j:Nat) (d:j<Y.length),j<k2->N Y[j]<N (X[X.length-1]'⋯):=λj d m=>by
  have:=p3 j m;rw[Zc,Z4 d]at this;unfold cc at this;simpa using this
 have g4:∀(j:Nat) (d:j<Y.length),k2<=j->N (X[X.length-1]'⋯)<=N Y[j]:=λj d m=>by
  have:=p4 j m d;rw[Zc,Z4 d]at this;unfold cc at this;simpa using this
 dsimp only;by_cases q2:k2=0
 .rw[if_pos (by simp[q2])];refine ao (h (X++Y) _ (pairwise_append.mpr %[M,O|λx f y n=>?_]) (List.Perm.refl _) (by show(arrOf st).toList=_;rw[e];simp) rfl hf rfl);obtain⟨j,d,rfl⟩:=Yg f;obtain⟨o,l,rfl⟩:=Yg n;exact Yj (u j (X.length-1) ⋯ ⋯) (g4 o l ⋯)
 rw[if_neg (by simpa using q2)];have ex:((arrOf st).extract (b.length+k) (b.length+X.length)).toList=X.drop k:=by
  rw[iM,e,Ze,Ze,List.drop_append,drop_of_length_le ⋯,nil_append,Zw,List.drop_append_of_le_length ⋯,Xf (by rw[Yk];lia),Zn (by rw[Yk];lia)]
 have L:((arrOf st).extract (b.length+X.length) (b.length+X.length+k2)).toList=Y.take k2:=by
  rw[qt,e,Ze,List.drop_append,drop_of_length_le (by rw[Z9];lia),nil_append,Z9,sub_self,drop_zero,Xf ⋯]
 have sx:((arrOf st).extract (b.length+k) (b.length+X.length)).size=X.length-k:=by rw[<-Zb,ex,Yk]
 have sy:((arrOf st).extract (b.length+X.length) (b.length+X.length+k2)).size=k2:=by rw[<-Zb,L,Yo,X2 T]
 have a0:∀(r:Array Keyed) (g:SortSt),SG (setPending st (((pendingOf st).setIfInBounds i (b.length,X.length+Y.length,p)).eraseIdxIfInBounds (i+1))) g->cr N (X.drop k) (Y.take k2) r.toList->
  (SC prog w A SI) (do modify (λs=>setArr s (r.toList.zipIdx.foldl (λa (p,j)=>a.setIfInBounds (b.length+k+j) p) (arrOf s)));let x<-get;pure (failedOf x).isNone) Q g:=λr g sg J=>by
  refine aj (bN (aj (d9 (ao ?_))));have U:failedOf g=none:=by rw[sg.2.2.2];exact hf
  show Q (failedOf g).isNone _;rw[U];have lr:r.toList.length=(X.length-k) +k2:=by
   rw[J.2.length_eq,Z9,Yk,Yo,X2 T]
  refine h (X.take k++r.toList++Y.drop k2) _ ?_ ?_ ?_ sg.1 U sg.2.2.1
  .have mem:∀y∈r.toList,(∃(j:Nat) (d:j<X.length),k<=j/\y=X[j])\/∃(j:Nat) (d:j<Y.length),j<k2/\y=Y[j]:=λy n=>by
    rcases Xp (J.2.mem_iff.mp n)with q|q
    .obtain⟨j,v,h2,e⟩:=bV q;obtain⟨d,e⟩:=Xo e;exact .inl %[j,d,v|e.symm]
    .obtain⟨j,v,h2,e⟩:=bC q;obtain⟨d,e⟩:=Xo e;exact .inr %[j,d,v|e.symm]
   refine pairwise_append.mpr %[pairwise_append.mpr %[M.take k,J.1|λx f y n=>?_],O.drop k2|λx f y n=>?_]
   .obtain⟨j,v,h2,e⟩:=bC f;obtain⟨d,rfl⟩:=Xo e;rcases mem y n with⟨o,l,h3,rfl⟩|⟨o,l,h3,rfl⟩
    .exact u j o ⋯ l
    .exact Yj (g1 j d v) (z 0 o (Xh _) l)
   .obtain⟨j,v,h2,e⟩:=bV n;obtain⟨d,rfl⟩:=Xo e;rcases Xp f with f|f
    .obtain⟨o,h3,h4,e'⟩:=bC f;obtain⟨l,rfl⟩:=Xo e';exact Yj (u o (X.length-1) ⋯ ⋯) (g4 j d v)
    .rcases mem x f with⟨o,l,h3,rfl⟩|⟨o,l,h3,rfl⟩
     .exact Yj (u o (X.length-1) ⋯ ⋯) (g4 j d v)
     .exact z o j ⋯ d
  .have p1:(X.take k++r.toList++Y.drop k2).Perm (X.take k++(X.drop k++Y.take k2) ++Y.drop k2):=Xn _ (List.Perm.append_left _ J.2);refine p1.trans ?_;rw[<-Ze,Xe,Ze,Xe]
  .show(setArr g _|>arrOf).toList=_;have ab:arrOf g=arrOf st:=sg.2.1;show((r.toList.zipIdx).foldl (λ(a:Array Keyed) (p:Keyed×Nat)=>a.setIfInBounds (b.length+k+p.2) p.1) (arrOf g)).toList=_;rw[rV _ 0 _ _ (by rw[lr,ab,sz];lia),ab,e,lr];have t1:(b++X++Y++L2).take (b.length+k+0)=b++X.take k:=by
    rw[add_zero,Ze,Ze,List.take_append,Zn ⋯,Zw,Xf ⋯]
   have t2:(b++X++Y++L2).drop (b.length+k+0+(X.length-k+k2))=Y.drop k2++L2:=by
    rw[show b.length+k+0+(X.length-k+k2)=(b++X).length+k2 by rw[Z9];lia,Ze,List.drop_append,drop_of_length_le ⋯,nil_append,Zw,List.drop_append_of_le_length ⋯]
   rw[t1,t2];simp
 have B:∀x y,((arrOf st).extract (b.length+X.length) (b.length+X.length+k2)).toList[0]? =some x->((arrOf st).extract (b.length+k) (b.length+X.length)).toList[0]? =some y->N x<=N y:=λx y f n=>by
  rw[L,Yd,if_pos ⋯,Z4 lY]at f;rw[ex,Yc,Z4 (by omega)]at n;cases f;cases n;exact Yh (g2 _ ⋯ ⋯)
 have C:∀y∈((arrOf st).extract (b.length+X.length) (b.length+X.length+k2)).toList,∀x∈((arrOf st).extract (b.length+k) (b.length+X.length)).toList.drop (((arrOf st).extract (b.length+k) (b.length+X.length)).size-1),N y<=N x:=λy n x f=>by
  rw[L]at n;rw[sx,ex,drop_drop]at f;obtain⟨j,v,h2,e1⟩:=bC n;obtain⟨d,rfl⟩:=Xo e1;obtain⟨o,h3,h4,e2⟩:=bV f;obtain⟨l,rfl⟩:=Xo e2;have:o=X.length-1:=by lia
  subst this;exact Yh (g3 j d v)
 have ac:Srt N ((arrOf st).extract (b.length+k) (b.length+X.length)).toList:=by rw[ex];exact M.drop k
 have ag:Srt N ((arrOf st).extract (b.length+X.length) (b.length+X.length+k2)).toList:=by rw[L];exact O.take k2
 have al:∀x∈((arrOf st).extract (b.length+k) (b.length+X.length)).toList,D x:=λx f=>dX x (by rw[ex]at f;exact Yz f)
 have an:∀x∈((arrOf st).extract (b.length+X.length) (b.length+X.length+k2)).toList,D x:=λx f=>dY x (by rw[L]at f;exact X1 f)
 have gg:∀(r:Array Keyed) (g:SortSt),SG (setPending st (((pendingOf st).setIfInBounds i (b.length,X.length+Y.length,p)).eraseIdxIfInBounds (i+1))) g->cr N ((arrOf st).extract (b.length+k) (b.length+X.length)).toList ((arrOf st).extract (b.length+X.length) (b.length+X.length+k2)).toList r.toList->
  (SC prog w A SI) (do modify (λs=>setArr s (r.toList.zipIdx.foldl (λa (p,j)=>a.setIfInBounds (b.length+k+j) p) (arrOf s)));let x<-get;pure (failedOf x).isNone) Q g:=λr g sg J=>a0 r g sg (by rw[ex,L]at J;exact J)
 by_cases q3:X.length-k<=k2
 .rw[if_pos q3];exact aj (uq c ac ag al an (by rw[sx];lia) (by rw[sy];lia) B C gg)
 .rw[if_neg q3];exact aj (ur c ac ag al an (by rw[sx];lia) (by rw[sy];lia) B C gg)
end
end SBig
namespace SBig
open PySem PyProof.Rows
noncomputable def ky(N:Keyed->Nat)(a:Array Keyed)(i:Nat):Nat:=N (a.getD i (Value.none,Value.none))
theorem za(h:a[i]? =some x):ky N a i=N x:=by
 unfold ky
 simp_all
theorem rW(h:a[i]? =b[j]?):ky N a i=ky N b j:=by
 unfold ky
 simp_all
structure CR (st0 st:SortSt) (lo:Nat):Prop where
 kind:kindOf st=kindOf st0
 pend:pendingOf st=pendingOf st0
 fail:failedOf st=failedOf st0
 perm:(arrOf st).Perm (arrOf st0)
 same:∀i,i<lo->(arrOf st)[i]? =(arrOf st0)[i]?
theorem CR.refl(st:SortSt)(lo:Nat):CR st st lo:=%[rfl,rfl,rfl,Array.Perm.refl _|λ_ _=>rfl]
theorem CR.size{a st:SortSt}{lo:Nat}(h:CR a st lo):(arrOf st).size=(arrOf a).size:=h.perm.size_eq
theorem CR.rev{a st:SortSt}{lo i j:Nat}(h:CR a st lo)(hi:lo<=i)(b:j<=(arrOf st).size):CR a (setArr st (mirror (arrOf st) i j ((j-i)/2))) lo:=
 %[h.kind,h.pend,h.fail,(mirror_perm _ _ _ _).trans h.perm|λk c=>by
  rw[getElem?_mirror_all b,if_neg ⋯];exact h.same k c]
theorem uu(b:j<=a.size)(k:Nat):ky N (mirror a i j ((j-i)/2)) k=if i<=k/\k<j then ky N a (i+j-1-k)else ky N a k:=by
 split
 .rename_i h
  exact rW (by rw[getElem?_mirror_all b,if_pos h])
 .rename_i h
  exact rW (by rw[getElem?_mirror_all b,if_neg h])
def Up(N:Keyed->Nat)(a:Array Keyed)(lo n:Nat):Prop:=∀i j,i<=j->j<n->ky N a (lo+i)<=ky N a (lo+j)
def Dn(N:Keyed->Nat)(a:Array Keyed)(lo n:Nat):Prop:=∀i j,i<=j->j<n->ky N a (lo+j)<=ky N a (lo+i)
theorem Up.one(N:Keyed->Nat)(a:Array Keyed)(lo:Nat):Up N a lo 1:=λi j b c=>by
 simp_all
theorem Up.step{lo n:Nat}(h:Up N a lo n)(d:1<=n)(f: ¬ ky N a (lo+n)<ky N a (lo+n-1)):Up N a lo (n+1):=λi j b g=>by
 by_cases e:j=n
 .subst e;by_cases c:i=j
  .exact c▸Zi _
  .have:=h i (j-1) ⋯ ⋯;rw[show lo+(j-1)=lo+j-1 by lia]at this
   lia
 .exact h i j b ⋯
theorem Dn.step{lo n:Nat}(h:Dn N a lo n)(d:1<=n)(f:ky N a (lo+n)<=ky N a (lo+n-1)):Dn N a lo (n+1):=λi j b g=>by
 by_cases e:j=n
 .subst e;by_cases c:i=j
  .exact c▸Zi _
  .have:=h i (j-1) ⋯ ⋯;rw[show lo+(j-1)=lo+j-1 by lia]at this
   lia
 .exact h i j b ⋯
theorem Dn.rev{lo n:Nat}(h:Dn N a lo n)(b:lo+n<=a.size):Up N (mirror a lo (lo+n) ((lo+n-lo)/2)) lo n:=λi j c d=>by
 rw[uu b,uu b,if_pos ⋯,if_pos ⋯];have:=h (n-1-j) (n-1-i) ⋯ ⋯
 grind
theorem Dn.same{lo n i j:Nat}(h:Dn N a lo n)(d:j<=a.size)(g:∀k b,i<=k->k<j->i<=b->b<j->ky N a k=ky N a b):Dn N (mirror a i j ((j-i)/2)) lo n:=by
 have e:∀k,ky N (mirror a i j _) k=ky N a k:=λk=>by
  rw[uu d]
  grind
 intro p q c f;rw[e,e];exact h p q c f
section
variable{prog:Program}{w:World}{A:Around}{SI:Shared->Prop}{α β:Type}
theorem eY{i j lo:Nat}{a st:SortSt}(c:Cmp prog w A SI (kindOf a) D N)(d:∀x∈(arrOf a).toList,D x)(r:CR a st lo)(hi:i<(arrOf a).size)(m:j<(arrOf a).size)
 (h:Q (some (decide (ky N (arrOf st) i<ky N (arrOf st) j))) st):(SC prog w A SI) (ltAt' i j) Q st:=by
 have f:=λx n=>d x ((Array.perm_iff_toList_perm.mp r.perm).mem_iff.mp n)
 have b:i<(arrOf st).size:=r.size▸hi;have e:j<(arrOf st).size:=r.size▸m;obtain⟨g,o⟩:=aU b;obtain⟨l,p⟩:=aU e;refine Ba (r.kind▸c) g l (f _ ∅) (f _ ∅) ?_;rw[za g,za l]at h;exact h
theorem gP{st:SortSt}(h:Q () (setArr st (mirror (arrOf st) i j ((j-i)/2)))):(SC prog w A SI) (reverseSlice' i j) Q st:=by
 exact bN h
theorem rX{lo nrem:Nat}{st:SortSt}(c:Cmp prog w A SI (kindOf st) D N)(d:∀x∈(arrOf st).toList,D x)(T:1<=nrem)(U:lo+nrem<=(arrOf st).size)
 (h:∀n a,CR st a lo->1<=n->n<=nrem->Up N (arrOf a) lo n->Q (some n) a):(SC prog w A SI) (countRun' lo nrem) Q st:=by
 rw[countRun'_eq];refine aj (be (aO (Q:=λx a=>a=st/\∃n,x=(none,n)/\1<=n/\n<=nrem/\Up N (arrOf st) lo n/\(n=nrem\/ky N (arrOf st) (lo+n)<ky N (arrOf st) (lo+n-1)))
  (λj x a=>a=st/\x=(none,j)/\Up N (arrOf st) lo j) T %[rfl,rfl|Up.one _ _ _] ?_ ?_) ?_)
 .rintro j x a v H ⟨rfl,rfl,up⟩;dsimp only;refine aj (eY c d (CR.refl _ lo) ⋯ ⋯ ?_);dsimp only;by_cases q:ky N (arrOf a) (lo+j)<ky N (arrOf a) (lo+j-1)
  .rw[Zf q,if_pos rfl];exact ao %[rfl,j,rfl,v,⋯,up|.inr q]
  .rw[Zh q,if_neg ∅];exact ao %[rfl,rfl|up.step v q]
 .rintro x a ⟨rfl,rfl,up⟩;exact%[rfl,nrem,rfl,T,Zi _,up|.inl rfl]
 .rintro x f ⟨e1,n,rfl,n1,n2,up,hq⟩;subst e1;dsimp only;by_cases q1:n=nrem
  .rw[if_pos (by simp[q1])];exact ao (h n f (CR.refl _ _) n1 n2 up)
  rw[if_neg (by simp[q1])];have hq:ky N (arrOf f) (lo+n)<ky N (arrOf f) (lo+n-1):=hq.resolve_left q1;have n3:n<nrem:=by lia
  by_cases q2:n>1
  .rw[if_pos q2];refine aj (eY c d (CR.refl _ lo) ⋯ ⋯ ?_);dsimp only;by_cases q3:ky N (arrOf f) lo<ky N (arrOf f) (lo+n-1)
   .rw[Zf q3,if_pos rfl];exact ao (h n f (CR.refl _ _) n1 n2 up)
   .rw[Zh q3,if_neg ∅];refine aj (gP ?_);have r2:=(CR.refl f lo).rev (i:=lo) (j:=lo+n) (Zi _) ⋯;have all:∀i,i<n->ky N (arrOf f) (lo+i)=ky N (arrOf f) lo:=λi hi=>by
     have B:=up 0 i (Xh _) hi;have C:=up i (n-1) ⋯ ⋯;rw[show lo+(n-1)=lo+n-1 by lia]at C;rw[add_zero]at B
     lia
    have ab:Dn N (arrOf f) lo n:=λi j ac H=>by rw[all i ⋯,all j H];exact Zi _
    have ag:Dn N (arrOf f) lo (n+1):=ab.step n1 ⋯;have J:=ag.same (i:=lo) (j:=lo+n) ⋯ (λk p B C I G=>by
     have b1:=all (k-lo) ⋯;have b2:=all (p-lo) ⋯;rw[show lo+(k-lo)=k by lia]at b1;rw[show lo+(p-lo)=p by lia]at b2;rw[b1,b2])
    refine aj (gO ?_);refine aj (be (aO (Q:=λx a=>CR f a lo/\∃m q,x=(none,m,q)/\q+1<=m/\m<=nrem/\Dn N (arrOf a) lo m/\(∀k p,lo+m-(q+1)<=k->k<lo+m->lo+m-(q+1)<=p->p<lo+m->ky N (arrOf a) k=ky N (arrOf a) p))
     (λj x a=>CR f a lo/\∃q,x=(none,j,q)/\q+1<=j/\Dn N (arrOf a) lo j/\(∀k p,lo+j-(q+1)<=k->k<lo+j->lo+j-(q+1)<=p->p<lo+j->ky N (arrOf a) k=ky N (arrOf a) p)) ⋯ %[r2,0,rfl,⋯,J|λk p B C I G=>by rw[show k=p by lia]] ?_ ?_) ?_)
    .rintro j x g v H ⟨r,q,rfl,y,o,s⟩;dsimp only;refine aj (eY c d r ⋯ ⋯ ?_);dsimp only;by_cases U:ky N (arrOf g) (lo+j)<ky N (arrOf g) (lo+j-1)
     .rw[Zf U,if_pos rfl];by_cases u:q>0
      .rw[if_pos u];refine aj (gP (ao %[r.rev ⋯ (by rw[r.size];lia),0,rfl,⋯,?_|λk p B C I G=>by rw[show k=p by lia]]));have E:Dn N (arrOf g) lo (j+1):=o.step ⋯ ⋯;exact E.same (by rw[r.size];lia) s
      .rw[if_neg u];exact ao %[r,0,rfl,⋯,o.step ⋯ ⋯|λk p B C I G=>by rw[show k=p by lia]]
     .rw[Zh U,if_neg ∅];refine aj (eY c d r ⋯ ⋯ ?_);dsimp only;by_cases Y:ky N (arrOf g) (lo+j-1)<ky N (arrOf g) (lo+j)
      .rw[Zf Y,if_pos rfl];exact ao %[r,j,q,rfl,y,⋯,o|s]
      .rw[Zh Y,if_neg ∅];have ee:ky N (arrOf g) (lo+j)=ky N (arrOf g) (lo+j-1):=by lia
       have all:∀k,lo+j-(q+1)<=k->k<lo+(j+1)->ky N (arrOf g) k=ky N (arrOf g) (lo+j-1):=λk B C=>by
        by_cases e:k=lo+j
        .rw[e];exact ee
        .exact s _ _ B ⋯ ⋯ ⋯
       exact ao %[r,q+1,rfl,⋯,o.step ⋯ ⋯|λk p B C I G=>(all k ⋯ C).trans (all p ⋯ G).symm]
    .rintro x g ⟨r,q,rfl,y,o,s⟩;exact%[r,nrem,q,rfl,y,Zi _,o|s]
    .rintro x g ⟨r,m,q,rfl,al,hm,o,s⟩;dsimp only;by_cases u:q>0
     .rw[if_pos u];refine aj (gP ?_);have L:=r.rev (i:=lo+m-(q+1)) (j:=lo+m) ⋯ (by rw[r.size];lia);have E:=o.same (i:=lo+m-(q+1)) (j:=lo+m) (by rw[r.size];lia) s;refine aj (gP ?_);have M:=(L).rev (i:=lo) (j:=lo+m) (Zi _) (by rw[(L).size];lia);have z:=(E).rev (by rw[(L).size];lia);refine aj (be (aO (Q:=λx a=>CR f a lo/\∃n,x=(none,n)/\1<=n/\n<=nrem/\Up N (arrOf a) lo n)
       (λj x a=>CR f a lo/\x=(none,j)/\Up N (arrOf a) lo j) ⋯ %[M,rfl|z] ?_ ?_) ?_)
      .rintro j x l v H ⟨t,rfl,b⟩;dsimp only;refine aj (eY c d t ⋯ ⋯ ?_);dsimp only;by_cases q:ky N (arrOf l) (lo+j)<ky N (arrOf l) (lo+j-1)
       .rw[Zf q,if_pos rfl];exact ao %[t,j,rfl,⋯,⋯|b]
       .rw[Zh q,if_neg ∅];exact ao %[t,rfl|b.step ⋯ q]
      .rintro x l ⟨t,rfl,b⟩;exact%[t,nrem,rfl,T,Zi _|b]
      .rintro x l ⟨t,m,rfl,O,m2,b⟩;exact ao (h m l t O m2 b)
     .rw[if_neg u];refine aj (gP ?_);have M:=(r).rev (i:=lo) (j:=lo+m) (Zi _) (by rw[(r).size];lia);have z:=(o).rev (by rw[(r).size];lia);refine aj (be (aO (Q:=λx a=>CR f a lo/\∃n,x=(none,n)/\1<=n/\n<=nrem/\Up N (arrOf a) lo n)
       (λj x a=>CR f a lo/\x=(none,j)/\Up N (arrOf a) lo j) ⋯ %[M,rfl|z] ?_ ?_) ?_)
      .rintro j x l v H ⟨t,rfl,b⟩;dsimp only;refine aj (eY c d t ⋯ ⋯ ?_);dsimp only;by_cases q:ky N (arrOf l) (lo+j)<ky N (arrOf l) (lo+j-1)
       .rw[Zf q,if_pos rfl];exact ao %[t,j,rfl,⋯,⋯|b]
       .rw[Zh q,if_neg ∅];exact ao %[t,rfl|b.step ⋯ q]
      .rintro x l ⟨t,rfl,b⟩;exact%[t,nrem,rfl,T,Zi _|b]
      .rintro x l ⟨t,m,rfl,O,m2,b⟩;exact ao (h m l t O m2 b)
  .rw[if_neg q2];have e1:n=1:=by lia
   have r2:=CR.refl f lo;have J:Dn N (arrOf f) lo (n+1):=by
    refine Dn.step (λi j ac H=>?_) n1 ⋯;rw[show i=j by lia];exact Zi _
   refine aj (gO ?_);refine aj (be (aO (Q:=λx a=>CR f a lo/\∃m q,x=(none,m,q)/\q+1<=m/\m<=nrem/\Dn N (arrOf a) lo m/\(∀k p,lo+m-(q+1)<=k->k<lo+m->lo+m-(q+1)<=p->p<lo+m->ky N (arrOf a) k=ky N (arrOf a) p))
    (λj x a=>CR f a lo/\∃q,x=(none,j,q)/\q+1<=j/\Dn N (arrOf a) lo j/\(∀k p,lo+j-(q+1)<=k->k<lo+j->lo+j-(q+1)<=p->p<lo+j->ky N (arrOf a) k=ky N (arrOf a) p)) ⋯ %[r2,0,rfl,⋯,J|λk p B C I G=>by rw[show k=p by lia]] ?_ ?_) ?_)
   .rintro j x g v H ⟨r,q,rfl,y,o,s⟩;dsimp only;refine aj (eY c d r ⋯ ⋯ ?_);dsimp only;by_cases U:ky N (arrOf g) (lo+j)<ky N (arrOf g) (lo+j-1)
    .rw[Zf U,if_pos rfl];by_cases u:q>0
     .rw[if_pos u];refine aj (gP (ao %[r.rev ⋯ (by rw[r.size];lia),0,rfl,⋯,?_|λk p B C I G=>by rw[show k=p by lia]]));have E:Dn N (arrOf g) lo (j+1):=o.step ⋯ ⋯;exact E.same (by rw[r.size];lia) s
     .rw[if_neg u];exact ao %[r,0,rfl,⋯,o.step ⋯ ⋯|λk p B C I G=>by rw[show k=p by lia]]
    .rw[Zh U,if_neg ∅];refine aj (eY c d r ⋯ ⋯ ?_);dsimp only;by_cases Y:ky N (arrOf g) (lo+j-1)<ky N (arrOf g) (lo+j)
     .rw[Zf Y,if_pos rfl];exact ao %[r,j,q,rfl,y,⋯,o|s]
     .rw[Zh Y,if_neg ∅];have ee:ky N (arrOf g) (lo+j)=ky N (arrOf g) (lo+j-1):=by lia
      have all:∀k,lo+j-(q+1)<=k->k<lo+(j+1)->ky N (arrOf g) k=ky N (arrOf g) (lo+j-1):=λk B C=>by
       by_cases e:k=lo+j
       .exact e▸ee
       .exact s _ _ B ⋯ ⋯ ⋯
      exact ao %[r,q+1,rfl,⋯,o.step ⋯ ⋯|λk p B C I G=>(all k ⋯ C).trans (all p ⋯ G).symm]
   .rintro x g ⟨r,q,rfl,y,o,s⟩;exact%[r,nrem,q,rfl,y,Zi _,o|s]
   .rintro x g ⟨r,m,q,rfl,al,hm,o,s⟩;dsimp only;by_cases u:q>0
    .rw[if_pos u];refine aj (gP ?_);have L:=r.rev (i:=lo+m-(q+1)) (j:=lo+m) ⋯ (by rw[r.size];lia);refine aj (gP ?_);have M:=(L).rev (i:=lo) (j:=lo+m) (Zi _) (by rw[(L).size];lia);have z:=((o.same (i:=lo+m-(q+1)) (j:=lo+m) (by rw[r.size];lia) s)).rev (by rw[(L).size];lia);refine aj (be (aO (Q:=λx a=>CR f a lo/\∃n,x=(none,n)/\1<=n/\n<=nrem/\Up N (arrOf a) lo n)
      (λj x a=>CR f a lo/\x=(none,j)/\Up N (arrOf a) lo j) ⋯ %[M,rfl|z] ?_ ?_) ?_)
     .rintro j x l v H ⟨t,rfl,b⟩;dsimp only;refine aj (eY c d t ⋯ ⋯ ?_);dsimp only;by_cases q:ky N (arrOf l) (lo+j)<ky N (arrOf l) (lo+j-1)
      .rw[Zf q,if_pos rfl];exact ao %[t,j,rfl,⋯,⋯|b]
      .rw[Zh q,if_neg ∅];exact ao %[t,rfl|b.step ⋯ q]
     .rintro x l ⟨t,rfl,b⟩;exact%[t,nrem,rfl,T,Zi _|b]
     .rintro x l ⟨t,m,rfl,O,m2,b⟩;exact ao (h m l t O m2 b)
    .rw[if_neg u];refine aj (gP ?_);have M:=(r).rev (i:=lo) (j:=lo+m) (Zi _) (by rw[(r).size];lia);have z:=(o).rev (by rw[(r).size];lia);refine aj (be (aO (Q:=λx a=>CR f a lo/\∃n,x=(none,n)/\1<=n/\n<=nrem/\Up N (arrOf a) lo n)
      (λj x a=>CR f a lo/\x=(none,j)/\Up N (arrOf a) lo j) ⋯ %[M,rfl|z] ?_ ?_) ?_)
     .rintro j x l v H ⟨t,rfl,b⟩;dsimp only;refine aj (eY c d t ⋯ ⋯ ?_);dsimp only;by_cases q:ky N (arrOf l) (lo+j)<ky N (arrOf l) (lo+j-1)
      .rw[Zf q,if_pos rfl];exact ao %[t,j,rfl,⋯,⋯|b]
      .rw[Zh q,if_neg ∅];exact ao %[t,rfl|b.step ⋯ q]
     .rintro x l ⟨t,rfl,b⟩;exact%[t,nrem,rfl,T,Zi _|b]
     .rintro x l ⟨t,m,rfl,O,m2,b⟩;exact ao (h m l t O m2 b)
end
end SBig
namespace SBig
open PySem PyProof.Rows
section
variable{prog:Program}{w:World}{A:Around}{SI:Shared->Prop}{α β:Type}
theorem CR.move{a st:SortSt}{lo k l:Nat}(h:CR a st lo)(b:lo+k<(arrOf st).size)(c:l<=k):CR a (setArr st (bubble (arrOf st) (lo+k) (lo+k-(lo+l)))) lo:=
 %[h.kind,h.pend,h.fail,(bubble_perm _ _ _).trans h.perm|λi hi=>by
  rw[getElem?_bubble b _ ⋯,if_neg ⋯,if_neg ⋯];exact h.same i hi]
theorem vy(f:b<a.size)(g:d<=b)(k:Nat):ky N (bubble a b d) k=if k=b-d then ky N a b else if b-d<k/\k<=b then ky N a (k-1)else ky N a k:=by
 by_cases c:k=b-d
 .rw[if_pos c];exact rW (by rw[getElem?_bubble f d g,if_pos c])
 .rw[if_neg c];by_cases e:b-d<k/\k<=b
  .rw[if_pos e];exact rW (by rw[getElem?_bubble f d g,if_neg c,if_pos e])
  .rw[if_neg e];exact rW (by rw[getElem?_bubble f d g,if_neg c,if_neg e])
theorem wL{lo n ok:Nat}{f st:SortSt}(c:Cmp prog w A SI (kindOf f) D N)(d:∀x∈(arrOf f).toList,D x)(r:CR f st lo)(M:1<=ok)(O:ok<=n)(hs:lo+n<=(arrOf f).size)(up:Up N (arrOf st) lo ok)
 (h:∀a,CR f a lo->Up N (arrOf a) lo n->Q true a):(SC prog w A SI) (binarySort' lo n ok) Q st:=by
 rw[binarySort'_eq];rw[show max ok 1=ok by lia];refine aj (be (aO (Q:=λx a=>x=(none,())/\CR f a lo/\Up N (arrOf a) lo n) (λk x a=>x=(none,())/\CR f a lo/\Up N (arrOf a) lo k) O %[rfl,r|up] ?_ ?_) ?_)
 .rintro k x b T hk ⟨rfl,m,up1⟩;dsimp only;have pv:∀i,i<k->lo+i<(arrOf f).size:=λi hi=>by lia
  refine aj (be (aO (Q:=λx a=>a=b/\∃l,x.1=none/\x.2.1=l/\l<=k/\(∀i,i<l->ky N (arrOf b) (lo+i)<=ky N (arrOf b) (lo+k))/\(∀i,l<=i->i<k->ky N (arrOf b) (lo+k)<ky N (arrOf b) (lo+i)))
   (λj x a=>a=b/\∃l q,x=(none,l,q)/\l<=q/\q<=k/\q-l<=k-j/\(∀i,i<l->ky N (arrOf b) (lo+i)<=ky N (arrOf b) (lo+k))/\(∀i,q<=i->i<k->ky N (arrOf b) (lo+k)<ky N (arrOf b) (lo+i))) (Xh _)
   %[rfl,0,k,rfl,⋯,⋯,⋯,λi hi=>absurd hi (X8 _)|λi M h2=>by lia] ?_ ?_) ?_)
  .rintro j x g _ U ⟨rfl,l,q,rfl,B,o,Y,s,t⟩;dsimp only;by_cases u:l>=q
   .rw[if_pos u];have e:l=q:=by lia
    subst e;exact ao %[rfl,l,rfl,rfl,o,s|t]
   .rw[if_neg u];refine aj (eY c d m ⋯ ⋯ ?_);dsimp only;by_cases p:ky N (arrOf g) (lo+k)<ky N (arrOf g) (lo+(l+q)/2)
    .rw[Zf p,if_pos rfl];exact ao %[rfl,l,_,rfl,⋯,⋯,⋯,s|λi v z=>Zg p (up1 _ _ v z)]
    .rw[Zh p,if_neg ∅];exact ao %[rfl,_,q,rfl,⋯,⋯,⋯,λi v=>Yj (up1 i ((l+q)/2) ⋯ ⋯) ⋯|t]
  .rintro x g ⟨rfl,l,q,rfl,B,o,Y,s,t⟩;have e:l=q:=by lia
   subst e;exact%[rfl,l,rfl,rfl,o,s|t]
  .rintro⟨x1,x2,x3⟩ g ⟨e2,l,G,H,C,s,t⟩;subst e2;dsimp only at G H;subst G H;dsimp only;rw[moveDown'_eq];refine aj (bN (ao %[rfl,m.move (by rw[m.size];lia) C|?_]));have y:lo+k<(arrOf g).size:=by rw[m.size];lia
   intro i j E U;rw[vy y ⋯,vy y ⋯];have ed:lo+k-(lo+k-(lo+x2))=lo+x2:=by lia
   rw[ed];by_cases v:lo+i=lo+x2
   .rw[if_pos v];by_cases z:lo+j=lo+x2
    .rw[if_pos z];exact Zi _
    .rw[if_neg z,if_pos ⋯];have:=t (j-1) ⋯ ⋯;rw[show lo+(j-1)=lo+j-1 by lia]at this
     lia
   .rw[if_neg v];by_cases I:lo+x2<lo+i/\lo+i<=lo+k
    .rw[if_pos I,if_neg ⋯,if_pos ⋯];have:=up1 (i-1) (j-1) ⋯ ⋯;rw[show lo+(j-1)=lo+j-1 by lia,show lo+(i-1)=lo+i-1 by lia]at this;exact this
    .rw[if_neg I];by_cases J:lo+j=lo+x2
     .rw[if_pos J];exact s i ⋯
     .rw[if_neg J];by_cases L:lo+x2<lo+j/\lo+j<=lo+k
      .rw[if_pos L];have:=up1 i (j-1) ⋯ ⋯;rw[show lo+(j-1)=lo+j-1 by lia]at this;exact this
      .rw[if_neg L];exact up1 i j E ⋯
 .rintro x b ⟨rfl,m,up1⟩;exact%[rfl,m|up1]
 .rintro x b ⟨rfl,m,up1⟩;exact ao (h b m up1)
end
end SBig
namespace SBig
open PySem PyProof.Rows
section
variable{prog:Program}{w:World}{A:Around}{SI:Shared->Prop}
end
end SBig
namespace SBig
open PySem PyProof.Rows
noncomputable def cT:List (List Keyed×Nat)->Nat->List (Nat×Nat×Nat)
 |[],_=>[]
 |(r,p)::t,o=>(o,r.length,p)::cT t (o+r.length)
noncomputable def aW(a:List (List Keyed×Nat)):List Keyed:=(a.map (·.1)).flatten
theorem bd(a b:List _):aW (a++b)=aW a++aW b:=by simp[aW]
theorem aB(a:List Keyed×Nat)(b:List _):aW (a::b)=a.1++aW b:=by simp[aW]
theorem cB:∀a b o,cT (a++b) o=cT a o++cT b (o+(aW a).length)
 |[],b,o=>by simp[cT,aW]
 |(r,p)::t,b,o=>by
  rw[cons_append,cT,cT,cB t b,aB,Z9,cons_append,Nat.add_assoc]
theorem df:∀a o,(cT a o).length=a.length
 |[],_=>rfl
 |(r,p)::t,o=>by rw[cT,Zr,Zr,df t]
structure RI (N:Keyed->Nat) (st0 st:SortSt) (rp:List (List Keyed×Nat)) (rest:List Keyed):Prop where
 kind:kindOf st=kindOf st0
 fail:failedOf st=none
 perm:(arrOf st).toList.Perm (arrOf st0).toList
 arr:(arrOf st).toList=aW rp++rest
 pend:(pendingOf st).toList=cT rp 0
 runs:∀r∈rp,r.1≠[]/\Srt N r.1
theorem RI.size{N:Keyed->Nat}{a st:SortSt}{b:List _}{rest:List Keyed}(h:RI N a st b rest):(arrOf st).size=(arrOf a).size:=by
 rw[<-Zb,<-Zb,h.perm.length_eq]
theorem RI.psize{N:Keyed->Nat}{a st:SortSt}{b:List _}{rest:List Keyed}(h:RI N a st b rest):(pendingOf st).size=b.length:=by
 rw[<-Zb,h.pend,df]
section
variable{prog:Program}{w:World}{A:Around}{SI:Shared->Prop}{α β:Type}
theorem gQ{D:Keyed->Prop}{N:Keyed->Nat}{f st:SortSt}{a b:List _}{X Y:List Keyed}{p o i:Nat}{rest:List Keyed}{Q:Bool->SortSt->Prop}(c:Cmp prog w A SI (kindOf f) D N)(d:∀x∈(arrOf f).toList,D x)
 (h:RI N f st (a++(X,p)::(Y,o)::b) rest) (hi:i=a.length) (k:∀Z g,RI N f g (a++(Z,p)::b) rest->Z.length=X.length+Y.length->Q true g):(SC prog w A SI) (mergeAt' i) Q st:=by
 subst hi;have e:=h.arr;rw[bd,aB,aB]at e;have m:(arrOf st).toList=aW a++X++Y++(aW b++rest):=by rw[e];simp
 have v:=λx j=>d x (h.perm.mem_iff.mp j)
 have n:=h.pend;rw[cB,cT,cT,zero_add]at n;have pl:=df a 0;have C:=by
  have:(pendingOf st).toList[a.length]? =some ((aW a).length,X.length,p):=by
   rw[n,Yb (by omega),pl,sub_self];rfl
  simpa using this
 have E:=by
  have:(pendingOf st).toList[a.length+1]? =some ((aW a).length+X.length,Y.length,o):=by
   rw[n,Yb (by omega),pl,Zw];rfl
  simpa using this
 have s:=h.runs (X,p) ∅;have y:=h.runs (Y,o) ∅;refine ut (by rw[h.kind];exact c) m s.2 y.2 s.1 y.1 (λx j=>v x (by rw[m];simp[j])) (λx j=>v x (by rw[m];simp[j])) C E h.fail λZ g G z B H I t=>?_
 have u:Z.length=X.length+Y.length:=by rw[z.length_eq,Z9]
 refine k Z g %[H.trans h.kind,I,?_,?_,?_|λr l=>?_] u
 .refine List.Perm.trans ?_ h.perm;rw[B,m];rw[show aW a++X++Y++(aW b++rest)=aW a++(X++Y) ++(aW b++rest) by simp];exact Xn _ (List.Perm.append_left _ z)
 .rw[B,bd,aB];simp
 .rw[t,Array.toList_eraseIdxIfInBounds,Array.toList_setIfInBounds,n,cB,cT,zero_add];rw[List.set_append_right _ _ (by omega),pl,sub_self,List.set_cons_zero];rw[List.eraseIdx_append_of_length_le (by omega),pl,Zw,List.eraseIdx_cons_succ,List.eraseIdx_cons_zero];rw[u,Nat.add_assoc]
 .rcases Xp l with l|l
  .exact h.runs r (Yw _ l)
  .rcases mem_cons.mp l with rfl|l
   .refine%[λq=>?_|G];have j:=length_pos_iff.mpr s.1;dsimp only at q j;rw[q,length_nil]at u;omega
   .exact h.runs r (by simp[l])
theorem wM{N:Keyed->Nat}{a:Array Keyed}{lo n:Nat}(h:Up N a lo n)(f:lo+n<=a.size):Srt N ((a.toList.drop lo).take n):=by
 refine List.pairwise_iff_getElem.mpr λi j hi c d=>?_
 have b:j<n:=by grind
 have g:∀i hi,i<n->N ((a.toList.drop lo).take n)[i]=ky N a (lo+i):=λi hi e=>by
  refine(za ?_).symm
  simp_all
 rw[g i hi (by omega),g j c b];exact h i j (by omega) b
theorem CR.toRI{N:Keyed->Nat}{d b a:SortSt}{f:List _}{rest:List Keyed}{lo n:Nat}(h:RI N d b f rest)(r:CR b a lo)(j:(aW f).length=lo)(up:Up N (arrOf a) lo n)(p:lo+n<=(arrOf b).size):
 ∃R c,RI N d a f (R++c)/\R.length=n/\Srt N R:=by
 have l:=r.size;refine%[((arrOf a).toList.drop lo).take n,(arrOf a).toList.drop (lo+n),%[r.kind.trans h.kind,r.fail.trans h.fail,(Array.perm_iff_toList_perm.mp r.perm).trans h.perm,?_,by rw[r.pend];exact h.pend|h.runs],?_|wM up (by omega)]
 .have e:(arrOf a).toList.take lo=aW f:=by
   have m:(arrOf a).toList.take lo=(arrOf b).toList.take lo:=by
    apply ext_getElem?;intro i;rw[Yd,Yd]
    split
    .rename_i hi
     have:=r.same i hi;simpa using this
    .rfl
   rw[m,h.arr,Xf (by omega),Zn (by omega)]
  rw[<-e];have o:=Xe lo (arrOf a).toList;have g:=Xe n ((arrOf a).toList.drop lo);rw[drop_drop]at g;rw[g,o]
 grind
theorem lC{α:Type}(f:α->α):∀l x,(l++[x]).modify l.length f=l++[f x]
 |[],x=>rfl
 | y::l,x=>by
   rw[cons_append,Zr,List.modify_succ_cons,lC f l x,cons_append]
theorem f9{α:Type}(l:List α):l=[]\/∃a x,l=a++[x]:=by
 by_cases h:l=[]
 .exact .inl h
 .exact .inr %[l.dropLast,l.getLast h|(List.dropLast_concat_getLast h).symm]
theorem pj{α:Type}(l:List α)(h:1<l.length):∃a x y,l=a++x::y::[]:=by
 rcases f9 l with rfl|⟨a,y,rfl⟩
 .simp at h
 .rcases f9 a with rfl|⟨b,x,rfl⟩
  .simp at h
  .exact%[b,x,y|by simp]
theorem RI.pushed{N:Keyed->Nat}{a st:SortSt}{c:List _}{R rest:List Keyed}{lo m:Nat}(h:RI N a st c (R++rest))(d:(aW c).length=lo)(e:R.length=m)(f:1<=m)(g:Srt N R):RI N a (setPending st ((pendingOf st).push (lo,m,0))) (c++[(R,0)]) rest:=by
 refine%[h.kind,h.fail,h.perm,?_,?_|λr b=>?_]
 .rw[h.arr,bd,aB];simp[aW]
 .rw[toList_push,h.pend,cB,cT,cT,zero_add,d,e]
 .rcases Xp b with b|b
  .exact h.runs r b
  .rw[Xq b]
   grind
theorem RI.powered{N:Keyed->Nat}{a st:SortSt}{b:List _}{rest:List Keyed}{X:List Keyed}{p:Nat}(d:Nat)(h:RI N a st (b++[(X,p)]) rest):RI N a (setPending st ((pendingOf st).modify ((pendingOf st).size-1) λx=>(x.fst,x.2.fst,d))) (b++[(X,d)]) rest:=by
 refine%[h.kind,h.fail,h.perm,?_,?_|λr c=>?_]
 .rw[h.arr,bd,bd,aB,aB]
 .rw[Array.toList_modify,h.psize,h.pend,cB,cB];rw[show(b++[(X,p)]).length-1=(cT b 0).length by rw[df];simp];show List.modify (cT b 0++[_]) _ _=_;rw[lC];rfl
 .rcases Xp c with c|c
  .exact h.runs r (Yw _ c)
  .rw[Xq c];exact h.runs (X,p) ∅
theorem sc_sortRuns{D:Keyed->Prop}{N:Keyed->Nat}{Q:Unit->SortSt->Prop}{st:SortSt}(c:Cmp prog w A SI (kindOf st) D N)(d:∀x∈(arrOf st).toList,D x)(h2:1<=(arrOf st).size)(hp:pendingOf st= #[])(hf:failedOf st=none)
 (h:∀g,(arrOf g).toList.Perm (arrOf st).toList->Srt N (arrOf g).toList->failedOf g=none->Q () g):(SC prog w A SI) sortRuns' Q st:=by
 rw[sortRuns'_eq];refine aj (d9 ?_);dsimp only;have a6:RI N st st [] (arrOf st).toList:=%[rfl,hf,List.Perm.refl _,rfl,by rw[hp];rfl|λ_ h=>(nomatch h)]
 refine aj (be (aO (Q:=λx g=>∃e lo,x=(none,lo)/\RI N st g e [])
  (λj x g=>∃e rest lo,x=(none,lo)/\RI N st g e rest/\(aW e).length=lo/\j<=lo/\lo<=(arrOf st).size) (Xh _) %[[],_,0,rfl,a6,rfl,Zi _|Xh _] ?_ ?_) ?_)
 .rintro j x O _ hj ⟨e,rest,lo,rfl,s,v,a7,a8⟩;dsimp only;have s1:=s.size;by_cases an:lo>=(arrOf st).size
  .rw[if_pos an];have er:rest=[]:=by
    have:=congrArg List.length s.arr;rw[Z9,Zb,s1,v]at this;exact length_eq_zero_iff.mp (by omega)
   subst er;exact ao %[e,lo,rfl|s]
  rw[if_neg an];have d1:∀x∈(arrOf O).toList,D x:=λx hx=>d x (s.perm.mem_iff.mp hx)
  have c1:Cmp prog w A SI (kindOf O) D N:=by rw[s.kind];exact c
  refine aj (rX c1 d1 (by omega) (by omega) λn C r2 n1 n2 as=>?_);dsimp only;by_cases ab:n<minRun' (arrOf st).size (arrOf st).size 0
  .rw[if_pos ab];refine aj (gO ?_);refine aj (wL c1 d1 r2 n1 (by omega) (by omega) as λG r3 a9=>?_);rw[if_neg ∅];obtain⟨R,y,z,E,I⟩:=CR.toRI s r3 v a9 (by omega);refine aj (d9 ?_);rcases f9 e with T|⟨a0,⟨X0,p0⟩,T⟩
   .subst T;have hb:(pendingOf G).back? =none:=by
     have:=z.psize;rw[length_nil]at this;simp[Array.back?,this]
    rw[hb];dsimp only;exact aj (bN (ao %[_,_,_,rfl,z.pushed v E (by omega) I,by rw[bd,Z9,v,aB];simp[aW,E],by omega|by omega]))
   .have hb:(pendingOf G).back? =some ((aW a0).length,X0.length,p0):=by
     rw[<-Array.getLast?_toList,z.pend,T,cB,cT,cT,zero_add];simp
    rw[hb];dsimp only;refine aj (be (aO (Q:=λx g=>x=(none,())/\∃l,RI N st g l (R++y)/\l≠[]/\(aW l).length=lo) (λj x g=>x=(none,())/\∃l,RI N st g l (R++y)/\l≠[]/\(aW l).length=lo) (Xh _) %[rfl,e,z,by rw[T];simp|v] ?_ ?_) ?_)
    .rintro j5 x m _ _ ⟨rfl,B,f,u,o⟩;refine aj (d9 ?_);by_cases J:(pendingOf m).size>1
     .obtain⟨H,⟨U,p5⟩,⟨Y5,q5⟩,rfl⟩:=pj B (by rw[<-f.psize];exact J);have L:(pendingOf m).size-2=H.length:=by rw[f.psize];simp
      have ac:(pendingOf m)[(pendingOf m).size-2]? =some ((aW H).length,U.length,p5):=by
       have:(pendingOf m).toList[H.length]? =some ((aW H).length,U.length,p5):=by
        rw[f.pend,cB,Yb (by rw[df];omega),df,sub_self,zero_add];rfl
       rw[L];simpa using this
      rw[if_pos J,ac];dsimp only
      split
      .exact ao %[rfl,_,f,u|o]
      .refine aj (gQ c d f L λZ5 bb ag al=>?_);rw[if_neg ∅];refine ao %[rfl,_,ag,by simp|?_];rw[<-o,bd,bd,aB,aB,aB];simp[aW,al]
       all_goals omega
     .rw[if_neg J];exact ao %[rfl,_,f,u|o]
    .rintro x m ⟨rfl,B,f,u,o⟩;exact%[rfl,B,f,u|o]
    .rintro x m ⟨rfl,B,f,u,o⟩;dsimp only;obtain⟨H,⟨U,p5⟩,rfl⟩:=(f9 B).resolve_left u;refine aj (bN (aj (bN (ao ?_))));have M:∀pw:Nat,(aW (H++[(U,pw)])).length=lo:=λpw=>by
      rw[<-o,bd,bd,aB,aB]
     exact%[_,_,_,rfl,(f.powered _).pushed (M _) E (by omega) I,by rw[bd,Z9,M,aB];simp[aW,E],by omega|by omega]
  .rw[if_neg ab];obtain⟨R,y,z,E,I⟩:=CR.toRI s r2 v as (by omega);obtain⟨G,e3⟩:∃G,G=C:=%[_|rfl]
   subst e3;refine aj (d9 ?_);rcases f9 e with T|⟨a0,⟨X0,p0⟩,T⟩
   .subst T;have hb:(pendingOf G).back? =none:=by
     have:=z.psize;rw[length_nil]at this;simp[Array.back?,this]
    rw[hb];dsimp only;exact aj (bN (ao %[_,_,_,rfl,z.pushed v E (by omega) I,by rw[bd,Z9,v,aB];simp[aW,E],by omega|by omega]))
   .have hb:(pendingOf G).back? =some ((aW a0).length,X0.length,p0):=by
     rw[<-Array.getLast?_toList,z.pend,T,cB,cT,cT,zero_add];simp
    rw[hb];dsimp only;refine aj (be (aO (Q:=λx g=>x=(none,())/\∃l,RI N st g l (R++y)/\l≠[]/\(aW l).length=lo) (λj x g=>x=(none,())/\∃l,RI N st g l (R++y)/\l≠[]/\(aW l).length=lo) (Xh _) %[rfl,e,z,by rw[T];simp|v] ?_ ?_) ?_)
    .rintro j5 x m _ _ ⟨rfl,B,f,u,o⟩;refine aj (d9 ?_);by_cases J:(pendingOf m).size>1
     .obtain⟨H,⟨U,p5⟩,⟨Y5,q5⟩,rfl⟩:=pj B (by rw[<-f.psize];exact J);have L:(pendingOf m).size-2=H.length:=by rw[f.psize];simp
      have ac:(pendingOf m)[(pendingOf m).size-2]? =some ((aW H).length,U.length,p5):=by
       have:(pendingOf m).toList[H.length]? =some ((aW H).length,U.length,p5):=by
        rw[f.pend,cB,Yb (by rw[df];omega),df,sub_self,zero_add];rfl
       rw[L];simpa using this
      rw[if_pos J,ac];dsimp only
      split
      .exact ao %[rfl,_,f,u|o]
      .refine aj (gQ c d f L λZ5 bb ag al=>?_);rw[if_neg ∅];refine ao %[rfl,_,ag,by simp|?_];rw[<-o,bd,bd,aB,aB,aB];simp[aW,al]
       all_goals omega
     .rw[if_neg J];exact ao %[rfl,_,f,u|o]
    .rintro x m ⟨rfl,B,f,u,o⟩;exact%[rfl,B,f,u|o]
    .rintro x m ⟨rfl,B,f,u,o⟩;dsimp only;obtain⟨H,⟨U,p5⟩,rfl⟩:=(f9 B).resolve_left u;refine aj (bN (aj (bN (ao ?_))));have M:∀pw:Nat,(aW (H++[(U,pw)])).length=lo:=λpw=>by
      rw[<-o,bd,bd,aB,aB]
     exact%[_,_,_,rfl,(f.powered _).pushed (M _) E (by omega) I,by rw[bd,Z9,M,aB];simp[aW,E],by omega|by omega]
 .rintro x O ⟨e,rest,lo,rfl,s,v,a7,a8⟩;have s1:=s.size;have er:rest=[]:=by
   have:=congrArg List.length s.arr;rw[Z9,Zb,s1,v]at this;exact length_eq_zero_iff.mp (by omega)
  subst er;exact%[e,lo,rfl|s]
 .rintro x O ⟨e,lo,rfl,s⟩;dsimp only;have few:∀(e:List (List Keyed×Nat)),(∀r∈e,r.1≠[]/\Srt N r.1)->e.length<=(aW e).length:=by
   intro e
   induction e with
   | nil=>intro _;exact Xh _
   | cons r t ih=>
     intro hr;rw[aB,Zr,Z9];have:=length_pos_iff.mpr (hr r ∅).1;have:=ih λq hq=>hr q (by simp[hq])
     omega
  have l1:e.length<=(arrOf st).size:=by
   have a1:=few e s.runs;have a2:=congrArg List.length s.arr;rw[Zz,Zb,s.size]at a2;omega
  refine aj (be (aO (Q:=λx g=>x=(none,())/\∃e,RI N st g e []/\e.length<=1) (λj x g=>x=(none,())/\∃e,RI N st g e []/\e.length<=max 1 ((arrOf st).size-j)) (Xh _) %[rfl,e,s|by omega] ?_ ?_) ?_)
  .rintro j x C _ hj ⟨rfl,e,s,hl⟩;refine aj (d9 ?_);by_cases J:(pendingOf C).size<=1
   .rw[if_pos J];exact ao %[rfl,e,s|by rw[<-s.psize];exact J]
   rw[if_neg J];have bf:1<e.length:=by rw[<-s.psize];omega
   have e2:(pendingOf C).size=e.length:=s.psize
   generalize a3:(if Option.any _ _=true then(pendingOf C).size-2-1 else(pendingOf C).size-2)=i
   have hi:i+1<e.length:=by
    have a4:∀(c:Prop) [Decidable c] (n:Nat),2<=n->(if c then n-2-1 else n-2) +1<n:=λc _ n hn=>by split<;> omega
    rw[<-a3,<-e2];exact a4 _ _ (by omega)
   clear a3;obtain⟨a,X,p,Y,q,b,rfl,bc⟩:∃a X p Y q b,e=a++(X,p)::(Y,q)::b/\i=a.length:=by
    refine%[e.take i,e[i].1,e[i].2,e[i+1].1,e[i+1].2,e.drop (i+2),?_|by rw[Yo];omega];have t1:=(Xe i e).symm;rw[Y0 (by omega),Y0 (by omega)]at t1;exact t1
   refine aj (gQ c d s bc λZ G z zl=>?_);rw[if_neg ∅];refine ao %[rfl,_,z|?_];simp only[Z9,Zr]at hl hi ⊢;omega
  .rintro x C ⟨rfl,e,s,hl⟩;exact%[rfl,e,s|by omega]
  .rintro x C ⟨rfl,e,s,hl⟩;refine ao (h C s.perm ?_ s.fail);rw[s.arr,Zz]
   match e,hl,s.runs with
   |[],_,_=>exact List.Pairwise.nil
   |[r],_,hr=>
    rw[aB];simp only[aW,map_nil,List.flatten_nil,Zz];exact(hr r ∅).2
end
end SBig
namespace STab
open PySem PySem.SetTable
theorem rY:∀k,∃q,5^(2^k)=1+2^(k+2)*(2*q+1)
 | 0=>%[0|rfl]
 | k+1=>by
   obtain⟨q,e⟩:=rY k;refine%[q+2^k*(2*q+1)*(2*q+1)|?_];rw[pow_succ 2 k,Nat.pow_mul,e]
   grind
noncomputable def step(M i:Nat):Nat:=(i*5+1)%M
noncomputable def cf(M:Nat):Nat->Nat->Nat
 | 0,i=>i
 | n+1,i=>step M (cf M n i)
noncomputable def geo:Nat->Nat
 | 0=>0
 | n+1=>geo n*5+1
theorem qu:∀n,4*geo n+1=5^n
 | 0=>rfl
 | n+1=>by
   have:=qu n;rw[pow_succ,<-this,geo]
   lia
theorem jW(M:Nat)(i:Nat):∀n,cf M n i%M=(5^n*i+geo n)%M
 | 0=>by simp[cf,geo]
 | n+1=>by
   rw[cf,step,Nat.mod_mod,geo,pow_succ];rw[add_mod,Nat.mul_mod,(jW M i n),<-Nat.mul_mod,<-add_mod]
   congr 1
   grind
theorem mU:∀(k i e:Nat),e<2^k->∃n,n<2^k/\cf (2^k) n i%2^k=e
 | 0,i,e,c=>%[0,by simp|by simp at c;subst c;simp[Nat.mod_one]]
 | k+1,i,e,c=>by
   obtain⟨n,M,t⟩:=mU k i (e%2^k) (mod_lt _ (Nat.two_pow_pos k));have d:∀n,cf (2^(k+1)) n i%2^(k+1)%2^k=cf (2^k) n i%2^k:=λn=>by
    rw[Nat.mod_mod_of_dvd _ (Nat.pow_dvd_pow 2 (Yi k)),<-Nat.mod_mod_of_dvd _ (Nat.pow_dvd_pow 2 (Yi k)),jW,Nat.mod_mod_of_dvd _ (Nat.pow_dvd_pow 2 (Yi k)),jW]
   obtain⟨q,b⟩:=rY k;have w:geo (2^k)=2^k*(2*q+1):=by
    have g:=qu (2^k);rw[b,Nat.pow_add]at g;have:2^k*2^2*(2*q+1)=4*(2^k*(2*q+1)):=by
     rw[Nat.mul_right_comm];lia
    lia
   have f:∀n,cf (2^(k+1)) (n+2^k) i%2^(k+1)=(cf (2^(k+1)) n i+2^k)%2^(k+1):=λn=>by
    rw[jW];have y:5^(n+2^k)*i+geo (n+2^k)=5^(2^k)*(5^n*i+geo n) +geo (2^k):=by
     have g1:=qu (n+2^k);have g2:=qu n
     grind
    rw[y,b,w];have z:2^(k+1)=2*2^k:=by rw[pow_succ];lia
    have j:2^(k+2)=2*2^(k+1):=by rw[pow_succ];lia
    have p:=jW (2^(k+1)) i n
    generalize 5^n*i+geo n=v at p ⊢
    have A:(1+2^(k+2)*(2*q+1))*v+2^k*(2*q+1)=v+2^k+2^(k+1)*(2*((2*q+1)*v) +q):=by
     rw[Nat.add_mul,Nat.one_mul,j];have B:2*2^(k+1)*(2*q+1)*v=2^(k+1)*(2*((2*q+1)*v)):=by
      simp only[Nat.mul_assoc,Nat.mul_left_comm]
     have C:2^k*(2*q+1)=2^k+2^(k+1)*q:=by
      rw[z,Nat.mul_add,Nat.mul_one]
      lia
     rw[B,C,Nat.mul_add]
     lia
    rw[A,Nat.add_mul_mod_self_left,add_mod,<-p,<-add_mod]
   have l:=d n;rw[t]at l;have E:cf (2^(k+1)) n i%2^(k+1)<2^(k+1):=mod_lt _ (Nat.two_pow_pos _);have m:=f n;rw[add_mod,Nat.mod_eq_of_lt (by lia:2^k<2^(k+1))]at m;obtain⟨a,r⟩:∃a,a=cf (2^(k+1)) n i%2^(k+1):=%[_|rfl]
   rw[<-r]at l E m;have o:a=e\/(a+2^k)%2^(k+1)=e:=by
    have s:=Nat.div_add_mod a (2^k);have G:=Nat.div_add_mod e (2^k);have H:a/2^k<2:=Nat.div_lt_of_lt_mul ⋯;have I:e/2^k<2:=Nat.div_lt_of_lt_mul ⋯;rw[l]at s
    generalize a/2^k=u at s H
    generalize e/2^k=v at G I
    have J:u=0\/u=1:=by lia
    have L:v=0\/v=1:=by lia
    rcases J with rfl|rfl<;> rcases L with rfl|rfl
    .left;lia
    .right
     rw[Nat.mod_eq_of_lt ⋯]
     lia
    .right
     rw[show a+2^k=e+2^(k+1) by lia,Nat.add_mod_right,Nat.mod_eq_of_lt c]
    .left;lia
   rcases o with h|h
   .exact%[n,⋯|by rw[<-r,h]]
   .exact%[n+2^k,⋯|by rw[m,h]]
end STab
namespace STab
open PySem PySem.SetTable
noncomputable def stand(t:SetTable)(h:Int):Nat->Probe
 | 0=>t.probeStart h
 | n+1=>t.advance (stand t h n)
noncomputable def way(t:SetTable)(h:Int)(n:Nat):Nat:=(stand t h n).j
noncomputable def aH(t:SetTable)(h:Int):Nat->Nat×Nat
 | 0=>(bits h%(t.mask+1),bits h)
 | r+1=>leap t.mask (aH t h r).1 (aH t h r).2
theorem lD(t:SetTable)(h:Int):∀n,(stand t h n).dummy=none
 | 0=>rfl
 | n+1=>by
   have:=lD t h n;show(t.advance _).dummy=none;unfold advance
   split
   .exact this
   .exact this
theorem Bc(m i:Nat):runEnd m i-i<=9:=by
 unfold runEnd
 split<;> lia
theorem wN(t:SetTable)(h:Int):∀r,∃n,n<=10*r/\∀d,d<=runEnd t.mask (aH t h r).1-(aH t h r).1->
 stand t h (n+d)=%[(aH t h r).1+d,runEnd t.mask (aH t h r).1-(aH t h r).1-d,(aH t h r).1,(aH t h r).2|none]:=by
 have a:∀n i b,stand t h n=%[i,runEnd t.mask i-i,i,b|none]->∀d,d<=runEnd t.mask i-i->stand t h (n+d)=%[i+d,runEnd t.mask i-i-d,i,b|none]:=by
  intro n i b e d
  induction d with
  | zero=>intro _;rw[add_zero,e];rfl
  | succ d c=>
    intro f;show t.advance (stand t h (n+d))=_;rw[c ⋯];unfold advance;rw[if_pos ⋯]
    grind
 intro r
 induction r with
 | zero=>exact%[0,Xh _|a 0 _ _ rfl]
 | succ r c=>
   obtain⟨n,g,e⟩:=c;have j:=Bc t.mask (aH t h r).1;refine%[n+(runEnd t.mask (aH t h r).1-(aH t h r).1) +1,⋯|a _ _ _ ?_];show t.advance _=_;rw[e _ (Zi _)];unfold advance;rw[if_neg ⋯];rfl
theorem Bd(h:Int):bits h<2^64:=by
 unfold bits
 grind
theorem mV(t:SetTable)(h:Int):∀r,(aH t h r).2=bits h/32^r
 | 0=>by simp[aH]
 | r+1=>by
   show(aH t h r).2/32=_;rw[mV t h r,Nat.div_div_eq_div_mul,pow_succ]
theorem zb(t:SetTable)(h:Int):∀r,(aH t h r).1<t.mask+1
 | 0=>mod_lt _ (succ_pos _)
 | r+1=>mod_lt _ (succ_pos _)
theorem jw(t:SetTable)(h:Int):∀m,(aH t h (12+m)).1=cf (t.mask+1) m (aH t h 12).1
 | 0=>rfl
 | m+1=>by
   show((aH t h (12+m)).1*5+1+(aH t h (12+m)).2/32)%(t.mask+1)=step _ _;rw[jw t h m,mV,Nat.div_div_eq_div_mul,<-pow_succ];have a:bits h/32^(12+m+1)=0:=by
    exact Nat.div_eq_of_lt (Zg (Bd h) (Yj (by decide:2^64<=32^13) (Nat.pow_le_pow_right (by decide) ⋯)))
   rw[a,add_zero];rfl
theorem mW(a:t.mask+1=2^k)(h:Int)(e:Nat)(c:e<=t.mask):∃r,r<turns t.mask/\(aH t h r).1=e:=by
 obtain⟨n,d,b⟩:=mU k _ e ⋯;refine%[12+n,by unfold turns;lia|?_];rw[jw,a];rw[<-a]at b;have:cf (t.mask+1) n (aH t h 12).1<t.mask+1:=by rw[<-jw];exact zb t h _
 rw[Nat.mod_eq_of_lt this]at b;exact a▸b
theorem uv(a:t.mask+1=2^k)(h:Int)(e:Nat)(b:e<=t.mask):∃n,n+10<=10*turns t.mask/\way t h n=e:=by
 obtain⟨r,f,c⟩:=mW a h e b;obtain⟨n,g,d⟩:=wN t h r;refine%[n,⋯|?_];have:=d 0 (Xh _);unfold way;rw[add_zero]at this;rw[this];exact c
theorem rZ(o:t.dummies= #[]){hashAt:Nat->Int}:∀(fuel n m:Nat),n<=m->m<n+fuel->t.slot (way t h m)= .empty->
 ∃q,n<=q/\q<=m/\(∀j,n<=j->j<q->∃i,t.slot (way t h j)= .live i/\hashAt i≠h)/\
  ((t.slot (way t h q)= .empty/\probe.go t hashAt h fuel (stand t h n)=some (.empty (way t h q) none))\/
   ∃i,t.slot (way t h q)= .live i/\hashAt i=h/\probe.go t hashAt h fuel (stand t h n)=some (.candidate (way t h q) i (stand t h (q+1))))
 | 0,n,m,g,r,_=>by lia
 | fuel+1,n,m,g,r,p=>by
   have d:probe.go t hashAt h (fuel+1) (stand t h n)=(match t.slot (stand t h n).j with
    | .empty=>some _
    | .dummy=>probe.go t hashAt h fuel (t.advance {stand t h n with dummy:=some _})
    | .live i=>if hashAt i==h then some _ else probe.go t hashAt h fuel _):=rfl
   have l:(stand t h n).j=way t h n:=rfl;cases c:t.slot _ with
   | empty=>
     refine%[n,Zi _,g,λj a b=>by lia|.inl %[c|?_]];rw[d,l,c,lD]
   | dummy=>
     exfalso;unfold slot at c;dsimp only at c
     split at c
     .lia
     .split at c
      .rename_i q
       rw[o]at q;simp[has]at q
      .lia
   | live i=>
     by_cases f:hashAt i=h
     .refine%[n,Zi _,g,λj a b=>by lia|.inr %[i,c,f|?_]];rw[d,l,c];dsimp only;rw[if_pos (by simp[f])];rfl
     .have s:n≠m:=λq=>by rw[q,p]at c;cases c
      obtain⟨q,z,u,v,w⟩:=rZ o fuel (n+1) m ⋯ ⋯ p;have y:probe.go t hashAt h (fuel+1) (stand t h n)=probe.go t hashAt h fuel (stand t h (n+1)):=by
       rw[d,l,c];dsimp only;rw[if_neg (by simp[f])];rfl
      refine%[q,⋯,u,λj a b=>?_|?_]
      .by_cases e:j=n
       .exact e▸%[i,c|f]
       .exact v j ⋯ b
      .exact y▸w
end STab
namespace STab
open PySem PySem.SetTable
theorem mX(xs:Array Nat)(j:Nat)(d:∀a b (s:a<xs.size) (t:b<xs.size),a<b->xs[a]<xs[b]):∀(fuel lo hi:Nat),hi-lo<=fuel->lo<=hi->hi<=xs.size->(∀i (h:i<xs.size),i<lo->xs[i]<j)->(∀i (h:i<xs.size),hi<=i->j<=xs[i])->
 below.go xs j fuel lo hi<=xs.size/\(∀i (h:i<xs.size),i<below.go xs j fuel lo hi->xs[i]<j)/\(∀i (h:i<xs.size),below.go xs j fuel lo hi<=i->j<=xs[i])
 | 0,lo,hi,p,q,f,g,l=>by
   have e:lo=hi:=by lia
   subst e;exact%[f,g|l]
 | fuel+1,lo,hi,p,q,f,g,l=>by
   rw[below.go];by_cases c:lo<hi
   .rw[if_pos c];dsimp only;have n:(lo+hi)/2<xs.size:=by lia
    have r:xs.getD ((lo+hi)/2) j=xs[(lo+hi)/2]:=by simp[Array.getD,n]
    rw[r];by_cases m:xs[(lo+hi)/2]<j
    .rw[if_pos m];refine mX xs j d fuel _ hi ⋯ ⋯ f (λi h o=>?_) l;by_cases e:i=(lo+hi)/2
     .subst e;exact m
     .exact Nat.lt_trans (d i _ h n ⋯) m
    .rw[if_neg m];refine mX xs j d fuel lo _ ⋯ ⋯ ⋯ g (λi h o=>?_);by_cases e:i=(lo+hi)/2
     .subst e;lia
     .have:=d _ i n h ⋯
      lia
   .rw[if_neg c];have e:lo=hi:=by lia
    subst e;exact%[f,g|l]
def zc(xs:Array Nat):Prop:=∀a b c (d:b<xs.size),a<b->xs[a]<xs[b]
theorem jx(a:zc xs)(j:Nat):below xs j<=xs.size/\(∀i (h:i<xs.size),i<below xs j->xs[i]<j)/\(∀i (h:i<xs.size),below xs j<=i->j<=xs[i]):=
 mX xs j a xs.size 0 xs.size ⋯ (Xh _) (Zi _) (λi h q=>absurd q (X8 _)) (λi h q=>by lia)
theorem zd(a:zc xs)(h:xs[i]? =some j):below xs j=i:=by
 obtain⟨f,c,d⟩:=jx a j;obtain⟨hi,e⟩:=Array.getElem?_eq_some_iff.mp h;rcases Nat.lt_trichotomy i _ with q|q|q
 .have:=c i hi q
  lia
 .exact q.symm
 .have b:below xs j<xs.size:=by lia
  have:=d _ b (Zi _);have:=a _ i b hi q
  lia
theorem pq{t:SetTable}(a:zc t.place)(h:t.place[i]? =some j):t.slot j= .live i:=by
 unfold slot;dsimp only;rw[zd a h,h];simp
theorem jy{t:SetTable}(a:zc t.place)(b:t.dummies= #[])(j:Nat):(∃i,t.place[i]? =some j/\t.slot j= .live i)\/(j∉t.place.toList/\t.slot j= .empty):=by
 by_cases h:j∈t.place.toList
 .obtain⟨i,hi⟩:=Xi h;have hi:=by simpa using hi
  exact .inl %[i,hi|pq a hi]
 .refine .inr %[h|?_];unfold slot;rw[if_neg,if_neg]
  .rw[b];simp[has]
  .intro q;exact h (mem_toList_iff.mpr (Array.mem_of_getElem? (by simpa using q)))
theorem r0(h:t.mask=t'.mask)(x:Int):∀n,stand t x n=stand t' x n
 | 0=>by
   show t.probeStart x=t'.probeStart x;unfold probeStart;rw[h]
 | n+1=>by
   show t.advance _=t'.advance _;rw[r0 h x n];unfold advance;rw[h]
theorem pA(h:t.mask=t'.mask)(x:Int)(n:Nat):way t x n=way t' x n:=by unfold way;rw[r0 h]
structure WF (t:SetTable) (es:Array (Int×Value)):Prop where
 pow:∃k,t.mask+1=2^k
 big:7<=t.mask
 dum:t.dummies= #[]
 rise:zc t.place
 inb:∀j∈t.place.toList,j<=t.mask
 size:t.place.size=es.size
 chain:∀(i j:Nat) h x,t.place[i]? =some j->es[i]? =some (h,x)->∃n,way t h n=j/\∀m,m<n->way t h m∈t.place.toList
theorem nodup_sub [DecidableEq c]:∀{l m:List c},l.Nodup->(∀x∈l,x∈m)->l.length<=m.length
 |[],_,_,_=>Xh _
 | x::l,m,d,a=>by
   obtain⟨f,g⟩:=nodup_cons.mp d;have b:=a x Zm;have h:=nodup_sub (m:=m.erase x) g λy i=>(List.mem_erase_of_ne (λe=>f (by simp_all))).mpr (a y (Zk _ i))
   rw[List.length_erase_of_mem b]at h;have:=List.length_pos_of_mem b;rw[Zr]
   lia
theorem uw(W:WF t v)(R:t.place.size<=t.mask)(h:Int):∃m,m+10<=10*turns t.mask/\way t h m∉t.place.toList/\(∀q,q<m->way t h q∈t.place.toList):=by
 obtain⟨k,l⟩:=W.pow;have ex:∃e,e<=t.mask/\e∉t.place.toList:=by
  refine Classical.byContradiction λb=>?_
  have:(List.range (t.mask+1)).length<=t.place.toList.length:=nodup_sub nodup_range λx o=>(λe c=>Classical.byContradiction λq=>b %[e,c|q]) x (by have:=mem_range.mp o;lia)
  rw[Ym,Zb]at this
  lia
 obtain⟨e,c,f⟩:=ex;obtain⟨n,p,hw⟩:=uv l h e c;have:∀d,∀n,n<=d->n+10<=10*turns t.mask->way t h n∉t.place.toList->∃m,m+10<=10*turns t.mask/\way t h m∉t.place.toList/\(∀q,q<m->way t h q∈t.place.toList):=by
  intro d
  induction d with
  | zero=>
    intro n r g i;have:n=0:=by lia
    subst this;exact%[0,g,i|λq j=>absurd j (X8 _)]
  | succ d s=>
    intro n r g i;by_cases a:∀q,q<n->way t h q∈t.place.toList
    .exact%[n,g,i|a]
    .obtain⟨q,j⟩:=Classical.not_forall.mp a;obtain⟨w,u⟩:=Classical.not_imp.mp j;exact s q ⋯ ⋯ u
 exact this n n (Zi _) p (hw▸f)
end STab
namespace STab
open PySem PySem.SetTable
theorem jX(xs:Array a)(p:Nat)(x:a)(b:p<=xs.size):(insertAt xs p x).toList=xs.toList.take p++x::xs.toList.drop p:=by
 unfold insertAt;rw[Xg,toList_push,toList_extract,toList_extract,Y1,Y1];rw[drop_zero,Nat.sub_zero,Zn (l:=xs.toList.drop p) ∅];simp
theorem ux(xs:Array c)(x:c)(f:p<=xs.size)(i:Nat):(insertAt xs p x)[i]? =if i<p then xs[i]? else if i=p then some x else xs[i-1]? :=by
 have e:(insertAt xs p x)[i]? =(insertAt xs p x).toList[i]? :=by simp
 rw[e,jX xs p x f];have g:(xs.toList.take p).length=p:=by simp_all
 by_cases a:i<p
 .rw[if_pos a,Ya ⋯,Yd,if_pos a];simp
 .rw[if_neg a,Yb ⋯,g];by_cases b:i=p
  .rw[if_pos b,b,sub_self];rfl
  .rw[if_neg b];obtain⟨d,h⟩:∃d,i-p=d+1:=%[i-p-1|⋯]
   rw[h,List.getElem?_cons_succ,Yc];rw[show p+d=i-1 by lia];simp
theorem iN(xs:Array a)(p:Nat)(x:a)(b:p<=xs.size):(insertAt xs p x).size=xs.size+1:=by
 rw[<-Zb,jX xs p x b,Z9,Zr,Yo,Yk,Zb]
 lia
theorem ze(t:SetTable)(h:Int):∀n,(stand t h n).j+(stand t h n).more<=t.mask
 | 0=>by
   show bits h%(t.mask+1) +(runEnd t.mask _-bits h%(t.mask+1))<=t.mask;have:=mod_lt (bits h) (show 0<t.mask+1 from succ_pos _);unfold runEnd
   split<;> lia
 | n+1=>by
   have a:=ze t h n;show(t.advance _).j+(t.advance _).more<=t.mask;unfold advance
   split
   .lia
   .dsimp only[leap];have:=mod_lt ((stand t h n).i*5+1+(stand t h n).perturb/32) (show 0<t.mask+1 from succ_pos _);unfold runEnd
    split<;> lia
theorem qv(t:SetTable)(h:Int)(n:Nat):way t h n<=t.mask:=by
 have:=ze t h n;unfold way
 lia
theorem WF.put(W:WF t J)(U:way t h m∉t.place.toList)(Y:∀q,q<m->way t h q∈t.place.toList)(r f:Bool):
 (t.put (way t h m)).2=below t.place (way t h m)/\(t.put (way t h m)).1.mask=t.mask/\(t.put (way t h m)).1.place.size=t.place.size+1/\(t.put (way t h m)).1.led=t.led/\(t.put (way t h m)).1.plain=t.plain/\(t.put (way t h m)).1.moves=t.moves/\
  WF {(t.put (way t h m)).1 with led:=r,plain:=f} (insertAt J (t.put (way t h m)).2 (h,x)):=by
 have hd:has t.dummies (way t h m)=false:=by rw[W.dum];simp[has]
 have ep:t.put (way t h m)=({t with place:=insertAt t.place (below t.place (way t h m)) (way t h m)},below t.place (way t h m)):=by
  unfold SetTable.put;dsimp only;rw[hd];rfl
 rw[ep];obtain⟨g,L,M⟩:=jx W.rise (way t h m)
 generalize hp:below t.place (way t h m)=p at g L M
 have w:p<=J.size:=by rw[<-W.size];exact g
 have s3:∀i (hi:i<t.place.size),p<=i->way t h m<t.place[i]:=λi hi q=>by
  have:=M i hi q;rcases Nat.eq_or_lt_of_le this with e|e
  .exact absurd (by rw[e];simp) U
  .exact e
 have c:∀y,y∈(insertAt t.place p (way t h m)).toList↔y=way t h m\/y∈t.place.toList:=λy=>by
  rw[jX _ _ _ g,Yv,Yy];have:=Xe p t.place.toList
  constructor
  .rintro(q|q|q)
   .exact .inr (X1 q)
   .exact .inl q
   .exact .inr (Yz q)
  .rintro(q|q)
   .exact .inr (.inl q)
   .rw[<-this]at q;rcases Xp q with q|q
    .exact .inl q
    .exact .inr (.inr q)
 refine%[rfl,rfl,iN _ _ _ g,rfl,rfl,rfl,W.pow,W.big,W.dum,?_,?_,?_|?_]
 .intro a b ha B C;have l:(insertAt t.place p (way t h m))[a]? =some (insertAt t.place p (way t h m))[a]:=by simp
  have d:(insertAt t.place p (way t h m))[b]? =some (insertAt t.place p (way t h m))[b]:=by simp
  show(insertAt t.place p (way t h m))[a]<(insertAt t.place p (way t h m))[b];rw[ux _ _ g]at l d;have ab:b<t.place.size+1:=(iN t.place p (way t h m) g)▸B;by_cases E:a<p
  .rw[if_pos E]at l;obtain⟨u,G⟩:=Array.getElem?_eq_some_iff.mp l;rw[<-G];by_cases r:b<p
   .rw[if_pos r]at d;obtain⟨f,v⟩:=Array.getElem?_eq_some_iff.mp d;exact v▸W.rise a b u f C
   .rw[if_neg r]at d;by_cases f:b=p
    .rw[if_pos f]at d;exact(Za d)▸L a u E
    .rw[if_neg f]at d;obtain⟨v,H⟩:=Array.getElem?_eq_some_iff.mp d;exact H▸W.rise a (b-1) u v ⋯
  .rw[if_neg E]at l;have r: ¬ b<p:=by lia
   have f: ¬ b=p:=by lia
   rw[if_neg r,if_neg f]at d;obtain⟨v,H⟩:=Array.getElem?_eq_some_iff.mp d;rw[<-H];by_cases u:a=p
   .rw[if_pos u]at l;exact(Za l)▸s3 (b-1) v ⋯
   .rw[if_neg u]at l;obtain⟨G,a4⟩:=Array.getElem?_eq_some_iff.mp l;exact a4▸W.rise (a-1) (b-1) G v ⋯
 .intro y hy;rcases(c y).mp hy with q|q
  .rw[q];exact qv t h m
  .exact W.inb y q
 .rw[iN _ _ _ g,iN _ _ _ w,W.size]
 .intro i j h' N hi o;have O:∀n,way {t with place:=insertAt t.place p (way t h m),led:=r,plain:=f} h' n=way t h' n:=λn=>pA (t':=t) (by rfl) h' n
  have I:∃n,way t h' n=j/\∀q,q<n->way t h' q∈(insertAt t.place p (way t h m)).toList:=by
   rw[ux _ _ g]at hi;rw[ux _ _ w]at o;by_cases Q:i<p
   .rw[if_pos Q]at hi o;obtain⟨n,z,A⟩:=W.chain i j h' N hi o;exact%[n,z|λq s=>(c _).mpr (.inr (A q s))]
   .rw[if_neg Q]at hi o;by_cases T:i=p
    .rw[if_pos T]at hi o;cases hi;cases o;exact%[m,rfl|λq s=>(c _).mpr (.inr (Y q s))]
    .rw[if_neg T]at hi o;obtain⟨n,z,A⟩:=W.chain (i-1) j h' N hi o;exact%[n,z|λq s=>(c _).mpr (.inr (A q s))]
  obtain⟨n,z,A⟩:=I;exact%[n,by rw[O];exact z|λq s=>by rw[O];exact A q s]
end STab
namespace STab
open PySem PySem.SetTable
noncomputable def nb(t:SetTable)(h:Int):Nat->Nat
 | 0=>0
 | r+1=>nb t h r+(runEnd t.mask (aH t h r).1-(aH t h r).1) +1
theorem zf(t:SetTable)(h:Int):∀r d,d<=runEnd t.mask (aH t h r).1-(aH t h r).1->
 stand t h (nb t h r+d)=%[(aH t h r).1+d,runEnd t.mask (aH t h r).1-(aH t h r).1-d,(aH t h r).1,(aH t h r).2|none]:=by
 have a:∀n i b,stand t h n=%[i,runEnd t.mask i-i,i,b|none]->∀d,d<=runEnd t.mask i-i->stand t h (n+d)=%[i+d,runEnd t.mask i-i-d,i,b|none]:=by
  intro n i b e d
  induction d with
  | zero=>intro _;rw[add_zero,e];rfl
  | succ d c=>
    intro f;show t.advance (stand t h (n+d))=_;rw[c ⋯];unfold advance;rw[if_pos ⋯]
    grind
 intro r
 induction r with
 | zero=>exact a 0 _ _ rfl
 | succ r c=>
   refine a _ _ _ ?_;show t.advance _=_;rw[c _ (Zi _)];unfold advance;rw[if_neg ⋯];rfl
theorem uy(t:SetTable)(h:Int)(r d:Nat)(a:d<=runEnd t.mask (aH t h r).1-(aH t h r).1):way t h (nb t h r+d)=(aH t h r).1+d:=by
 unfold way;rw[zf t h r d a]
noncomputable def eZ(owner:Array (Option Nat))(j:Nat):Bool:=(owner.getD j (some 0)).isSome
theorem pB(t:SetTable)(h:Int)(owner:Array (Option Nat)):∀(fuel r:Nat),(∃a,r<=a/\a<r+fuel/\eZ owner (aH t h a).1=false)->(∀m,m<nb t h r->eZ owner (way t h m)=true)->
 ∃j n,layClean.free t.mask owner fuel (aH t h r).1 (aH t h r).2=some j/\way t h n=j/\eZ owner j=false/\∀m,m<n->eZ owner (way t h m)=true
 | 0,r,⟨a,p,s,_⟩,_=>by lia
 | fuel+1,r,⟨a,p,s,g⟩,i=>by
   rw[layClean.free];have u:runEnd t.mask (aH t h r).1>=(aH t h r).1:=by unfold runEnd;split<;> lia
   have tk:∀k,(owner.getD ((aH t h r).1+k) (some 0)).isNone=!eZ owner ((aH t h r).1+k):=λk=>by
    unfold eZ;cases owner.getD ((aH t h r).1+k) (some 0)<;> rfl
   cases l:(List.range (runEnd t.mask (aH t h r).1+1-(aH t h r).1)).find? λk=>(owner.getD ((aH t h r).1+k) (some 0)).isNone with
   | some k=>
     obtain⟨o,b,bs,c,v⟩:=List.find?_eq_some_iff_append.mp l;have d:k∈List.range (runEnd t.mask (aH t h r).1+1-(aH t h r).1):=by rw[c];simp
     have d:=mem_range.mp d;have w:b=List.range k:=by
      have y:b.length=k:=by
       have:(List.range (runEnd t.mask (aH t h r).1+1-(aH t h r).1))[b.length]? =some k:=by rw[c];simp
       rw[List.getElem?_range (by have:=(Xo this).1;simpa using this)]at this;exact Za this
      have z:b=(List.range (runEnd t.mask (aH t h r).1+1-(aH t h r).1)).take k:=by
       rw[c,<-y];simp
      rw[z,List.take_range,X2 ⋯]
     dsimp only;refine%[_,nb t h r+k,rfl,uy t h r k ⋯,?_|λm f=>?_]
     .rw[tk]at o;simpa using o
     .by_cases q:m<nb t h r
      .exact i m q
      .have:=v (m-nb t h r) (w▸mem_range.mpr ⋯);rw[tk]at this;rw[show m=nb t h r+(m-nb t h r) by lia,uy t h r _ ⋯];simpa using this
   | none=>
     have all:∀k,k<=runEnd t.mask (aH t h r).1-(aH t h r).1->eZ owner ((aH t h r).1+k)=true:=λk d=>by
      have:=(List.find?_eq_none.mp l) k (mem_range.mpr ⋯);rw[tk]at this;simpa using this
     have A:r≠a:=λe=>by
      have:=all 0 (Xh _);rw[add_zero,e,g]at this;cases this
     dsimp only;exact pB t h owner fuel (r+1) %[a,⋯,⋯|g] λm f=>by
      by_cases q:m<nb t h r
      .exact i m q
      .have f:m<nb t h r+(runEnd t.mask (aH t h r).1-(aH t h r).1) +1:=f;rw[show m=nb t h r+(m-nb t h r) by lia,uy t h r _ ⋯];exact all _ ⋯
structure LO (t:SetTable) (hs:ZL) (owner:Array _):Prop where
 size:owner.size=t.mask+1
 own:∀j q,owner[j]? =some (some q)->∃h,hs[q]? =some h/\∃n,way t h n=j/\∀m,m<n->eZ owner (way t h m)=true
 all:∀q,q<hs.length->∃j:Nat,owner[j]? =some (some q)
 one:∀(j j' q:Nat),owner[j]? =some (some q)->owner[j']? =some (some q)->j=j'
theorem gh(b:j<owner.size):eZ owner j=true↔∃q,owner[j]? =some (some q):=by
 unfold eZ;have e:owner.getD j (some 0)=owner[j]:=by simp_all
 rw[e];have a:owner[j]? =some owner[j]:=by simp
 rw[a];cases owner[j]with
 | none=>simp
 | some q=>simp
theorem LO.step(L:LO t f owner)(J:t.mask+1=2^k)(room:f.length<=t.mask)(h:Int):
 ∃j,layClean.free t.mask owner (turns t.mask) (bits h%(t.mask+1)) (bits h)=some j/\LO t (f++[h]) (owner.setIfInBounds j (some f.length)):=by
 have d:∀h n,way t h n<owner.size:=λh n=>by rw[L.size];have:=qv t h n;lia
 have ex:∃e,e<=t.mask/\eZ owner e=false:=by
  refine Classical.byContradiction λv=>?_
  have all:∀e,e<t.mask+1->eZ owner e=true:=λe c=>by
   cases q:eZ owner e with
   | true=>rfl
   | false=>exact absurd %[e,⋯|q] v
  let g:Nat->Nat:=λe=>((owner[e]?).getD none).getD 0
  have w:∀e,e<t.mask+1->owner[e]? =some (some (g e)):=λe c=>by
   obtain⟨q,o⟩:=(λe c=>(gh (L.size▸c)).mp (all e c)) e c;show owner[e]? =some (some (((owner[e]?).getD none).getD 0));rw[o];rfl
  have nd:((List.range (t.mask+1)).map g).Nodup:=by
   rw[X6,Xb];refine Xj (λ{a b} M N A q=>A ?_) (nodup_iff_pairwise_ne.mp nodup_range);have E:=w b (mem_range.mp N);rw[<-q]at E;exact L.one a b _ (w a (mem_range.mp M)) E
  have:=nodup_sub nd λy O=>by
   obtain⟨e,c,rfl⟩:=Xr O;obtain⟨h',l,_⟩:=L.own e _ (w e (mem_range.mp c));exact mem_range.mpr (Xo l).1
  rw[Z6,Ym,Ym]at this
  lia
 obtain⟨e,c,B⟩:=ex;obtain⟨r,hr,o⟩:=mW J h e c;obtain⟨j,n,Q,G,T,U⟩:=pB t h owner (turns t.mask) 0 %[r,Xh _,⋯|o▸B] (λm p=>absurd p (X8 _));refine%[j,Q|?_];have Y:j<owner.size:=G▸d h n;have nj:∀q,owner[j]? ≠some _:=λq e=>by
  have:=(gh Y).mpr %[q|e];rw[T]at this;cases this
 have get:∀i,(owner.setIfInBounds j (some f.length))[i]? =if j=i then some _ else owner[i]? :=λi=>by
  rw[Array.getElem?_setIfInBounds]
  split
  .first|rfl|simp
  .rfl
 have keep:∀i,eZ owner i=true->i<owner.size->eZ (owner.setIfInBounds j _) i=true:=λi hi H=>by
  obtain⟨q,e⟩:=(gh H).mp hi;refine(gh (Array.size_setIfInBounds▸H)).mpr ?_;rw[get]
  split
  .exact%[_|rfl]
  .exact%[q|e]
 refine%[by rw[Array.size_setIfInBounds];exact L.size,λi q e=>?_,λq o=>?_|λi I q e s=>?_]
 .rw[get]at e
  split at e
  .rename_i C
   cases e;refine%[h,by simp,n,by rw[G,C]|λm p=>keep _ (U m p) (d h m)]
  .obtain⟨h',l,n',e2,e3⟩:=L.own i q e;exact%[h',(Ya (Xo l).1)▸l,n',e2|λm p=>keep _ (e3 m p) (d h' m)]
 .rw[Z9,Yn]at o;by_cases e:q=f.length
  .exact%[j|by rw[get,if_pos rfl,e]]
  .obtain⟨i,hi⟩:=L.all q ⋯;refine%[i|?_];rw[get,if_neg]
   .exact hi
   .intro C;rw[<-C]at hi;exact nj q hi
 .have u:∀i,owner[i]? =some (some f.length)->False:=λi e=>by
   obtain⟨h',l,_⟩:=L.own i _ e;have:=(Xo l).1
   lia
  rw[get]at e s
  split at e<;> split at s
  .lia
  .cases e;exact absurd s (λz=>u I z)
  .cases s;exact absurd e (λz=>u i z)
  .exact L.one i I q e s
theorem r8(c:t.mask+1=2^k)(a:Array Int)(room:a.size<=t.mask+1):∃owner,layClean t.mask a=some owner/\LO t a.toList owner:=by
 have d:∀rest done owner,LO t done owner->(done++rest).length<=t.mask+1->
  ∃b,rest.foldl (λacc h=>do
   let(owner,k)<-acc
   let j<-layClean.free t.mask owner (turns t.mask) (bits h%(t.mask+1)) (bits h)
   pure (owner.setIfInBounds j (some k),k+1)) (some (owner,done.length))=some (b,(done++rest).length)/\LO t (done++rest) b:=by
  intro rest
  induction rest with
  | nil=>intro done owner L _;exact%[owner,by simp|by simpa using L]
  | cons h rest g=>
    intro done owner L i;simp only[Z9,Zr]at i;obtain⟨j,f,l⟩:=L.step c ⋯ h;obtain⟨b,e,L2⟩:=g _ _ l (by simp_all);refine%[b,?_|by simpa using L2];rw[Y9];have m:(do
     let(owner,k)<-(some (owner,done.length))
     let j<-layClean.free t.mask owner (turns t.mask) (bits h%(t.mask+1)) (bits h)
     pure (owner.setIfInBounds j (some k),k+1))=some (owner.setIfInBounds j (some done.length),(done++[h]).length):=by
     show(layClean.free t.mask owner _ _ _).bind _=_;rw[f];simp
    rw[m,e];simp
 have n:LO t [] (Array.replicate (t.mask+1) none):=%[by simp,λj q e=>by
  rw[Array.getElem?_replicate]at e
  split at e<;> simp at e,λq o=>absurd o (X8 _)|λj p q e _=>by
  rw[Array.getElem?_replicate]at e
  split at e<;> simp at e]
 obtain⟨owner,e,L⟩:=d a.toList [] _ n (room);refine%[owner,?_|L];unfold layClean;rw[<-Array.foldl_toList];rw[show(0)=([]).length from rfl,e];rfl
end STab
namespace STab
open PySem PySem.SetTable
theorem r9(n:Nat):∀fuel k,3<=k->n<2^(k+fuel)->(2^k<=2*n\/k=3)->∃a,3<=a/\sizeAbove.go n fuel (2^k)=2^a/\n<2^a/\(2^a<=2*n\/a=3)
 | 0,k,b,c,d=>%[k,b,rfl,c|d]
 | fuel+1,k,b,c,d=>by
   rw[sizeAbove.go];by_cases h:2^k<=n
   .rw[if_pos h];have e:2^k*2=2^(k+1):=by rw[pow_succ]
    rw[e];exact r9 n fuel _ ⋯ ((show k+1+fuel=k+(fuel+1) by lia)▸c) (.inl ⋯)
   .rw[if_neg h];exact%[k,b,rfl,⋯|d]
theorem uz(a:n<2^60):∃k,3<=k/\sizeAbove n=2^k/\n<2^k/\(2^k<=2*n\/k=3):=
 r9 n 64 3 (Zi _) (Zg a (Nat.pow_le_pow_right (by decide) ∅)) (.inr rfl)
theorem mY [DecidableEq c]:∀{l m:List c},l.Nodup->m.Nodup->(∀x,x∈l↔x∈m)->l.Perm m
 |[],m,_,_,h=>by
  cases m with
  | nil=>simp
  | cons x m=>exact absurd ((h x).mpr Zm) ∅
 | x::l,m,d,b,h=>by
   obtain⟨f,g⟩:=nodup_cons.mp d;refine List.Perm.trans (List.Perm.cons x (mY g (b.erase x) λy=>?_)) (List.perm_cons_erase ((h x).mp Zm)).symm
   constructor
   .intro a;exact(List.mem_erase_of_ne (λe=>f (by simp_all))).mpr ((h y).mp (Zk _ a))
   .intro a;rcases mem_cons.mp ((h y).mpr (List.mem_of_mem_erase a))with q|q
    .exact absurd q (λe=>by rw[e]at a;exact b.not_mem_erase a)
    .exact q
theorem laid_ok{t:SetTable}(hp:t.mask+1=2^k)(E:7<=t.mask)(c:Array (Int×Value))(room:c.size<=t.mask)(finger moves:Nat)(led plain:Bool):
 ∃t' d,laid t.mask finger moves led plain (c.map (·.1))=some (t',d)/\t'.mask=t.mask/\t'.led=led/\t'.plain=plain/\t'.moves=moves/\WF t' (d.filterMap (c[·]?))/\(d.filterMap (c[·]?)).toList.Perm c.toList:=by
 obtain⟨owner,e,L⟩:=r8 hp (c.map (·.1)) (by rw[size_map];lia);have G:(c.map (·.1)).toList.length=c.size:=by simp
 obtain⟨live,v⟩:∃live,(List.range (t.mask+1)).filterMap (λj=>(owner.getD j none).map (λq=>(j,q)))=live:=%[_|rfl]
 refine%[%[t.mask,(live.map (·.1)).toArray,#[],finger,led,moves|plain],(live.map (·.2)).toArray,by unfold laid;rw[e,<-v];rfl,rfl,rfl,rfl,rfl|?_];have gd:∀j q,owner.getD j none=some q↔owner[j]? =some (some q):=λj q=>by
  rw[Zs];cases owner[j]? with
  | none=>simp
  | some o=>simp
 have mem:∀j q,(j,q)∈live↔owner[j]? =some (some q):=λj q=>by
  rw[<-v,mem_filterMap]
  constructor
  .rintro⟨H,ac,I⟩;obtain⟨z,s,J⟩:=map_eq_some_iff.mp I;cases J;exact(gd j q).mp s
  .intro ho;have:j<owner.size:=by
    obtain⟨f,_⟩:=Array.getElem?_eq_some_iff.mp ho;exact f
   refine%[j,mem_range.mpr (by rw[L.size]at this;exact this)|?_];rw[(gd j q).mpr ho];rfl
 have r:(live.map (·.1)).Pairwise (·<·):=by
  rw[<-v,Xb,List.pairwise_filterMap];refine List.Pairwise.imp (λ{a b} u x hx y M=>?_) List.pairwise_lt_range;obtain⟨_,_,rfl⟩:=map_eq_some_iff.mp hx;obtain⟨_,_,rfl⟩:=map_eq_some_iff.mp M;exact u
 have w:∀j q,(j,q)∈live->q<c.size:=λj q h=>by
  obtain⟨h',s,_⟩:=L.own j q ((mem j q).mp h);have:=(Xo s).1
  lia
 have B:(live.map (·.2)).Nodup:=by
  rw[X6,Xb];refine Xj (λ{a b} N E u g=>?_) (by rw[Xb]at r;exact r);have f:=(mem a.1 a.2).mp N;have O:=(mem b.1 b.2).mp E;rw[<-g]at O;have:=L.one _ _ _ f O
  lia
 have C:(live.map (·.2)).Perm (List.range c.size):=mY B nodup_range λq=>by
  constructor
  .intro g;obtain⟨⟨j,z⟩,f,rfl⟩:=Xr g;exact mem_range.mpr (w j z f)
  .intro g;obtain⟨j,Q⟩:=L.all q (G▸mem_range.mp g);exact Xs %[(j,q),(mem j q).mpr Q|rfl]
 have fm:∀(l:List Nat),(∀q∈l,q<c.size)->l.filterMap (c[·]?)=l.map (λq=>c.getD q (0,Value.none)):=by
  intro l
  induction l with
  | nil=>intro _;rfl
  | cons q l ih=>
    intro g;have f:=g q Zm;have s:c[q]? =some (c.getD q (0,Value.none)):=by simp[Array.getD,f]
    rw[Y3,s,Yt,ih λy M=>g y (Zk _ M)]
 have T:((live.map (·.2)).toArray.filterMap (c[·]?)).toList=(live.map (·.2)).map (λq=>c.getD q (0,Value.none)):=by
  rw[Array.toList_filterMap,List.toList_toArray];exact fm _ λq g=>by
   obtain⟨⟨j,z⟩,f,rfl⟩:=Xr g;exact w j z f
 have er:c.toList=(List.range c.size).map (λq=>c.getD q (0,Value.none)):=by
  apply ext_getElem
  .simp
  .intro i f O;have f:=by simpa using f
   simp[Array.getD,f]
 refine%[%[%[k|hp],E,rfl,?_,λj Q=>?_,?_|λi j h x hi A=>?_]|?_]
 .intro a b N U u;have:=List.pairwise_iff_getElem.mp r a b (N) (U) u;simpa using this
 .obtain⟨⟨H,q⟩,f,rfl⟩:=Xr Q;have:=(Array.getElem?_eq_some_iff.mp ((mem H q).mp f)).1;rw[L.size]at this
  lia
 .rw[<-Zb (xs:=Array.filterMap _ _),T];simp
 .have hi:(live.map (·.1))[i]? =some j:=by simpa using hi
  have A:((live.map (·.2)).toArray.filterMap (c[·]?)).toList[i]? =some (h,x):=by simpa using A
  rw[T,Yu,Zl]at A;rw[Zl]at hi;cases Y:live[i]? with
  | none=>rw[Y]at hi;cases hi
  | some p=>
    obtain⟨H,q⟩:=p;rw[Y]at hi A;cases hi;have hm:=Z8 Y;obtain⟨h',s,n,n1,n2⟩:=L.own _ q ((mem _ q).mp hm);have g:=w _ q hm;have eh:h'=h:=by
     have J:(c.map (·.1)).toList[q]? =some (c[q]).1:=by simp[g]
     rw[J]at s;have e3:c.getD q (0,Value.none)=c[q]:=by simp[Array.getD,g]
     simp only[Function.comp,map_some,e3,Option.some.injEq]at A;rw[A]at s;exact(Za s).symm
    subst eh;have wm:∀n,way {mask:=t.mask,place:=(live.map (·.1)).toArray,dummies:= #[],finger:=finger,led:=led,moves:=moves,plain:=plain} h' n=way t h' n:=λn=>pA (t':=t) (by rfl) h' n
    refine%[n,by rw[wm];exact n1|λm ab=>?_];rw[wm];obtain⟨z,I⟩:=(gh (by rw[L.size];have:=qv t h' m;lia)).mp (n2 m ab);exact Xs %[(way t h' m,z),(mem _ _).mpr I|rfl]
 .rw[T,er];exact C.map _
end STab
namespace STab
open PySem PySem.SetTable
section
variable{prog:Program}{w:World}{K:Type}[DecidableEq K]{knd:KeyKind prog w K}{A:Around}{E:ZD}{s:Shared}
def EL(knd:KeyKind prog w K)(h:Heap)(a:Array (Int×Value)):Prop:=∀(i:Nat) e,a[i]? =some e->∃r k,e=(tupleKeyHash knd k,Value.ref r)/\IsTupleKey knd h k r
theorem lE(g:IsTupleKey knd s.heap ks r)(h:Q false s):↥A (ofAClassStatement 8 (.ref r)) Q E s:=by
 have l:=g.typeIs;obtain⟨o,c,n,m,_,p,hi⟩:=g;unfold ofAClassStatement;refine Z2 (wpAny_typeOf l (Z2 (Z3 (Z2 (wpAny_seqItems m p (Z2 ?_))))));rw[<-forIn_toList];refine wpAny_forIn_list _ (λrest r s'=>r=(none,())/\s'=s/\∃i,ItemsAre knd i rest) _ ?_ ?_ _ _ %[rfl,rfl,ks|hi]
 .rintro x rest r s' ⟨rfl,rfl,i,d⟩;cases d with
  | @cons k1 u f j q b=>
    have t:=knd.byValue _ _ q;have e:ofAClassStatement 7 x=pure false:=by
     cases x with
     | ref a=>simp[carriedByValue]at t
     | _=>first|rfl|lia|lia
    refine Z2 ?_;rw[e];exact Z3 (Z3 %[rfl,rfl,f|b])
 .rintro r s' ⟨rfl,rfl,_⟩;exact Z3 h
theorem uA(d:IsTupleKey knd s.heap ks r):∀(l:ZF),(∀y∈l,∃a c,y=Value.ref a/\IsTupleKey knd s.heap c a)->∀{Q:Bool->Shared->Prop},Q false s->↥A (searchCouldBeSeen (.ref r) l) Q E s:=by
 intro l g Q h;refine Z2 (wpAny_forIn_list _ (λrest x s'=>x=(none,())/\s'=s/\∀y∈rest,∃a c,y=Value.ref a/\IsTupleKey knd s.heap c a) _ ?_ ?_ _ _ %[rfl,rfl|g])
 .rintro y rest x s' ⟨rfl,rfl,e⟩;obtain⟨a,c,rfl,b⟩:=e y Zm;have f:=λy i=>e y (Zk _ i)
  dsimp only
  split
  .exact Z3 %[rfl,rfl|f]
  .exact Z2 (wpAny_eqIsQuiet_tuple d (Z2 (wpAny_eqIsQuiet_tuple b (Z2 (lE d (Z2 (lE b (Z3 %[rfl,rfl|f]))))))))
 .rintro x s' ⟨rfl,rfl,_⟩;exact Z3 h
theorem qw(hu:A.units<cLine)(ho:s.heap.get? a=some o)(hd:o.data= .set u ep t)(W:WF t u)(room:t.place.size<=t.mask)(ag:t.mask<=9000)
 (el:EL knd s.heap u) (hk:IsTupleKey knd s.heap k r)
 (h1:(∃(i:Nat) (g:Addr),u[i]? =some (tupleKeyHash knd k,Value.ref g)/\IsTupleKey knd s.heap k g)->Q (.there none) s)
 (h2:∀m,way t (tupleKeyHash knd k) m∉t.place.toList->(∀q,q<m->way t (tupleKeyHash knd k) q∈t.place.toList)->(∀(i:Nat) g v,u[i]? =some (tupleKeyHash knd v,Value.ref g)->IsTupleKey knd s.heap v g->v≠k)->Q (.free (way t (tupleKeyHash knd k) m) false) s):
 ↥A (setSearch a (.ref r) (tupleKeyHash knd k) true) Q E s:=by
 generalize hh:tupleKeyHash knd k=h at h1 h2
 have hf:t.fits u.size=true:=by
  unfold fits fill;rw[W.dum];simp[W.size];exact W.size▸room
 obtain⟨N,m1,m2,m3⟩:=uw W room h;have me:t.slot (way t h N)= .empty:=by
  rcases jy W.rise W.dum (way t h N)with⟨i,e,_⟩|⟨_,e⟩
  .exact absurd (mem_toList_iff.mpr (Array.mem_of_getElem? e)) m2
  .exact e
 have al:t.gaveWay=false:=by
  obtain⟨c,hc⟩:=W.pow;have hb:=W.big;have c0:c≠0:=λq=>by rw[q]at hc;lia
  obtain⟨c',rfl⟩:=Nat.exists_eq_succ_of_ne_zero c0;rw[pow_succ]at hc;unfold gaveWay;have:t.mask%2=1:=by lia
  simp[this]
 have O:∀(fuel n:Nat) (st:Option Probe),st.getD (t.probeStart h)=stand t h n->n<=N->N<n+fuel->(∀j,j<n->∀(i:Nat) g v,t.slot (way t h j)= .live i->u[i]? =some (tupleKeyHash knd v,Value.ref g)->IsTupleKey knd s.heap v g->v≠k)->
  ↥A (setSearchFrom a (.ref r) h true fuel st) Q E s:=by
  intro fuel
  induction fuel with
  | zero=>intro n st _ a1 a2;lia
  | succ fuel ih=>
    intro n st an hn a8 T;unfold setSearchFrom;refine Z2 (wpAny_setState_of ho hd hf ?_);dsimp only;rw[al];simp only[Y2,if_false];rw[an]
    generalize as:SetTable.probe t _ h (stand t h n)=pr
    have l:SetTable.probe.go t (λi=>((u[i]?).map (·.1)).getD 0) h (10*turns t.mask) (stand t h n)=pr:=as;obtain⟨q,q1,q2,q3,q4⟩:=rZ (t:=t) W.dum (hashAt:=λi=>((u[i]?).map (·.1)).getD 0) (h:=h) (10*turns t.mask) n N hn ⋯ me;rcases q4 with⟨J,e2⟩|⟨i,J,e2,e3⟩
    .rw[e2]at l;subst l;have hq:q=N:=by
      rcases Nat.eq_or_lt_of_le q2 with z|z
      .exact z
      .have:=m3 q z;rcases jy W.rise W.dum (way t h q)with⟨i,_,U⟩|⟨z2,_⟩
       .rw[J]at U;cases U
       .exact absurd this z2
     subst hq;dsimp only;refine Z3 (h2 q m2 m3 λi g v p B C=>?_);subst C;rw[hh]at p;have hi:i<u.size:=(Array.getElem?_eq_some_iff.mp p).1;have hp:t.place[i]? =some (t.place[i]'(W.size▸hi)):=by simp
     obtain⟨Y,c1,c2⟩:=W.chain i _ h _ hp p;have G:=pq W.rise hp;have a0:Y<q:=by
      rcases Nat.lt_trichotomy Y q with z|z|z
      .exact z
      .rw[z,]at c1;rw[<-c1,me]at G;cases G
      .exact absurd (c2 q z) m2
     rw[<-c1]at G;by_cases ab:Y<n
     .exact T Y ab i g v G (hh▸p) B rfl
     .obtain⟨H,U,ac⟩:=q3 Y ⋯ a0;rw[G]at U;cases U;rw[p]at ac;exact ac rfl
    .rw[e3]at l;subst l;obtain⟨x0,p⟩:∃e,u[i]? =some e:=by
      have a3:t.place[i]? =some (way t h q):=by
       rcases jy W.rise W.dum (way t h q)with⟨H,p1,I⟩|⟨_,I⟩
       .rw[J]at I;cases I;exact p1
       .rw[J]at I;cases I
      have:=(Array.getElem?_eq_some_iff.mp a3).1;exact%[u[i]'(W.size▸this)|by simp[<-W.size,this]]
     obtain⟨g,v,rfl,B⟩:=el i x0 p;have a9:q<N:=Nat.lt_of_le_of_ne q2 λz=>by rw[z,me]at J;cases J
     have L:↥A (do
      let f<-holding [Value.ref g] (eqBool (Value.ref g) (Value.ref r))
      let x<-setState a
      if(true&&f)=true then pure (SetFound.there none)
      else match x.2.snd.sameMemory t.moves t.mask with
       | some same=>
         match if same=true then x.2.snd.slot (way t h q)else Slot.empty with
         | Slot.live H=>
           match x.fst[H]? with
           | some (_,y')=>do
             let b<-isSame y' (Value.ref g)
             let d<-pure (if b=true then some H else none)
             match d with
              | none=>do
                rule "set.search.anew"
                setSearchFrom a (Value.ref r) h true fuel none
              | some H=>
                if f=true then pure (SetFound.there (some H))
                else setSearchFrom a (Value.ref r) h true fuel (some (stand t h (q+1)))
           | none=>do
             let d<-pure none
             match d with
              | none=>do
                rule "set.search.anew"
                setSearchFrom a (Value.ref r) h true fuel none
              | some H=>
                if f=true then pure (SetFound.there (some H))
                else setSearchFrom a (Value.ref r) h true fuel (some (stand t h (q+1)))
         | x=>do
           let d<-pure none
           match d with
            | none=>do
              rule "set.search.anew"
              setSearchFrom a (Value.ref r) h true fuel none
            | some H=>
              if f=true then pure (SetFound.there (some H))
              else setSearchFrom a (Value.ref r) h true fuel (some (stand t h (q+1)))
       | x=>unsupported "set.changed-during-lookup:is-the-new-block-at-the-old-address") Q E s:=by
      refine Z2 (wpAny_holding (wpAny_eqBool_tuple hu B hk (Z2 (wpAny_setState_of ho hd hf ?_))));dsimp only;by_cases C:v=k
      .subst C;rw[Zf rfl];exact Z3 (h1 %[i,g,(by rw[p]at e2;exact e2)▸p|B])
      .rw[Zh C];have sm:t.sameMemory t.moves t.mask=some true:=by unfold sameMemory;rw[if_pos ∅]
       rw[sm];simp only[if_true];rw[J];dsimp only;rw[p];dsimp only;have same:isSame (Value.ref g) (Value.ref g)=pure true:=by
        unfold isSame;simp
       refine Z2 ?_;rw[same];refine Z3 ?_;simp only[if_true];refine Z2 (Z3 ?_);dsimp only;refine ih (q+1) _ rfl ⋯ ⋯ λj hj i2 r2 k2 s2 g2 t2=>?_
       by_cases a4:j<n
       .exact T j a4 i2 r2 k2 s2 g2 t2
       .by_cases a5:j=q
        .subst a5;rw[J]at s2;cases s2;rw[p]at g2;have:g=r2:=by
          have:=Za g2;injection this with _ z
          injection z
         subst this;exact(B.inj t2)▸C
        .obtain⟨i3,p1,I⟩:=q3 j ⋯ ⋯;rw[s2]at p1;cases p1;rw[g2]at I;intro z;rw[z]at I;exact I hh
     dsimp only;rw[p];dsimp only;by_cases M:(!t.led)=true
     .rw[if_pos M];refine Z2 (uA hk _ (λy hy=>?_) ?_)
      .obtain⟨e,a6,rfl⟩:=Xr hy;obtain⟨i2,hi2⟩:=Array.getElem?_of_mem ((Array.mem_filter.mp (mem_toList_iff.mp a6)).1);obtain⟨r2,k2,rfl,a7⟩:=el i2 e hi2;exact%[r2,k2,rfl|a7]
      .exact L
     .rw[if_neg M];exact L
 exact O 100000 0 none rfl (Xh _) (by unfold turns at m1;lia) (λj hj=>absurd hj (X8 _))
end
end STab
namespace STab
open PySem PySem.SetTable
structure IN (es:Array _) (t:SetTable) (led:Bool):Prop where
 wf:WF t es
 roomy:t.place.size*5<t.mask*3
 small:t.mask<=7\/t.mask+1<=8*es.size
 led:t.led=led
 plain:es.size≠0->t.plain=false
theorem IN.fits{a:Array _}{t:SetTable}{led:Bool}(I:IN a t led):t.fits a.size=true:=by
 unfold SetTable.fits fill;rw[I.wf.dum];have:=I.roomy;simp[I.wf.size];rw[<-I.wf.size]
 lia
theorem IN.fresh(finger moves:Nat)(led:Bool):IN #[] (SetTable.fresh finger moves led) led:=
 %[%[%[3|rfl],Zi _,rfl,λa b c=>absurd c (by simp[SetTable.fresh]),λj d=>by simp[SetTable.fresh]at d,rfl|λi j h x hi=>by simp[SetTable.fresh]at hi],show 0*5<7*3 from by decide,.inl (Zi _),rfl|λq=>absurd rfl q]
section
variable{prog:Program}{w:World}{K:Type}[DecidableEq K]{knd:KeyKind prog w K}{A:Around}{E:ZD}{s:Shared}
theorem relay_w(e:s.heap.get? a=some o)(f:o.data= .set c z t)(j:t.fits c.size=true)(B:c.size<=n)(hw:n<=4000)
 (h:∀d t',d.toList.Perm c.toList->WF t' d->t'.led=t.led->t'.plain=t.plain->n<=t'.mask->t'.mask+1<=2*n\/t'.mask<=7->Q () (s>>>s.heap.update a (Obj.putSet d t'))):
 ↥A (setRelay a n) Q E s:=by
 obtain⟨k,l,g,lt,le⟩:=uz (n:=n) ⋯;have C:8<=2^k:=Yj (by simp:8<=2^3) (Nat.pow_le_pow_right ∅ l);have i:2^k<=2*n\/2^k=8:=by
  rcases le with q|q
  .exact .inl q
  .exact .inr (by rw[q])
 have m:2^k<=8000:=by rcases i with q|q<;> lia
 let p:SetTable:={t with mask:=2^k-1}
 obtain⟨t',b,r,G,u,v,H,W,P⟩:=laid_ok (t:=p) (k:=k) (by show 2^k-1+1=2^k;lia) (by show 7<=2^k-1;lia) c (by show c.size<=2^k-1;lia) t.finger _ t.led t.plain;have y:t.relaid (c.map (·.1)) n=some (t',b):=by
  unfold relaid;rw[g];exact r
 have sz:(b.filterMap (c[·]?)).size=c.size:=by rw[<-Zb,P.length_eq,Zb]
 refine Z2 (wpAny_setState_of e f j ?_);dsimp only;rw[g,if_neg (by rw[PySem.sizeLine_eq];lia)];rw[y];refine Z2 ?_;show wpAny _ A (if((b.filterMap _).size != c.size)=true then _ else pure _) _ E s;rw[if_neg (by simp[sz])];exact Z3 (wpAny_storeSet_of e f (h _ t' P W u v ⋯ (by rcases i with q|q<;> lia)) (by rw[sz,PySem.sizeLine_eq];lia))
theorem zg(e:s.heap.get? a=some o)(f:o.data= .set c j t)(g:t.fits c.size=true)(m:c.size<=1000)(n:c.size≠0)(d:t.plain=false)
 (h:∀b t',b.toList.Perm c.toList->IN b t' t.led->t'.plain=false->Q () (s>>>s.heap.update a (Obj.putSet b t'))):
 ↥A (setRelay a (grown c.size)) Q E s:=by
 have i:grown c.size=c.size*4:=by unfold grown;rw[if_neg ⋯]
 rw[i];refine relay_w e f g ⋯ ⋯ λb t' P W l p q m2=>?_
 have sz:b.size=c.size:=by rw[<-Zb,P.length_eq,Zb]
 exact h b t' P %[W,by rw[W.size,sz];lia,⋯,l|λ_=>p▸d] (p▸d)
theorem wO{led:Bool}(M:A.units<cLine)(p:s.heap.get? a=some o)(n:o.data= .set d ep t)(I:IN d t led)(hn:d.size+1<=1000)
 (el:EL knd s.heap d) (C:IsTupleKey knd s.heap k r) (hv:∀(s':Shared) (N:Bool->Shared->Prop),IsTupleKey knd s'.heap k r->N false s'->↥A (hashByValue 8 (.ref r)) N E s')
 (h1:(∃(i:Nat) (u:Addr),d[i]? =some (tupleKeyHash knd k,Value.ref u)/\IsTupleKey knd s.heap k u)->Q false {s with toks:=s.toks+(k.length+1)})
 (O:(∀(i:Nat) (u:Addr) (G:List K),d[i]? =some (tupleKeyHash knd G,Value.ref u)->IsTupleKey knd s.heap G u->G≠k)->∀g t' H h',h'.get? a=some {o with data:= .set g H t'}->SameBut a s.heap h'->g.toList.Perm (d.toList++[(tupleKeyHash knd k,Value.ref r)])->IN g t' led->Q true {s with heap:=h',toks:=s.toks+(k.length+1)}):
 ↥A (setAdd a (.ref r)) Q E s:=by
 unfold setAdd;refine wpAny_holding (Z2 (wpAny_pyHash_tuple M C ?_));unfold setAddHashed;refine wpAny_holding ?_;unfold setAddHashedIn;refine Z2 (wpAny_setState_of (s:={s with toks:=s.toks+(k.length+1)}) p n I.fits ?_);dsimp only;have ns:byScan (Value.ref r) d=false:=by unfold byScan;simp[Value.scannable]
 rw[ns];simp only[Y2,if_false];have rm:=I.roomy;refine Z2 (qw (s:={s with toks:=s.toks+(k.length+1)}) M p n I.wf ⋯ (by rcases I.small with q|q<;> lia) el C (λq=>?_) λm T m2 U=>?_)
 .exact Z3 (h1 q)
 .dsimp only;refine Z2 (wpAny_setState_of (s:={s with toks:=s.toks+(k.length+1)}) p n I.fits ?_);dsimp only;have v:=I.wf;obtain⟨p1,Y,p3,p4,p5,p6,Wp⟩:=v.put (x:=Value.ref r) T m2 t.led false;obtain⟨_,_,_,_,_,_,Wq⟩:=v.put (x:=Value.ref r) T m2 (t.put (way t (tupleKeyHash knd k) m)).1.led (t.put (way t (tupleKeyHash knd k) m)).1.plain;have y:(t.put (way t (tupleKeyHash knd k) m)).2<=d.size:=by
   rw[p1,<-v.size];exact(jx v.rise _).1
  have e:(insertAt d (t.put (way t (tupleKeyHash knd k) m)).2 (tupleKeyHash knd k,Value.ref r)).size=d.size+1:=iN _ _ _ y;have h:(insertAt d (t.put (way t (tupleKeyHash knd k) m)).2 (tupleKeyHash knd k,Value.ref r)).toList.Perm (d.toList++[(tupleKeyHash knd k,Value.ref r)]):=by
   rw[jX _ _ _ y];have q:=Xe (t.put (way t (tupleKeyHash knd k) m)).2 d.toList;refine List.Perm.trans List.perm_middle ?_;rw[q];exact perm_append_comm (l₁:=[_])
  generalize ab:insertAt d _ _=c at Wp Wq e h
  have f:∀b:SetTable,WF b c->b.mask=t.mask->b.place.size=t.place.size+1->b.led=led->b.plain=false->
   ↥A (do storeSet a c b;if(!false&&b.tooFull)=true then do setRelay a (grown (d.size+1));pure true else pure true) Q E {s with toks:=s.toks+(k.length+1)}:=λb z e1 e2 e3 e4=>by
   have g1:=by
    have q:=get?_update_self (Obj.putSet c b) p (by rw[putSet_of c b n];rfl);rwa[putSet_of c b n]at q
   have b1:=SameBut.update s.heap a (Obj.putSet c b);refine Z2 (wpAny_storeSet_of p n ?_ (e▸Yj hn (by decide)));have J:b.tooFull=true↔b.mask*3<=b.place.size*5:=by
    unfold tooFull fill;rw[z.dum];simp
   by_cases hf:b.tooFull=true
   .rw[if_pos (by simp[hf])];have B:b.fits c.size=true:=by
     unfold SetTable.fits fill;rw[z.dum];simp[z.size];exact z.size▸(by rw[e1,e2];have:=v.big;lia)
    rw[<-e];refine Z2 (zg g1 rfl B ⋯ ⋯ e4 λj L P3 I3 _=>Z3 ?_);have g2:=by
     have q:=get?_update_self (Obj.putSet j L) g1 (by rfl);rwa[putSet_of j L rfl]at q
    exact O U j L _ _ g2 (b1.trans (SameBut.update _ a _)) (P3.trans h) (by rw[e3]at I3;exact I3)
   .rw[if_neg (by simp[hf])];refine Z3 (O U c b _ _ g1 b1 h %[z,⋯,?_,e3|λ_=>e4]);rw[e1,e];rcases I.small with q|q
    .exact .inl q
    .exact .inr ⋯
  by_cases l:(t.put (way t (tupleKeyHash knd k) m)).1.plain=true
  .rw[if_pos l];exact Z2 (hv _ _ C (f _ Wp Y p3 I.led rfl))
  .rw[if_neg l];exact f _ Wq Y p3 (p4.trans I.led) (by simpa using l)
end
end STab
namespace L2
open PySem PySem.Spec PyProof.Rows STab
noncomputable def gR{a:Type}[DecidableEq a](ps:List (Addr×a))(p:Addr×a):List (Addr×a):=if p.2∈ps.map (·.2)then ps else ps++[p]
noncomputable def bg{a:Type}[DecidableEq a](l:List (Addr×a)):List (Addr×a):=l.foldl gR []
section
variable{κ:Type}[DecidableEq κ]
theorem zh{ps:List _}{p q:Addr×κ}(h:q∈gR ps p):q∈ps\/q=p:=by
 unfold gR at h
 split at h
 .exact .inl h
 simp_all
theorem wP{ps:List (Addr×κ)}{p:Addr×κ}{k:κ}:k∈(gR ps p).map (·.2)↔k∈ps.map (·.2)\/k=p.2:=by
 unfold gR;by_cases h:p.2∈ps.map (·.2)
 .rw[if_pos h];exact%[.inl|λq=>q.elim id λe=>e▸h]
 .rw[if_neg h,Zd,Yv];simp
theorem uB{ps:List (Addr×κ)}{p:Addr×κ}(h:(ps.map (·.2)).Nodup):((gR ps p).map (·.2)).Nodup:=by
 unfold gR
 split
 .exact h
 .rename_i a
  rw[Zd];exact lZ h a
theorem vz:∀(l ps:List (Addr×κ)),(ps.map (·.2)).Nodup->((l.foldl gR ps).map (·.2)).Nodup/\(∀k,k∈(l.foldl gR ps).map (·.2)↔k∈ps.map (·.2)\/k∈l.map (·.2))/\(∀q∈l.foldl gR ps,q∈ps\/q∈l)
 |[],ps,h=>%[h,λk=>by simp|λq a=> .inl a]
 | p::l,ps,h=>by
   obtain⟨b,c,d⟩:=vz l _ (uB h);rw[Y9];refine%[b,λk=>?_|λq a=>?_]
   .rw[c,wP,Yt,Yy]
    grind
   .rcases d q a with z|z
    .rcases zh z with z|z
     .exact .inl z
     .exact .inr (z▸Zm)
    .exact .inr (Zk _ z)
theorem dP(l:List (Addr×κ)):((bg l).map (·.2)).Nodup:=(vz l [] X7).1
theorem gT(l:List (Addr×κ))(k:κ):k∈(bg l).map (·.2)↔k∈l.map (·.2):=by
 have:=(vz l [] X7).2.1 k;simpa [bg]using this
theorem bu(l:List (Addr×κ)):∀q∈bg l,q∈l:=λq a=>by
 rcases(vz l [] X7).2.2 q a with z|z
 .cases z
 .exact z
theorem qx(val:Nat->Addr×κ)(i:Nat):bg ((List.range (i+1)).map val)=gR (bg ((List.range i).map val)) (val i):=by
 unfold bg;rw[Xc,Zd,List.foldl_append];rfl
end
section
variable{prog:Program}{w:World}{κ:Type}[DecidableEq κ]{knd:PySem.KeyKind prog w κ}{A:Around}{E:ZD}{s:Shared}{a:Addr}
def mZ(w:World)(knd:PySem.KeyKind prog w κ)(a:Addr)(ps:List (Addr×List κ))(h:Heap):Prop:=
 ∃o b c t,h.get? a=some o/\o.ExactSet/\o.data= .set b c t/\IN b t (!aQ w)/\b.toList.Perm (ps.map λp=>(tupleKeyHash knd p.2,Value.ref p.1))
theorem mZ.keep(S:mZ w knd a ps h)(k:∀o,h.get? a=some o->h'.get? a=some o):mZ w knd a ps h':=by
 obtain⟨o,b,c,t,d,r⟩:=S;exact%[o,b,c,t,k o d|r]
theorem l8(x:IsTupleKey knd h k r)(q:∀o,h.get? r=some o->h'.get? r=some o):IsTupleKey knd h' k r:=by
 obtain⟨o,b,n,c,z⟩:=x;exact%[o,b,n,q o c|z]
theorem zi(v:A.units<cLine)(y:mZ w knd a ps s.heap)(tk:∀q∈ps,IsTupleKey knd s.heap q.2 q.1)(B:IsTupleKey knd s.heap p.2 p.1)(room:ps.length+1<=1000)
 (C:∀(s':Shared) (m:Bool->Shared->Prop),IsTupleKey knd s'.heap p.2 p.1->m false s'->↥A (hashByValue 8 (.ref p.1)) m E s')
 (n:∀h' b tk,SameBut a s.heap h'->mZ w knd a (gR ps p) h'->s.toks<=tk->Q b {s with heap:=h',toks:=tk}):↥A (setAdd a (.ref p.1)) Q E s:=by
 obtain⟨o,g,G,t,r,f,u,I,P⟩:=y;have hn:=by
  have:=P.length_eq;rw[Z6,Zb]at this;exact this
 have mem:∀i e,g[i]? =some e->∃q∈ps,e=(tupleKeyHash knd q.2,Value.ref q.1):=λi e h=>by
  have:=mem_toList_iff.mpr (Array.mem_of_getElem? h);obtain⟨q,c,rfl⟩:=Xr (P.mem_iff.mp this);exact%[q,c|rfl]
 have H:EL knd s.heap g:=λi e h=>by
  obtain⟨q,c,rfl⟩:=mem i e h;exact%[q.1,q.2,rfl|tk q c]
 refine wO v r u I ⋯ H B C (λ⟨i,J,e,L⟩=>?_) λd j t' l h' g' M N O=>?_
 .obtain⟨q,c,T⟩:=mem i _ e;have U:J=q.1:=by injection T with _ z;injection z
  subst U;refine n s.heap false _ (SameBut.refl a s.heap) ?_ (le_add_right _ _);unfold gR;rw[if_pos (Xs %[q,c|(L.inj (tk q c)).symm])];exact%[o,g,G,t,r,f,u,I|P]
 .refine n h' true _ M ?_ (le_add_right _ _);unfold gR;rw[if_neg]
  .refine%[_,j,l,t',g',f,rfl,O|N.trans ?_];rw[Zd];exact P.append_right _
  .intro Y;obtain⟨q,c,e⟩:=Xr Y;have:=P.mem_iff.mpr (Xs %[q,c|rfl]);obtain⟨i,hi⟩:=Xi this;exact d i q.1 q.2 (by simpa using hi) (tk q c) e
end
section
variable{prog:Program}{w:World}{κ:Type}[DecidableEq κ]{knd:PySem.KeyKind prog w κ}{A:Around}{R:Result->Shared->Prop}{I:Addr}{fp wr:List Addr}{G:Array GenState->Array GenState->Prop}{n:Nat}{P:Nat->Value->Prop}{St:Nat->Shared->Prop}
theorem n8(W:WalksS prog w A.in1 I fp wr G n P St)(S:Addr)(r:S∉fp)(O:A.in1.units<cLine)(val:Nat->Addr×List κ)(t:∀i v,i<n->P i v->v= .ref (val i).1)(U:List (List κ))(hU:U.length<=999)(B:∀i,i<n->(val i).2∈U)(c:∀i,i<n->(val i).1≠S/\(val i).1∉wr)
 (Q:∀i,i<n->∀(s':Shared) (z:Bool->Shared->Prop) (T:ZD),IsTupleKey knd s'.heap (val i).2 (val i).1->z false s'->↥A.in1 (hashByValue 8 (.ref (val i).1)) z T s'):
 ∀(k i:Nat) (s:Shared),n-i=k->i<=n->St i s->mZ w knd S (bg ((List.range i).map val)) s.heap->(∀j,j<n->IsTupleKey knd s.heap (val j).2 (val j).1)->
  (∀s',Moved (S::wr) G s s'->mZ w knd S (bg ((List.range n).map val)) s'.heap->R (.ok (.ret .none)) s')->codeAny (model prog w) A (.builtin "set.update.loop" %[[.ref S,.ref I]|[]]) R s:=by
 have out:S∉wr:=λh=>r (W.sub _ h)
 have more:∀b∈wr,b∈S::wr:=λb u=>Zk _ u
 intro k
 induction k with
 | zero=>
   intro i s C hi st E tk d;have e:i=n:=by lia
   subst e;refine codeAny_builtin F.entry_set_update_loop ?_;rw[Around.under_plainId F.plain_set_update_loop _];show wpAny _ A.in1 (pyNext (.ref I)>>= _) _ _ s;refine Z2 (W.done s _ _ st λf l=>?_);show wpAny _ A.in1 (ret Value.none) _ _ f;exact Z3 (d f (l.mono more) (E.keep λo e=>l.heap S o out e))
 | succ k Y=>
   intro i s C hi st E tk d;have lt:i<n:=by lia
   refine codeAny_builtin F.entry_set_update_loop ?_;rw[Around.under_plainId F.plain_set_update_loop _];show wpAny _ A.in1 (pyNext (.ref I)>>= _) _ _ s;refine Z2 (W.item i s _ _ lt st λv f pv H l=>?_);obtain rfl:=t i v lt pv;have g:∀j,j<n->IsTupleKey knd f.heap (val j).2 (val j).1:=λj a=>l8 (tk j a) λo e=>l.heap _ o (c j a).2 e
   have J:∀q∈bg ((List.range i).map val),IsTupleKey knd f.heap q.2 q.1:=λq hq=>by
    obtain⟨j,a,rfl⟩:=Xr (bu _ q hq);exact g j (by have:=mem_range.mp a;lia)
   have room:(bg ((List.range i).map val)).length+1<=1000:=by
    have q:=nodup_sub (dP ((List.range i).map val)) (m:=U) λk C=>by
     obtain⟨p,hp,rfl⟩:=Xr ((gT _ k).mp C);obtain⟨j,a,rfl⟩:=Xr hp;exact B j (by have:=mem_range.mp a;lia)
    rw[Z6]at q
    lia
   refine Z2 (wpAny_holding (zi (p:=val i) O (E.keep (h':=f.heap) λo e=>l.heap S o out e) J (g i lt) room (λs' z=>Q i lt s' z _) λh2 b ab L M y=>Z3 %[plainId_quiet F.plain_set_update_loop _|Y (i+1) _ ⋯ lt (W.frame _ f _ _ H y λb u o e=>?_) (by rw[qx];exact M) (λj a=>l8 (g j a) λo e=>(L.2 _ (c j a).1)▸e) λs3 m3 N=>?_]))
   .rw[L.2 b (λq:b=S=>r (q▸u))];exact e
   .refine d s3 (Moved.trans W.gtrans ((l.mono more).then_heap y λb o u e=>?_) m3) N;rw[L.2 b (λq:b=S=>u (q▸Zm))];exact e
end
section
variable{prog:Program}{w:World}{κ:Type}[DecidableEq κ]{knd:PySem.KeyKind prog w κ}{A:Around}{E:ZD}{s:Shared}
theorem n9(hh:A.handled=none)(hu:A.units+16<cLine)(hl:s.heap.IsList l a)(hi:a.toList=ps.map λp=>Value.ref p.1)(tk:∀p∈ps,IsTupleKey knd s.heap p.2 p.1)(U:List (List κ))(hU:U.length<=999)(ab:∀p∈ps,p.2∈U)
 (hv:∀p∈ps,∀(B:Around) (s':Shared) (O:Bool->Shared->Prop) (E':ZD),IsTupleKey knd s'.heap p.2 p.1->O false s'->↥B (hashByValue 8 (.ref p.1)) O E' s')
 (hQ:∀(h':Heap) (tk:Nat),mZ w knd ⇑s (bg ps) h'->(∀b o,s.heap.get? b=some o->h'.get? b=some o)->Q (.ref ⇑s) {s with heap:=h',toks:=tk}):
 ↥A (call (.type "set") [.ref l]) Q E s:=by
 obtain⟨c,tl,a5⟩:=called_set.mro;have ac:=called_set.made;have a6:=called_set.sub;refine wpAny_call (codeAny_of_tree ?_);show wpAny _ _ (callAny (.type "set") _) _ _ _;refine Z3 %[Code.quiet_builtin _ (by decide +kernel)|codeAny_builtin F.entry_type_call ?_];rw[Around.under_plain (weight_type_call_type "set" [.ref l] []) rfl];have a8:=called_set.notType;have a9:=called_set.canCreate;have bb:=PySem.F.typeCall_set_1 (.ref l)
 repeat any_goals first|assumption|wp_step
 refine codeAny_mono (rN (.ref l) (E:=E) (Q₁:=λobj q=>obj= .ref ⇑s/\q=(s>>>s.heap.push (aR w))) %[rfl|rfl]) λr q C=>?_
 cases r with
 | error e=>exact C
 | ok fl=>
   cases fl with
   | ret obj=>
     obtain⟨rfl,rfl⟩:=C;have gS:(s.heap.push (aR w)).get? ⇑s=some (aR w):=Zj _ rfl;have tS:Shared.TypeIs (s>>>s.heap.push (aR w)) (.ref ⇑s) "set":=%[_,gS|rfl]
     have bc:=called_set.init.lookup;have bf:=called_set.init.bind (.ref ⇑s)
     repeat any_goals first|assumption|wp_step
     refine codeAny_mono (codeAny_call_builtin (R:=wants (λr t=>r= .none/\∃h' tk,t={s with heap:=h',toks:=tk}/\mZ w knd ⇑s (bg ps) h'/\(∀b o,s.heap.get? b=some o->h'.get? b=some o)) E) called_set.init.plain F.entry_set_init (check_set_init_1 tS ?_)) λG t f=>?_
     .obtain⟨ol,gl,cl,nl,dl⟩:=hl;obtain⟨a7,y,ag,m⟩:=ol;simp only at cl dl;subst cl;subst dl;have al:(s.heap.push (aR w)).get? l=some {cls:= .type "list",dict:=y,data:= .seq a nl,slots:=m}:=Z7 _ gl;have bl:=PySem.F.sub_list_set;have bm:=PySem.F.sub_list_frozenset;have br:(Value.type "list"==Value.type "dict")=false:=by decide
      have H:(s.heap.push (aR w)).IsList l a:=%[_,al,rfl,nl|rfl]
      unfold Builtin.«set.__init__»;unfold noKeywords;unfold Builtin.Frozenset.updateFrom
      generalize an:pyIter=PI
      wp_walk
      subst an;refine wpAny_pyIter_list H (Z2 (wpAny_runValue ?_));have I:l<⇑s:=Zv gl;have h3:A.in1.in1.in1.handled=none:=by simp[hh]
      have T:(s.heap.push (aR w)).objs.size=⇑s+1:=Zq ..;have as:l≠(s.heap.push (aR w)).objs.size:=by rw[T];exact Zt (Yq I)
      have a0:⇑s∉[(s.heap.push (aR w)).objs.size,l]:=by
       rw[T];simp only[Yy,X9,or_false,not_or];exact%[Zt (Yr _)|X3 I]
      have J:a.size=ps.length:=by rw[<-Zb,hi,Z6]
      have a1:A.in1.in1.in1.units<cLine:=by simp only[Around.in1];lia
      have g:∀i,i<a.size->∃p∈ps,ps[i]? =some p/\ps.getD i (0,[])=p:=λi h=>by
       have h':i<ps.length:=by lia
       exact%[ps[i],Yf h',by simp[h']|by simp[Zc,h']]
      refine n8 (knd:=knd) ((Walks.list h3 _ l as a).toS) ⇑s a0 a1 (λi=>ps.getD i (0,[])) (λi v d a2=>?_) U hU (λi d=>?_) (λi d=>?_) (λi d=>?_) (a.size-0) 0 _ ⋯ (Xh _)
       %[%[_,Zj _ rfl,rfl|rfl]|H.push _] %[_,#[],0,_,Z7 _ gS,%[rfl,rfl|rfl],rfl,IN.fresh 0 0 _|List.Perm.refl _] (λj d=>?_) ?_
      .obtain⟨p,u,L,n⟩:=g i d;have:a.toList[i]? =some v:=by rw[Ye];exact a2
       rw[hi,Zl,L]at this;show v= .ref (ps.getD i (0,[])).1;rw[n];exact(Za this).symm
      .obtain⟨p,u,L,n⟩:=g i d;show(ps.getD i (0,[])).2∈U;rw[n];exact ab p u
      .obtain⟨p,u,L,n⟩:=g i d;obtain⟨po,_,_,pg,_⟩:=tk p u;have M:=Zv pg;show(ps.getD i (0,[])).1≠_/\(ps.getD i (0,[])).1∉_;rw[n];refine%[Zt M|?_];simp only[Yy,X9,or_false,T];exact Zt (Yq M)
      .obtain⟨p,u,L,n⟩:=g i d;intro s' O E';show IsTupleKey knd s'.heap (ps.getD i (0,[])).2 (ps.getD i (0,[])).1->_->wpAny _ _ (hashByValue 8 (.ref (ps.getD i (0,[])).1)) _ _ _;rw[n];exact hv p u _ s' O E'
      .obtain⟨p,u,L,n⟩:=g j d;show IsTupleKey knd _ (ps.getD j (0,[])).2 (ps.getD j (0,[])).1;rw[n];exact l8 (tk p u) λo e=>Z7 _ (Z7 _ e)
      intro s3 Y S3;have C:(List.range a.size).map (λi=>ps.getD i (0,[]))=ps:=by
       rw[J];apply ext_getElem
       .simp
       .intro i h1 h2;simp[Zc,h2]
      rw[C]at S3;obtain⟨h',g',d',a3,a4⟩:=s3;have eg:g'=s.gens:=Y.gens;have ed:d'=s.drawn:=Y.drawn;have eo:a4=s.os:=Y.os;subst eg;subst ed;subst eo;refine Z3 ?_;show wpAny _ _ (ret Value.none) _ _ _;refine Z3 %[rfl,h',a3,rfl,S3|λb o e=>?_];have N:=Zv e;refine Y.heap b o ?_ (Z7 _ (Z7 _ e));simp only[Yy,X9,or_false,not_or,T];exact%[Zt N|Zt (Yq N)]
     .cases G with
      | error e=>exact f
      | ok z=>
        cases z with
        | ret r=>
          obtain⟨rfl,h',tk,rfl,S3,k3⟩:=f
          repeat any_goals first|assumption|wp_step
          exact hQ _ _ S3 k3
        | _=>exact f.elim
   | _=>exact C.elim
end
open PySem PySem.Spec PyProof.Rows
section
variable{prog:Program}{w:World}{A:Around}{s:Shared}
theorem jo{a:Addr}{vs:ZF}{n:Nat}{kd:SortKind}{Nv:Value->Nat}{P:Fin->Shared->Prop}{E:ZD}(B:s.heap.get? a=some (seqObj "list" vs.toArray n))(G:vs.length<=100000)
 (f:∀j:Heap,(∀b o,b≠a->s.heap.get? b=some o->j.get? b=some o)->2<=vs.length->∀Q:SortKind->Shared->Prop,Q kd (s>>>j)->↥A (keyKind' vs.toArray) Q E (s>>>j))
 (H:∀j:Heap,(∀b o,b≠a->s.heap.get? b=some o->j.get? b=some o)->SBig.Cmp prog w A (λs'=>s'=(s>>>j)) kd (λx=>x.1∈vs) (λx=>Nv x.1))
 (h:∀out:ZF,out.Perm vs->out.Pairwise (λx y=>Nv x<=Nv y)->P (.done (.ret .none)) (s>>>sortedHeap s.heap a vs out.toArray)):
 ↥A (Builtin.«list.sort» %[[.ref a]|[]]) P E s:=by
 rw[list_sort_plain];have M:a<⇑s:=Zv B;have g:vs.length<=sizeLine:=Yj G (by decide);refine Z2 (listItems_at B rfl ?_);refine Z2 (listUpdate_at B rfl ?_ (g));obtain⟨I,t⟩:∃I,(s.heap.update a (Obj.mapSeq λ_=> #[])).get? a=some (seqObj "list" #[] I):=%[_|get?_update_seq B (λ_=> #[])]
 refine Z2 (seqEpoch_at t rfl ?_);refine Z2 (wpAny_newTuple ?_ (g));refine Z2 (wpAny_newList ?_);refine wpAny_holding ?_;have keep:∀b o,b≠a->s.heap.get? b=some o->(((s.heap.update a (Obj.mapSeq λ_=> #[])).push (seqObj "tuple" vs.toArray 0)).push (seqObj "list" #[] 0)).get? b=some o:=λb o T e=>
  Z7 _ (Z7 _ ((get?_update_other _ _ (Ne.symm T)).trans e))
 have d:(((s.heap.update a (Obj.mapSeq λ_=> #[])).push (seqObj "tuple" vs.toArray 0)).push (seqObj "list" #[] 0)).get? a=some (seqObj "list" #[] I):=by
  rw[Heap.get?_push_ne _ _ _ (by rw[size_push',Heap.size_update];exact Zt (Yq M)),Heap.get?_push_ne _ _ _ (by rw[Heap.size_update];exact Zt M)];exact t
 have f:=f _ keep;have H:=H _ keep;show ↥A _ P E {s with heap:=((s.heap.update a (Obj.mapSeq λ_=> #[])).push (seqObj "tuple" vs.toArray 0)).push (seqObj "list" #[] 0)};dsimp only;have J:vs.toArray.size=vs.length:=by simp
 have u:(vs.toArray.zip vs.toArray).toList=vs.map λv=>(v,v):=by
  rw[Array.toList_zip,List.toList_toArray];apply ext_getElem
  .simp
  .intro i h1 l;simp
 have z:∀c:SortSt,(arrOf c).toList.Perm (vs.map λv=>(v,v))->SBig.Srt (λx=>Nv x.1) (arrOf c).toList->P (.done (.ret .none)) (s>>>(sortedHeap s.heap a vs ((arrOf c).map (·.2)))):=by
  intro c m C;have N:∀x∈(arrOf c).toList,x.1=x.2:=λx p=>by
   obtain⟨v,_,rfl⟩:=Xr (m.mem_iff.mp p);rfl
  have e:(arrOf c).map (·.2)=((arrOf c).toList.map (·.2)).toArray:=by
   apply Array.ext';simp
  rw[e];refine h _ ?_ ?_
  .have:=m.map (·.2);rwa[Yu,show((λx:Keyed=>x.2) ∘ λv:Value=>(v,v))=id from rfl,map_id]at this
  .rw[Xb];exact Xj (λ{x y} p U q=>by rw[<-N x p,<-N y U];exact q) C
 by_cases l:vs.toArray.size<2
 .rw[if_pos l,if_pos l];refine Z2 (Z3 ?_);rw[StateT.run_pure];refine Z2 (Z3 ?_);dsimp only;refine Z2 (seqEpoch_at d rfl (Z2 (listUpdate_at d rfl ?_ (hsz2:=by rw[size_map];show(pairsOf vs).size<=_;rw[pairsOf_size,sizeLine_eq];lia))));simp only[bne_self_eq_false,Y2,if_false];refine Z3 (z _ (by rw[u]) ?_);rw[u]
  match vs,J,l with
  |[],_,_=>exact List.Pairwise.nil
  |[v],_,_=>exact List.pairwise_singleton _ _
  | v1::v2::r,h3,Y=>simp at Y;lia
 .rw[if_neg l,if_neg l];refine Z2 (f ⋯ _ ?_);refine Z2 (wpAny_mono (SBig.sc_sortRuns (D:=λx=>x.1∈vs) (st:=SortSt.mk' kd (vs.toArray.zip vs.toArray) #[] 7 none) H (λx p=>?_) ?_ rfl rfl
   (Q:=λ_ c=>(arrOf c).toList.Perm (vs.map λv=>(v,v))/\failedOf c=none/\SBig.Srt (λx=>Nv x.1) (arrOf c).toList) (λc L a2 a3=>%[?_,a3|a2]) _ rfl) ?_ λ_ _ e=>e.elim)
  .rw[u]at p;obtain⟨v,hv,rfl⟩:=Xr p;exact hv
  .rw[<-Zb,u,Z6]
   lia
  .have L:(arrOf c).toList.Perm (vs.toArray.zip vs.toArray).toList:=L;rwa[u]at L
  .rintro⟨⟨⟩,c⟩ s' ⟨rfl,m,O,C⟩;dsimp only at m O C ⊢;refine Z2 (seqEpoch_at d rfl (Z2 (listUpdate_at d rfl ?_ (hsz2:=?_))))
   .rw[O];simp only[bne_self_eq_false,Y2,if_false];exact Z3 (z c m C)
   .rw[size_map,<-Zb,m.length_eq,Z6];exact Nat.le_succ_of_le g
end
noncomputable def aX(x y:Str):Bool:=decide (x.cps.toList<y.cps.toList)
noncomputable def dv:ZB->ZB->Bool
 |[],[]=>false
 |[],_::_=>true
 | _::_,[]=>false
 | x::xs,y::ys=>if x=y then dv xs ys else aX x y
theorem fG(x:Str):aX x x=false:=Zh (List.lt_irrefl _)
theorem Dq{x y:Str}(h:x.cps.toList=y.cps.toList):x=y:=by
 obtain⟨⟨l⟩⟩:=x
 simp_all
theorem gi{x y z:Str}(a:aX x y=true)(b:aX y z=true):aX x z=true:=Zf (List.lt_trans (Zo a) (Zo b))
theorem gu{x y:Str}(h:aX x y=false)(a:x≠y):aX y x=true:=by
 exact Zf (Classical.byContradiction λb=>a (Dq (List.le_antisymm b (of_decide_eq_false h))))
theorem vA:∀x,dv x x=false
 |[]=>rfl
 | x::xs=>by rw[dv,if_pos rfl];exact vA xs
theorem i4:∀{x y z:ZB},dv x y=true->dv y z=true->dv x z=true
 |[],[],z,b,a=>by cases b
 |[],y::ys,[],b,a=>by cases a
 |[],y::ys,z::zs,b,a=>rfl
 | x::xs,[],z,b,a=>by cases b
 | x::xs,y::ys,[],b,a=>by cases a
 | x::xs,y::ys,z::zs,b,a=>by
   rw[dv]at b a ⊢;by_cases d:x=y
   .rw[if_pos d]at b;subst d;by_cases c:x=z
    .rw[if_pos c]at a ⊢;exact i4 b a
    .rw[if_neg c]at a ⊢;exact a
   .rw[if_neg d]at b;by_cases c:y=z
    .rw[if_pos c]at a;subst c;rw[if_neg d];exact b
    .rw[if_neg c]at a;have f:=gi b a;rw[if_neg (λe=>by rw[e,fG]at f;cases f)];exact f
theorem kD:∀{x y:ZB},dv x y=false->x≠y->dv y x=true
 |[],[],a,c=>absurd rfl c
 |[],y::ys,a,c=>by cases a
 | x::xs,[],a,c=>rfl
 | x::xs,y::ys,a,c=>by
   rw[dv]at a ⊢;by_cases b:x=y
   .rw[if_pos b]at a;rw[if_pos b.symm];exact kD a λe=>c (by rw[b,e])
   .rw[if_neg b]at a;rw[if_neg (Ne.symm b)];exact gu a b
noncomputable def gA(ks:List ZB)(k:ZB):Nat:=ks.countP λu=>dv u k
theorem jY{ks:List ZB}{x y:ZB}(b:x∈ks):dv x y=decide (gA ks x<gA ks y):=by
 have up:∀(l:List ZB) p q,(∀u∈l,p u=true->q u=true)->l.countP p<=l.countP q:=λl p q h=>List.countP_mono_left h
 cases h:dv x y with
 | true=>
   symm
   refine Zf ?_;have c:∀l:List _,x∈l->l.countP (λu=>dv u x)<l.countP (λu=>dv u y):=by
    intro l
    induction l with
    | nil=>simp
    | cons u l d=>
      intro b;rw[countP_cons,countP_cons];have le:=up l (λu=>dv u x) _ λu _ a=>i4 a h
      rcases mem_cons.mp b with e|e
      .subst e;rw[if_neg (by rw[vA];simp),if_pos h]
       lia
      .by_cases a:dv u x=true
       .rw[if_pos a,if_pos (i4 a h)]
        lia
       .rw[if_neg a]
        split<;> lia
   exact c ks b
 | false=>
   symm
   refine Zh (Nat.not_lt.mpr (up ks _ _ λu _ a=>?_));by_cases e:x=y
   .exact e▸a
   .exact i4 a (kD h e)
section
variable{prog:Program}{w:World}{A:Around}{s:Shared}{E:ZD}
abbrev wQ(prog:Program)(w:World)(h:Heap)(zs:ZB)(r:Addr):Prop:=IsTupleKey (aP prog w) h (zs.map Sum.inr) r
theorem gB:∀{zs:ZB} {vs:ZF},ItemsAre (aP prog w) (zs.map Sum.inr) vs->StrsAre vs zs
 |[],_,h=>by cases h;exact .nil
 | z::zs,_,h=>by
   cases h with
   | cons a d=>
     have a:jI (Sum.inr z) _=true:=a;rcases bq a with⟨i,t,b,c⟩|⟨y,t,b,c⟩
     .cases b
     .cases b;subst c;exact .cons z t (gB d)
theorem B0{b a:Bool}{Q:Bool->Shared->Prop}:∀(x y:ZB) (vs us:ZF) (i:Nat),StrsAre vs x->StrsAre us y->(x.length=y.length)->a=false->Q (dv x y) s->PySem.W.KatLex prog w A b a Q (vs.zip us) i s
 |[],[],_,_,i,.nil,.nil,_,c,h=>c▸h
 | x::xs,y::ys,_,_,i,.cons _ t d,.cons _ u f,g,c,h=>by
   rw[List.zip_cons_cons];refine PySem.W.kat_cons (eqBool_str ?_);rw[dv]at h;by_cases e:x=y
   .subst e;rw[if_pos rfl]at h;rw[beq_self_eq_true];exact PySem.W.kat_yes (B0 xs ys _ _ _ d f (by simpa using g) c h)
   .rw[if_neg e]at h;rw[beq_eq_false_iff_ne.mpr e];refine PySem.W.kat_no ?_;cases j:(b&&i==0)with
    | true=>exact oneLt_str h
    | false=>exact PySem.W.kat_one _ _ (lt_str h)
theorem Be{x y:ZB}{r q:Addr}{Q:Bool->Shared->Prop}{b:Bool}(d:wQ prog w s.heap x r)(e:wQ prog w s.heap y q)(f:x.length=y.length)(h:Q (dv x y) s):↥A (keyLt' (tuples' b) (.ref r) (.ref q)) Q E s:=by
 obtain⟨o,xs,nx,g,_,i,j⟩:=d;obtain⟨p,ys,t,l,_,m,n⟩:=e;have a:=gB j;have c:=gB n;refine PySem.W.kat_lt g i l m (B0 x y _ _ 0 a c f ?_ h);have u:=bB a;have v:=bB c
 simp_all
end
theorem sd [DecidableEq d][DecidableEq i](g:d->i)(j:∀a b,g a=g b->a=b)(l:List (Addr×d)):bg (l.map λp=>(p.1,g p.2))=(bg l).map λp=>(p.1,g p.2):=by
 have m:∀(l ps:List _),(l.map λp=>(p.1,g p.2)).foldl gR (ps.map λp=>(p.1,g p.2))=(l.foldl gR ps).map λp=>(p.1,g p.2):=by
  intro l
  induction l with
  | nil=>intro ps;rfl
  | cons p l n=>
    intro ps;rw[Yt,Y9,Y9];have e:gR (ps.map λp=>(p.1,g p.2)) (p.1,g p.2)=(gR ps p).map λp=>(p.1,g p.2):=by
     unfold gR;have f:(g p.2∈(ps.map λp=>(p.1,g p.2)).map (·.2))↔p.2∈ps.map (·.2):=by
      rw[Yu]
      constructor
      .intro h;obtain⟨q,c,e⟩:=Xr h;exact Xs %[q,c|j _ _ e]
      .intro h;obtain⟨q,c,e⟩:=Xr h;exact Xs %[q,c|by show g q.2=g p.2;rw[e]]
     by_cases h:p.2∈ps.map (·.2)
     .rw[if_pos h,if_pos (f.mpr h)]
     .rw[if_neg h,if_neg (λz=>h (f.mp z)),Zd];rfl
    rw[e];exact n _
 exact m l []
noncomputable abbrev ES(p:Addr×ZB):Addr×List Key:=(p.1,p.2.map Sum.inr)
theorem qy:∀a b:ZB,a.map (Sum.inr:Str->Key)=b.map Sum.inr->a=b
 |[],[],_=>rfl
 |[],_::_,h=>by cases h
 | _::_,[],h=>by cases h
 | x::xs,y::ys,h=>by
   injection h with c d
   injection c with e
   rw[e,qy xs ys d]
section
#where
variable{S:Addr}
theorem m7:∀{vs:ZF} {zs:ZB},StrsAre vs zs->ItemsAre (aP prog w) (zs.map Sum.inr) vs
 | _,_,.nil=> .nil
 | _,_,.cons x t h=> .cons (dw x t) (m7 h)
theorem Bf(c:zs≠[])(b:wQ prog w s.heap zs r)(h:Q false s):↥A (hashByValue 8 (.ref r)) Q E s:=by
 have d:=b.typeIs;obtain⟨o,a,n,e,_,f,hi⟩:=b;refine Z2 (wpAny_specialOf d F.slot_tuple_hash.lookup (Z2 (wpAny_seqItems e f (Z2 ?_))));rw[<-forIn_toList]
 match zs,a.toList,(gB hi),c with
 | z::zs,_,.cons _ t g,_=>
   exact Z2 (Z2 (Z3 (Z3 (Z3 (Z3 h)))))
noncomputable def kOf(ps:ZG):Value->ZB
 | .ref r=>((ps.find? λp=>p.1==r).map (·.2)).getD []
 | _=>[]
noncomputable def aOf:Value->Addr
 | .ref r=>r
 | _=>0
theorem m8(J:∀(E1:ZD) (R:ZF->Shared->Prop),(∀c vs,vs.Perm (ps.map λp=>Value.ref p.1)->(∀b o,s.heap.get? b=some o->c.heap.get? b=some o)->c.gens=s.gens->c.os=s.os->R vs c)->↥A.in1 (collect (.ref S)) R E1 s)(tk:∀p∈ps,wQ prog w s.heap p.2 p.1)(U:∀p∈ps,p.2.length=m)(m0:m≠0)(few:ps.length<=1000)
 (hQ:∀(c s':Shared) (l:Addr) (ss:ZG) (n:Nat),ss.Perm ps->ss.Pairwise (λa b=>dv b.2 a.2=false)->(∀b o,s.heap.get? b=some o->c.heap.get? b=some o)->c.gens=s.gens->c.os=s.os->(∀b o,c.heap.get? b=some o->s'.heap.get? b=some o)->s'.gens=c.gens->s'.os=c.os->⇑c<=l->s'.heap.get? l=some {cls:= .type "list",data:= .seq (ss.map λp=>Value.ref p.1).toArray n}->Q (.ref l) s'):
 ↥A (call (.builtin "sorted") [.ref S]) Q E s:=by
 have j:∀p∈ps,kOf ps (.ref p.1)=p.2:=λp d=>by
  show((ps.find? λq=>q.1==p.1).map (·.2)).getD []=p.2;cases r:ps.find? λq=>q.1==p.1 with
  | none=>
    have:=List.find?_eq_none.mp r p d;simp at this
  | some q=>
    have B:=List.mem_of_find?_eq_some r;have e:q.1=p.1:=by have:=List.find?_some r;simpa using this
    show q.2=p.2;have t1:=tk q B;rw[e]at t1;exact qy _ _ (t1.inj (tk p d))
 refine Calls.call_function_entry kind_sorted plain_sorted entry_sorted (args_sorted1 _) ?_;unfold Builtin.«sorted»;refine Z2 (m:=checkCount "sorted" 1 1 _) (Z3 ?_);refine Z2 (J _ _ λc vs Y k1 g1 o1=>?_);have hl:vs.length=ps.length:=by rw[Y.length_eq,Z6]
 have mem:∀v∈vs,∃p∈ps,v=Value.ref p.1:=λv C=>by
  obtain⟨p,d,rfl⟩:=Xr (Y.mem_iff.mp C);exact%[p,d|rfl]
 refine Z2 (wpAny_newList ?_ (by rw[sizeLine_eq];lia));have gL:(c.heap.push (seqObj "list" vs.toArray 0)).get? ⇑c=some (seqObj "list" vs.toArray 0):=Zj _ rfl;have G:∀p∈ps,∀i:Heap,(∀b o,b≠⇑c->(c.heap.push (seqObj "list" vs.toArray 0)).get? b=some o->i.get? b=some o)->wQ prog w i p.2 p.1:=λp d i I=>by
  refine l8 (tk p d) λo e=>?_
  have L:=k1 _ _ e;exact I _ _ (Zt (Zv L)) (Z7 _ L)
 refine Z2 (wpAny_holding (wpAny_call_entry slot_list_sort %[_,gL|rfl] entry_list_sort (jo (s:=(c>>>c.heap.push (seqObj "list" vs.toArray 0))) (kd:=tuples' true) (Nv:=λv=>gA (ps.map (·.2)) (kOf ps v)) gL ⋯ (λi I as Q6 ab=>?_) (λi I=>?_) λout p1 p2=>%[_,rfl|?_]) (args_list_sort _)))
 .have tups:∀l:ZF,(∀v∈l,∃p∈ps,v=Value.ref p.1)->∃fs:ZF,KatTups i l fs/\fs.length=l.length/\∀f∈fs,∃z t,f=Value.str z t:=by
   intro l
   induction l with
   | nil=>intro _;exact%[[],KatTups.nil,rfl|λf r=>by cases r]
   | cons v l ih=>
     intro C;obtain⟨fs,f1,f2,f3⟩:=ih λu hu=>C u (Zk _ hu)
     obtain⟨p,d,rfl⟩:=C v Zm;obtain⟨o',g,n',g',c',d',i'⟩:=G p d i I;have h:=gB i';have ac:p.2≠[]:=λe=>by have:=U p d;rw[e]at this;exact m0 this.symm
     obtain⟨z,zs,ez⟩:∃z zs,p.2=z::zs:=by
      cases ag:p.2 with
      | nil=>exact absurd ag ac
      | cons z zs=>exact%[z,zs|rfl]
     rw[ez]at h;obtain⟨t',vr,ev⟩:∃t' vr,g.toList=Value.str z t'::vr:=by
      cases M:g.toList with
      | nil=>rw[M]at h;cases h
      | cons a b=>
        rw[M]at h;cases h with
        | cons _ t' _=>exact%[t',b|rfl]
     have e0:g[0]? =some (Value.str z t'):=by
      have:g.toList[0]? =some (Value.str z t'):=by rw[ev];rfl
      simpa using this
     exact⟨Value.str z t'::fs,KatTups.cons g' c' d' e0 f1,by simp[f2],λf r=>by
      rcases mem_cons.mp r with e|e
      .exact%[z,t'|e]
      .exact f3 f e⟩
  obtain⟨fs,f1,f2,f3⟩:=tups vs mem;refine PySem.W.kat_kind (T:= .type "str") f1 ⋯ (λf r=>?_) (by decide) ab;obtain⟨z,t',rfl⟩:=f3 f r;exact Looks.of_pure rfl
 .intro x y s' hx hy h;subst h;obtain⟨p,d,al⟩:=mem _ hx;obtain⟨q,B,an⟩:=mem _ hy;obtain⟨x1,x2⟩:=x;obtain⟨y1,y2⟩:=y;obtain rfl:x1=Value.ref p.1:=al;obtain rfl:y1=Value.ref q.1:=an;show ↥A.in1.in1 (keyLt' (tuples' true) (Value.ref p.1) (Value.ref q.1)) (λb s'=>b=decide (gA (ps.map (·.2)) (kOf ps (Value.ref p.1))<gA (ps.map (·.2)) (kOf ps (Value.ref q.1)))/\s'=(c>>>i)) (λ_ _=>False) (c>>>i);rw[j p d,j q B];refine Be (s:=(c>>>i)) (G p d i I) (G q B i I) (by rw[U p d,U q B]) %[?_|rfl];exact jY (Xs %[p,d|rfl])
 .have O:out.Perm (ps.map λp=>Value.ref p.1):=p1.trans Y;have oe:out=(out.map λv=>(aOf v,kOf ps v)).map λp=>Value.ref p.1:=by
   rw[Yu];refine(map_id out).symm.trans (Ys λv C=>?_);obtain⟨p,d,rfl⟩:=Xr (O.mem_iff.mp C);rfl
  obtain⟨n,gl⟩:∃n,(sortedHeap (c.heap.push (seqObj "list" vs.toArray 0)) ⇑c vs out.toArray).get? ⇑c=some (seqObj "list" out.toArray n):=sortedHeap_at gL;refine Z3 %[_,rfl|hQ c _ ⇑c (out.map λv=>(aOf v,kOf ps v)) n ?_ ?_ k1 g1 o1 (λb o' L=>?_) rfl rfl (Zi _) ?_]
  .have:=O.map λv=>(aOf v,kOf ps v)
   rw[Yu]at this;refine this.trans ?_;have:(ps.map ((λv=>(aOf v,kOf ps v)) ∘ λp=>Value.ref p.1))=ps:=by
    refine(Ys λp d=>?_).trans (map_id ps);show(p.1,kOf ps (.ref p.1))=p;rw[j p d]
   rw[this]
  .rw[Xb];refine Xj (λ{u v} hu C H=>?_) p2;obtain⟨p,d,rfl⟩:=Xr (O.mem_iff.mp hu);obtain⟨q,B,rfl⟩:=Xr (O.mem_iff.mp C);show dv (kOf ps (.ref q.1)) (kOf ps (.ref p.1))=false;have H:gA (ps.map (·.2)) (kOf ps (.ref p.1))<=gA (ps.map (·.2)) (kOf ps (.ref q.1)):=H;rw[j p d,j q B]at H ⊢;rw[jY (ks:=ps.map (·.2)) (Xs %[q,B|rfl])];exact Zh ⋯
  .have N:=Zv L;show(sortedHeap _ _ _ _).get? b=_;rw[sortedHeap_old (Zt N) (by rw[Zq];exact Yq N)];exact Z7 _ L
  .have e3:(seqObj "list" out.toArray n)=({cls:= .type "list",data:= .seq ((out.map λv=>(aOf v,kOf ps v)).map λp=>Value.ref p.1).toArray n}:Obj):=by
    rw[(congrArg List.toArray oe.symm)]
   exact gl.trans (congrArg some e3)
end
section
variable{X:Cx}{K:ZA}
noncomputable def m9(P:Program)(w:World)(a:Addr)(ps:ZG):HO:= .ext (mZ w (aP P w) a (ps.map ES))
def ba(H:Hp)(ps:ZG):Prop:=∀p∈ps,p.2≠[]/\H p.1=some (.tup (p.2.map V.str))
theorem qz(I:Inv X pins f H s)(h:ba H ps):∀p∈ps,wQ X.prog X.w s.heap p.2 p.1:=λp a=>by
 obtain⟨_,its,b,o,c,d,n,e⟩:=I.hok p.1 _ (h p a).2;exact%[o,its.toArray,n,c,d,e|m7 (gG b)]
theorem qA:∀{ps:ZG} {us:ZF},aF (ps.map λp=>V.ref p.1) us->us=ps.map λp=>Value.ref p.1
 |[],_,.nil=>rfl
 | _::_,_,.cons r t=>by
   cases r;rw[qA t];rfl
theorem qB:∀(ps:ZG),aF (ps.map λp=>V.ref p.1) (ps.map λp=>Value.ref p.1)
 |[]=> .nil
 | _::ps=> .cons rfl (qB ps)
theorem wR(j:X.calm=true)(C:X.A.units+64<cLine):cx X (.type "set") (λxs H Q=>∃p ps,xs=[.ref p]/\SqL X.K H p (ps.map λq=>V.ref q.1)/\ba H ps/\(∃U:List _,U.length<=999/\∀q∈ps,q.2∈U)/\∀l,H l=none->Q (.ref l) (upd H l (m9 X.prog X.w l (bg ps)))):=by
 intro pins s E H xs us Q I r h;obtain⟨p,ps,rfl,m,g,⟨U,G,d⟩,q⟩:=h;obtain⟨u,rfl,n⟩:=dh r;cases n;obtain⟨its,t,pl,J⟩:=I.list m;have v:=qA t;refine n9 (knd:=aP X.prog X.w) (I.ok.hd j) ⋯ pl.isList (ps:=ps.map ES) (by simp_all) (λi a=>?_) (U.map λz=>z.map Sum.inr) (by simp_all) (λi a=>?_) (λi a B s' L M e f=>?_) λh' w S k=>?_
 .obtain⟨b,c,rfl⟩:=Xr a;exact(qz I g) b c
 .obtain⟨b,c,rfl⟩:=Xr a;exact Xs %[b.2,d b c|rfl]
 .obtain⟨b,c,rfl⟩:=Xr a;exact Bf (g b c).1 e f
 .rw[(sd _ qy ps)]at S;refine%[.ref ⇑s,_,I.laid (o:=m9 X.prog X.w ⇑s _) k (Zi _) %[S,?_|λN O y k1=>mZ.keep y k1],rfl|q _ I.fresh];obtain⟨o,_,_,_,A,_⟩:=S;exact%[o|A]
theorem qC(v:X.calm=true):cx X (.builtin "sorted") (λxs H Q=>∃a ps m,xs=[.ref a]/\H a=some (m9 X.prog X.w a ps)/\ba H ps/\(∀p∈ps,p.2.length=m)/\m≠0/\ps.length<=1000/\
 ∀l (ss:List _),H l=none->ss.Perm ps->ss.Pairwise (λa b=>dv b.2 a.2=false)->Q (.ref l) (upd H l (.lst (ss.map λp=>V.ref p.1)))):=by
 intro pins s O H xs us Q I r h;obtain⟨a,ps,m,rfl,w,y,z,A,few,q⟩:=h;obtain⟨u,rfl,B⟩:=dh r;cases B;obtain⟨⟨o,d,T,t,C,e,E,J,P⟩,_,_⟩:=(I.hok a _ w)
 have U:d.size=ps.length:=by
  have:=P.length_eq
  simp_all
 have pv:(d.toList.map (·.2)).Perm (ps.map λp=>Value.ref p.1):=by
  have:=P.map (·.2);rw[Yu,Yu]at this;exact this
 refine m8 (λY R G=>jR (I.ok.hd v) C e E (by show d.size<4096;lia) J.fits J.plain J.led λi vs L k1 g1 f _=>G i vs (L.trans pv) k1 g1 f) (qz I y) z A few λi s' l ss n j M k1 g1 f k g o c N=>?_
 have I:=I.keptS k1 g1 f;refine%[.ref l,_,I.stoodS (o:= .lst _) (I.keptS k g o) c %[?_,ss.map _,n,qB ss|N],rfl|q l ss (I.hok.fresh c) j M];rw[Z6,j.length_eq,sizeLine_eq]
 lia
theorem zj{P:Program}(h:X.K=K)(c:X.prog=P)(hw:X.w=w)(a:X.calm=true)(b:ce k X.A):cN X (.type "set") (λxs H Q=>∃p ps,xs=[.ref p]/\SqL K H p (ps.map λq=>V.ref q.1)/\ba H ps/\(∃U:List ZB,U.length<=999/\∀q∈ps,q.2∈U)/\∀l,H l=none->Q (.ref l) (upd H l (m9 P w l (bg ps)))):=by
 subst h;subst hw;exact⟨wR a b.units⟩
theorem pC{P:Program}(d:X.prog=P)(hw:X.w=w)(c:X.calm=true):cN X (.builtin "sorted") (λxs H Q=>∃a ps m,xs=[.ref a]/\H a=some (m9 P w a ps)/\ba H ps/\(∀p∈ps,p.2.length=m)/\m≠0/\ps.length<=1000/\
 ∀(l:Addr) (ss:ZG),H l=none->ss.Perm ps->ss.Pairwise (λa b=>dv b.2 a.2=false)->Q (.ref l) (upd H l (.lst (ss.map λp=>V.ref p.1)))):=by
 subst hw;exact⟨qC c⟩
end
noncomputable def wS(K:ZA)(a b:Addr):It:=⟨λi H=>∃xs ys x y,SqL K H a xs/\SqL K H b ys/\xs[i]? =some x/\ys[i]? =some y,
 λi H v c=>∃T x y,H T=none/\v= .ref T/\c=upd H T (.tup [x,y])/\(∀xs,SqL K H a xs->xs[i]? =some x)/\(∀ys,SqL K H b ys->ys[i]? =some y),
 λi H=>∃xs ys,SqL K H a xs/\SqL K H b ys/\i<=xs.length/\i<=ys.length/\(i=xs.length\/i=ys.length)⟩
theorem wU{P:Program}{K:ZA}(z TI TO i1 i2 l1 l2:Addr)(D:ZipApart z TI TO i1 i2 l1 l2):
 pS P w K (.Tuple elts kt tp) (wS K l1 l2) [z,TI,TO,i1,i2] z (ZSt z TI TO i1 i2 (λi h=>h.IsListIter i1 l1 i) (λi h=>h.IsListIter i2 l2 i)) where
 mem:=by simp
 obj:=λi h st b hb=>by
  obtain⟨hz,hTI,⟨a,c,hTO⟩,⟨o1,e1,_,d1⟩,o2,e2,_,d2⟩:=st
  grind
 keep:=λi h h' st k=>by
  obtain⟨hz,hTI,⟨a,c,hTO⟩,⟨o1,e1,r1⟩,o2,e2,r2⟩:=st;exact%[k z ∅ _ hz,k TI ∅ _ hTI,%[a,c|k TO ∅ _ hTO],%[o1,k i1 ∅ _ e1|r1],o2,k i2 ∅ _ e2|r2]
 item:=by
  intro X hP hw hK hc i pins s σ H E I hf st hg;subst hP hw hK;obtain⟨hz,hTI,⟨a,c,hTO⟩,h1,h2⟩:=st;obtain⟨xs,ys,x,y,hq1,hq2,hx,hy⟩:=hg;obtain⟨its1,rv1,pl1,hz1⟩:=I.list hq1;obtain⟨its2,rv2,pl2,hz2⟩:=I.list hq2;obtain⟨u1,hu1,ru1⟩:=rv1.get hx;obtain⟨u2,hu2,ru2⟩:=rv2.get hy;refine wpAny_pyNext_zip_item D hz hTI hTO h1 h2 pl1.isList pl2.isList (x:=u1) (y:=u2) (by simpa using hu1) (by simpa using hu2) λh' a1 a2 a3 a4 a5 a6 hk=>%[_,rfl|wpAny_letOwnedTupleGo_zip (s:=(s>>>h')) a1 λh'' hz'' sb=>?_]
  replace sb:SameBut z h' h'':=sb;have turn1:Inv X pins σ H (s>>>h''):=by
   have nit:∀b v,H b=some v->b∉[z,TI,TO,i1,i2]:=λb v e hb=>by rw[(hf b hb).1]at e;cases e
   have kk:∀b o,b∉[z,TI,TO,i1,i2]->s.heap.get? b=some o->h''.get? b=some o:=λb o hb e=>by
    simp only[Yy,X9,or_false,not_or]at hb;exact(sb.2 b hb.1).trans (hk b o hb.1 hb.2.2.1 hb.2.2.2.1 hb.2.2.2.2 e)
   refine I.step (g':=s.gens) (d':=s.drawn) (ch:=[z,TI,TO,i1,i2]) (λb hb=>%[(hf b hb).2.2.2.1,(hf b hb).2.1,(hf b hb).2.2.2.2.1|(hf b hb).2.2.2.2.2]) (λb o _ _ hc e _=>kk b o hc e) (λb o _ _ hc e _=>%[o.slots|kk b o hc e]) (λ_ _ _ _ n=>n)
    (λb o hc e=>%[o|kk b o hc e]) (λ_ _ e=>e) (λ_ _ _ e=>e) (λb ps e=>%[#[]|by rw[e];simp]) (λm hm=>?_) (λb v e=>?_) I.bare
   .obtain⟨o,es,ep,ho,r⟩:=hm;exact%[o,es,ep,kk _ o (λhb=>(hf _ hb).2.1 rfl) ho|r]
   .refine(I.hok b v e).stay (λc' v' hc' q=>kk c' v' ?_ q) (λ_ q=>q) λ_ _ q=>q
    rcases hc' with q'|q'
    .exact q'▸nit b v e
    .exact nit c' _ q'
  have Hn:H ⇑s=none:=I.fresh;have I2:Inv X pins σ (upd H ⇑s (.tup [x,y])) (s>>>h''):=by
   have nf:⇑s∉X.fs:=I.nofs (Zi _);refine%[turn1.ok,turn1.os,turn1.bare,?_,turn1.loc,turn1.cell,?_,?_,?_,?_|turn1.len]
   .refine%[turn1.base.keep,turn1.base.slot,λb o e n hx=>?_,turn1.base.there,λb xs e=>?_,λb o v e=>?_|λb ps e=>?_]
    .rw[ap ((λb o e=>Zt (Zg (Zv e) I.sz)) b o e)];exact turn1.base.free b o e n hx
    .rw[ap (av (turn1.base.tups b xs e) Hn)];exact turn1.base.tups b xs e
    .rw[ap (av (turn1.base.frzs b o v e) Hn)];exact turn1.base.frzs b o v e
    .obtain⟨m,q⟩:=turn1.base.tbls b ps e;exact%[m|(ap (av q Hn))▸q]
   .rw[ap (Zt I.lt)];exact turn1.free
   .intro x' c' e;obtain⟨v',q⟩:=I.cell x' c' e;rw[ap (Zt q.lt)];exact turn1.freeC x' c' e
   .intro p hp;obtain⟨e,n,r⟩:=turn1.pin p hp;refine%[e,?_|r];rw[ap (Zt (Zv (I.pin p hp).1))];exact n
   .intro b v e;by_cases hb:b=⇑s
    .subst hb;rw[aa]at e;cases e;exact%[by show 2<=sizeLine;decide,[u1,u2],.cons ru1 (.cons ru2 .nil),_,((sb.2 _ (X3 (Zv hz))).trans a5),rfl,_|rfl]
    .rw[ap hb]at e;refine(turn1.hok b v e).stay (λ_ _ _ q=>q) (λc' q=>?_) λc' xs q=>?_
     .rw[ap (av q Hn)];exact q
     .rw[ap (av q Hn)];exact q
  refine%[.ref ⇑s,_,I2,rfl,%[_,x,y,Hn,rfl,rfl,λzs hzs=>(I.list_inj hzs hq1)▸hx|λzs hzs=>(I.list_inj hzs hq2)▸hy],%[hz'',(sb.2 _ D.TIz).trans (hk _ _ D.TIz D.TITO D.TIi1 D.TIi2 hTI),%[_,_|(sb.2 _ D.TOz).trans a2],?_|?_]|λb hb=>?_]
  .obtain⟨o,e,r⟩:=a3;exact%[o,(sb.2 _ D.i1z).trans e|r]
  .obtain⟨o,e,r⟩:=a4;exact%[o,(sb.2 _ D.i2z).trans e|r]
  .have:b<⇑s:=by
    simp only[Yy,X9,or_false]at hb;obtain⟨o1,q1,_⟩:=h1;obtain⟨o2,q2,_⟩:=h2;rcases hb with rfl|rfl|rfl|rfl|rfl
    .exact Zv hz
    .exact Zv hTI
    .exact Zv hTO
    .exact Zv q1
    .exact Zv q2
   rw[ap (Zt this)];exact(hf b hb).1
 done:=by
  intro X hP hw hK hc i pins s σ H E I hf st hg;subst hP hw hK;obtain⟨hz,hTI,⟨a,c,hTO⟩,h1,h2⟩:=st;obtain⟨xs,ys,hq1,hq2,g1,g2,g3⟩:=hg;obtain⟨its1,rv1,pl1,hz1⟩:=I.list hq1;obtain⟨its2,rv2,pl2,hz2⟩:=I.list hq2;have n1:=rv1.length;have n2:=rv2.length;refine wpAny_pyNext_zip_end (I.ok.hd hc) D hz hTI hTO h1 h2 pl1.isList pl2.isList (by
   rcases g3 with q|q
   .exact .inl (by simp;lia)
   .exact .inr (by simp;lia)) λh' hk=>%[rfl|?_]
  have nit:∀b v,H b=some v->b∉[z,TI,TO,i1,i2]:=λb v e hb=>by rw[(hf b hb).1]at e;cases e
  have kk:∀b o,b∉[z,TI,TO,i1,i2]->s.heap.get? b=some o->h'.get? b=some o:=λb o hb e=>by
   simp only[Yy,X9,or_false,not_or]at hb;exact hk b o hb.1 hb.2.2.1 hb.2.2.2.1 hb.2.2.2.2 e
  refine I.step (λb hb=>%[(hf b hb).2.2.2.1,(hf b hb).2.1,(hf b hb).2.2.2.2.1|(hf b hb).2.2.2.2.2]) (λb o _ _ hc e _=>kk b o hc e) (λb o _ _ hc e _=>%[o.slots|kk b o hc e]) (λ_ _ _ _ n=>n)
   (λb o hc e=>%[o|kk b o hc e]) (λ_ _ e=>e) (λ_ _ _ e=>e) (λb ps e=>%[#[]|by rw[e];simp]) (λm hm=>?_) (λb v e=>?_) I.bare
  .obtain⟨o',es,ep,ho',r⟩:=hm;exact%[o',es,ep,kk _ o' (λhb=>(hf _ hb).2.1 rfl) ho'|r]
  .refine(I.hok b v e).stay (λc' v' hc' q=>kk c' v' ?_ q) (λ_ q=>q) λ_ _ q=>q
   rcases hc' with q'|q'
   .exact q'▸nit b v e
   .exact nit c' _ q'
 self:=λ_ _ _ _ _ st h=>wpAny_pyIter_zip st.1 h
def B1(K:ZA)(d:TA):TI:=λe H R=>d e H λvs c=>∃a b,vs=[.ref a,.ref b]/\(∃xs,SqL K c a xs)/\(∃ys,SqL K c b ys)/\R (wS K a b) c
section
variable{X:Cx}{K:ZA}{pos:Pos}
theorem ET(G:X.K=K){J p:Pos}{a b:Expr}{z:TA}(L:Gl X "zip")(M:X.mg "zip"=none)(N:aZ a=false)(m:aZ b=false)(O:QA X [a,b] z):
 QI X (.Tuple A kt J) (.Call (.Name "zip" p) [a,b] [] pos) (B1 K z):=by
 subst G
 constructor
 intro pins s Q H R I h;refine Call_ (iA I L M boot_zip (PyProof.Rows.callWith_type1 (thP (O.h pos pins s Q H _ I h) λus c vs T d U Y=>?_) (ax N) (by rw[ax m];rfl)));obtain⟨n,r,e,⟨xs,t⟩,⟨ys,u⟩,q⟩:=Y;subst e;obtain⟨u1,u2,rfl,e1,e2⟩:=jK U;cases e1;cases e2;obtain⟨B,ab,f,ac⟩:=d.list t;obtain⟨its2,ag,g,al⟩:=d.list u;refine call_zip_2 f.isList g.isList λh1 C v w hi1 hi2 _ hk=>wpAny_pyIter_zip C ?_
 have ne:∀i j,i≠j->⇑c+i≠⇑c+j:=λi j h e=>h (Nat.add_left_cancel e)
 have na:∀i,n≠⇑c+i:=λi=>Zt (Zg (by obtain⟨o,y,_⟩:=f.isList;exact Zv y) (le_add_right _ _))
 have nb:∀i,r≠⇑c+i:=λi=>Zt (Zg (by obtain⟨o,y,_⟩:=g.isList;exact Zv y) (le_add_right _ _))
 refine%[⇑c+4,[⇑c+4,⇑c+2,⇑c+3,⇑c+0,⇑c+1],_,wS X.K n r,T,rfl,(d.kept hk),
  wU _ _ _ _ _ n r %[ne 2 4 (by decide),ne 3 4 (by decide),ne 0 4 (by decide),ne 1 4 (by decide),ne 2 3 (by decide),ne 2 0 (by decide),ne 2 1 (by decide),ne 3 0 (by decide),ne 3 1 (by decide),ne 0 1 (by decide),na 4,na 3,na 0,na 1,nb 4,nb 3,nb 0|nb 1],
  %[C,v,%[_,_|w],hi1|hi2],λb E=>?_|q]
 have l:⇑c<=b:=by
  simp only[Yy,X9,or_false]at E;rcases E with rfl|rfl|rfl|rfl|rfl<;> exact le_add_right _ _
 exact d.fpOk l (d.hok.fresh l)
end
open PySem PySem.Spec PySem.Calls PyProof.Rows PyProof.V PySem.W
section
#where
variable{d it:Addr}{es:Array DictEntry}{ep i:Nat}
end
section
#where
variable{S:Addr}
end
section
variable{X:Cx}{K:ZA}
end
section
variable{X:Cx}
theorem lF(c:ce k X.A)(d:swapsWith a (some (.Subscript o i b)) pos.line X.env=pure false)(e:QE X a f)(g:QE X o h)(hi:QE X i ty):QS X (.Assign [.Subscript o i b] a pos) (oN h ty f):=
 ⟨AS (by have:=c.units;lia) g.h hi.h e.h d⟩
theorem wV [DecidableEq c](a:List (c×V))(k:c)(v:V):(d8 a k v).map (·.1)=if k∈a.map (·.1)then a.map (·.1)else a.map (·.1) ++[k]:=by
 unfold d8;have e:(a.any λb=>decide (b.1=k))=true↔k∈a.map (·.1):=by
  grind
 by_cases h:k∈a.map (·.1)
 .rw[if_pos (e.mpr h),if_pos h,Yu];refine Ys λb _=>?_
  show(if b.1=k then(b.1,v)else b).1=b.1
  split<;> rfl
 .rw[if_neg (λz=>h (e.mp z)),if_neg h,Zd];rfl
end
structure sf (K:ZA) (mg:ZC) (x:Str):Prop where
 at_:mg x=some (.ref (cG mg x))
 cls:Cls K (cG mg x)
structure si (K:ZA) (mg:ZC) (x m qual:Str) (st:Stmt) (ps:ZB):Prop where
 ex:∃f fd,AA K (cG mg x) m f/\Fun K m qual st f fd/\fE K fd ps []
structure zk (K:ZA) (mg:ZC) (x qual:Str) (st:Stmt) (ps:ZB):Prop where
 ex:∃f fd,Mk K (cG mg x) f/\Fun K "__init__" qual st f fd/\fE K fd ps []
structure wW (P:Program) (w:World) (K:ZA) (mg:ZC) (base:Heap) (k:Nat) (x m:Str) (ps:ZB) (sp:Sp):Prop where
 ex:∃f fd,jq P w K mg base CX0 k f fd ps sp/\AA K (cG mg x) m f/\fE K fd ps []
structure Bg (P:Program) (w:World) (K:ZA) (mg:ZC) (base:Heap) (k:Nat) (x:Str) (ps:ZB) (sp:Sp):Prop where
 ex:∃f fd,jq P w K mg base CX0 k f fd ps sp/\Mk K (cG mg x) f/\fE K fd ps []
section
variable{P:Program}{w:World}{K:ZA}{mg:ZC}{base:Heap}{x m qual:Str}{st:Stmt}{N ps:ZB}{k:Nat}{sp:Sp}
theorem si.cal(D:si K mg x m qual st ps)(S:au N ps (ai st))
 (a:∀(H:Hp) (vs:List V) (Q:VK) (E:XK),sp vs H Q E->vs.length=ps.length/\∀(f:Addr) (b:Value) (A:Around) (outer:List Env) (s:Shared),ce k (A.deeper (envOfC qual (ai st) ⇑s f b))->
  ∃t,PSs (pV CX0 P w K mg base N qual (ai st) f b A outer s H E).nox (bH st) t/\t {nx:=λ_ c=>Q .non c,rt:=Q} (start N vs) H):wW P w K mg base (k+1) x m ps sp:=by
 obtain⟨f,d,e,F,g⟩:=D.ex;exact%[f,d,F.ok S (λv H Q E h=>(a H v Q E h).1) (λb A o s H v Q E r h=>(a H v Q E h).2 f b A o s r),e|g]
theorem zk.cal(D:zk K mg x qual st ps)(S:au N ps (ai st))
 (a:∀(H:Hp) (vs:List V) (Q:VK) (E:XK),sp vs H Q E->vs.length=ps.length/\∀(f:Addr) (b:Value) (A:Around) (outer:List Env) (s:Shared),ce k (A.deeper (envOfC qual (ai st) ⇑s f b))->
  ∃t,PSs (pV CX0 P w K mg base N qual (ai st) f b A outer s H E).nox (bH st) t/\t {nx:=λ_ c=>Q .non c,rt:=Q} (start N vs) H):Bg P w K mg base (k+1) x ps sp:=by
 obtain⟨f,d,e,F,g⟩:=D.ex;exact%[f,d,F.ok S (λv H Q E h=>(a H v Q E h).1) (λb A o s H v Q E r h=>(a H v Q E h).2 f b A o s r),e|g]
end
section
variable{X:Cx}{K:ZA}{j k:Nat}{x m:Str}{ps:ZB}{sp:Sp}{p pos apos:Pos}{o e:Expr}{es:List Expr}{to te:TE}{t:TA}
theorem Dr(C:wW X.prog X.w X.K X.mg X.base j x m ps sp)(c:sf X.K X.mg x)(d:ce k X.A)(a:Nat.ble j k=true)
 (g:eval (.Call (.Attribute o m apos) [] [] pos) X.env=(do
  let b<-eval o X.env
  standAt apos.atName
  let(f,first)<-holding [b] (getMethod b m pl)
  callWith pos f first (backTo pos (starEach [] X.env)) (backToKw pos (keywordEach [] X.env)))) (h:QE X o to):QE X (.Call (.Attribute o m apos) [] [] pos) (vc (cG X.mg x) m sp [] E0 to v9):=by
 obtain⟨f,n,F,i,l⟩:=C.ex;exact⟨yn h.h c.cls i F (d.mono (Nat.le_of_ble_eq_true a)) l .nil yF g⟩
theorem EU(C:Bg X.prog X.w X.K X.mg X.base j x ps sp)(c:sf X.K X.mg x)(g:ce k X.A)(h:Gl X x)(a:Nat.ble (j+1) k=true)(b:(x==("__debug__"))=false)(d:(e::es).any aZ=false)(i:QA X (e::es) t):
 QE X (.Call (.Name x p) (e::es) [] pos) (vd (cG X.mg x) sp [] E0 t):=by
 obtain⟨f,q,F,l,n⟩:=C.ex;rw[Zy,Xa]at d;exact⟨AE l F (g.mono (Nat.le_of_ble_eq_true a)) h c.at_ n .nil yF i.h b (ax d.1) (gH d.2)⟩
theorem Ds(h:X.K=K)(a:iY o=false)(b:QE X o to):QE X (.Attribute o f pos) (Cz K to f):=by
 subst h;exact⟨CB b.h (iE a)⟩
theorem Bh(h:X.K=K)(c:gJ a=false)(d:QE X o to)(g:QE X a i):QS X (.Assign [.Attribute o f b] a pos) (CA K to i f):=by
 subst h;exact⟨CC d.h g.h (jP c)⟩
end
structure GvT (K:ZA) (mg:ZC) (x:Str) (xs:List V):Prop where
 ex:∃a,mg x=some (.ref a)/\∀H,SqT K H a xs
theorem zo{K:ZA}{h:Heap}{o:Obj}{its:ZJ}{n:Nat}(X:K.In h)(G:h.Ns mainGlobals mg)(z:nsIn K mainGlobals x=some (some (.ref a)))
 (b:K.lookup a=some o) (c:o.cls= .type "tuple") (d:o.data= .seq its n) (e:its.size<=sizeLine) (r:aF xs its.toList):GvT K mg x xs:=
 %[a,mg_of X G z|λ_=> .inr %[o,its,n,b,c,d,e|r]]
theorem EV{X:Cx}{K:ZA}{x:Str}(h:X.K=K)(g:GvT K X.mg x xs)(b:Gl X x)(c:(x==("__debug__":Str))=false):QE X (.Name x pos) (λ_ H Q=>∀a,(∀d,SqT K d a xs)->Q (.ref a) H):=by
 obtain⟨a,e,f⟩:=g.ex;refine⟨λpins s i H Q I q=>BS (v:= .ref a) %[.ref a,e|rfl] b c pins s i H Q I (q a f)⟩
theorem tryN{X:Cx}(c:∀e s,X.xe e s->False)(d:QSs X a g):QS X (.Try a [h] [] [] pos) g:=by
 refine⟨λpins s i H D I q=>wpAny_Try_except (wpAny_mono (d.h pins s i H D I q) (λf b q=>?_) λe b q=>(c e b q).elim)⟩;cases f with
 | next=>exact wpAny_execs_nil q
 | brk=>exact q
 | cont=>exact q
 | ret u=>exact q
section
variable{X:Cx}{K:ZA}
end
theorem ng(x y:Str):dv [x] [y]=aX x y:=by
 show(if x=y then false else aX x y)=aX x y
 split
 .rename_i e;rw[e,fG]
 .rfl
section
#where
variable{S:Addr}
theorem lG{ks:ZB}{Q:ZD}(h:∀(T:ZD) (R:ZF->Shared->Prop),(∀c us f,StrsAre us f->f.Perm ks->(∀b o,s.heap.get? b=some o->c.heap.get? b=some o)->c.gens=s.gens->c.os=s.os->R us c)->↥A.in1 (collect (.ref S)) R T s)(few:ks.length<=1000)
 (U:∀(c s':Shared) (l:Addr) (vs:ZF) (ss:ZB) (n:Nat),StrsAre vs ss->ss.Perm ks->ss.Pairwise (λa b=>aX b a=false)->(∀b o,s.heap.get? b=some o->c.heap.get? b=some o)->c.gens=s.gens->c.os=s.os->(∀b o,c.heap.get? b=some o->s'.heap.get? b=some o)->s'.gens=c.gens->s'.os=c.os->⇑c<=l->s'.heap.get? l=some {cls:= .type "list",data:= .seq vs.toArray n}->Q (.ref l) s'):
 ↥A (call (.builtin "sorted") [.ref S]) Q E s:=by
 refine Calls.call_function_entry kind_sorted plain_sorted entry_sorted (args_sorted1 _) ?_;unfold Builtin.«sorted»;refine Z2 (m:=checkCount "sorted" 1 1 _) (Z3 ?_);refine Z2 (h _ _ λc us f d q k1 g1 Y=>?_);have few:us.length<=1000:=by rw[bB d,q.length_eq];exact few
 refine Z2 (wpAny_newList ?_ (by rw[sizeLine_eq];omega));have G:(c.heap.push (seqObj "list" us.toArray 0)).get? ⇑c=some (seqObj "list" us.toArray 0):=Zj _ rfl;have e:∀v∈us,∃x t,v=Value.str x t/\[x]∈ks.map λz=>[z]:=λv g=>by
  obtain⟨x,t,rfl⟩:=d.all v g;refine%[x,t,rfl|Xs %[x,q.mem_iff.mp ?_|rfl]];rw[<-d.strs];exact Xs %[_,g|rfl]
 refine Z2 (wpAny_holding (wpAny_call_entry slot_list_sort %[_,G|rfl] entry_list_sort (jo (s:=(c>>>c.heap.push (seqObj "list" us.toArray 0))) (kd:=oneType') (Nv:=λv=>gA (ks.map λz=>[z]) [strOf v]) G (by omega) (λH k6 I Q6 J=>?_) (λH k6=>?_) λout B p2=>%[_,rfl|?_]) (args_list_sort _)))
 .obtain⟨v1,C,r,rfl⟩:∃v1 C r,us=v1::C::r:=by
   match us,I with
   | v1::C::r,_=>exact%[v1,C,r|rfl]
  rw[keyKind_strs d];exact Z3 J
 .intro x y s' hx hy L;subst L;obtain⟨x1,x2⟩:=x;obtain⟨y1,y2⟩:=y;obtain⟨a,t,rfl,M⟩:=e _ hx;obtain⟨b,u,rfl,N⟩:=e _ hy;show ↥A.in1.in1 (keyLt' oneType' (.str a t) (.str b u)) (λr s'=>r=decide (gA (ks.map λz=>[z]) [a]<gA (ks.map λz=>[z]) [b])/\s'=(c>>>H)) (λ_ _=>False) (c>>>H);rw[keyLt'_oneType];refine oneLt_str %[?_|rfl];rw[<-jY M,ng];rfl
 .have i:∀v∈out,∃x t,v=Value.str x t:=λv g=>d.all v (B.mem_iff.mp g)
  obtain⟨n,gl⟩:∃n,(sortedHeap (c.heap.push (seqObj "list" us.toArray 0)) ⇑c us out.toArray).get? ⇑c=some (seqObj "list" out.toArray n):=sortedHeap_at G;refine Z3 %[_,rfl|U c _ ⇑c out (out.map strOf) n (strsAre_map out i) ?_ ?_ k1 g1 Y (λb o' O=>?_) rfl rfl (Zi _) gl]
  .rw[<-d.strs]at q;exact(B.map _).trans q
  .rw[Xb];refine Xj (λ{u v} hu g j=>?_) p2;obtain⟨a,t,rfl,M⟩:=e _ (B.mem_iff.mp hu);obtain⟨b,t',rfl,N⟩:=e _ (B.mem_iff.mp g);show aX b a=false;rw[<-ng,jY N];have j:gA (ks.map λz=>[z]) [a]<=gA (ks.map λz=>[z]) [b]:=j;exact Zh (by omega)
  .have p:=Zv O;show(sortedHeap _ _ _ _).get? b=_;rw[sortedHeap_old (Zt p) (by rw[Zq];exact Yq p)];exact Z7 _ O
end
theorem jZ:∀{ks:ZB} {us:ZF},aF (ks.map V.str) us->StrsAre us ks
 |[],_,.nil=> .nil
 | _::_,_,.cons r t=>by
   obtain⟨t',rfl⟩:=r;exact .cons _ _ (jZ t)
theorem gU:∀{ks:ZB} {us:ZF},StrsAre us ks->aF (ks.map V.str) us
 | _,_,.nil=> .nil
 | _,_,.cons _ t h=> .cons %[t|rfl] (gU h)
section
variable{X:Cx}{K:ZA}
theorem wX(h:X.K=K):cN X (.builtin "sorted") (λxs H Q=>∃a ks,xs=[.ref a]/\SqL K H a (ks.map V.str)/\ks.length<=1000/\∀l (ss:ZB),H l=none->ss.Perm ks->ss.Pairwise (λa b=>aX b a=false)->Q (.ref l) (upd H l (.lst (ss.map V.str)))):=by
 subst h;refine⟨λpins s E H xs us Q I r h=>?_⟩;obtain⟨a,ks,rfl,m,few,q⟩:=h;obtain⟨u,rfl,p⟩:=dh r;cases p;obtain⟨its,i,⟨o,n,t,v,G,e⟩,L⟩:=I.list m;have w:=jZ i;have M:its.length=ks.length:=by rw[<-i.length,Z6]
 refine lG (λN R y=>wpAny_collect_seq a (.inl rfl) t v e (λh' k=>?_) (by simp_all)) (by omega) λO s' l vs ss n z j A k1 g1 B k g o d C=>?_
 .exact y _ _ _ w (.refl _) k rfl rfl
 .have f:=I.keptS k1 g1 B;have c:=f.hok.fresh d;have J:=f.keptS k g o;refine%[.ref l,_,f.stoodS (o:= .lst _) J d %[?_,vs,n,gU z|C],rfl|q l ss c j A];rw[Z6,j.length_eq,sizeLine_eq];omega
theorem uC{w:World}(h:X.w=w)(p:X.calm=true):cN X (.builtin "sorted") (λxs H Q=>∃a ks,xs=[.ref a]/\H a=some (jv w a ks)/\ks.length<=1000/\∀l (ss:ZB),H l=none->ss.Perm ks->ss.Pairwise (λa b=>aX b a=false)->Q (.ref l) (upd H l (.lst (ss.map V.str)))):=by
 subst h;refine⟨λpins s C H xs us Q I r h=>?_⟩;obtain⟨a,ks,rfl,t,few,q⟩:=h;obtain⟨u,rfl,v⟩:=dh r;cases v;obtain⟨S,_,_⟩:=(I.hok a _ t)
 refine lG (λE R y=>lA (I.ok.hd p) S λm vs ss f e k1 g1 i z=>y m vs ss f e k1 g1 i) few λm s' l vs ss n f e A k1 g1 i k g o d B=>?_
 have j:=I.keptS k1 g1 i;have c:=j.hok.fresh d;have J:=j.keptS k g o;refine%[.ref l,_,j.stoodS (o:= .lst _) J d %[?_,vs,n,gU f|B],rfl|q l ss c e A];rw[Z6,e.length_eq,sizeLine_eq];omega
theorem wY(h:X.K=K):cN X (.builtin "sorted") (λxs H Q=>∃(a:Addr) (ps:ZG) (m:Nat),xs=[.ref a]/\SqL K H a (ps.map λp=>V.ref p.1)/\ba H ps/\(∀p∈ps,p.2.length=m)/\m≠0/\ps.length<=1000/\
 ∀(l:Addr) (ss:ZG),H l=none->ss.Perm ps->ss.Pairwise (λa b=>dv b.2 a.2=false)->Q (.ref l) (upd H l (.lst (ss.map λp=>V.ref p.1)))):=by
 subst h;refine⟨λpins s M H xs us Q I r h=>?_⟩;obtain⟨a,ps,m,rfl,j,t,v,w,few,q⟩:=h;obtain⟨u,rfl,y⟩:=dh r;cases y;obtain⟨its,z,⟨o,n,A,B,N,e⟩,O⟩:=I.list j;have:=qA z;subst this;refine m8 (λT R C=>wpAny_collect_seq a (.inl rfl) A B e (λh' k=>?_) (by simp_all)) (qz I t) v w few λU s' l ss n i E k1 g1 G k g o d L=>?_
 .exact C _ _ (List.Perm.refl _) k rfl rfl
 .have f:=I.keptS k1 g1 G;have c:=f.hok.fresh d;have J:=f.keptS k g o;refine%[.ref l,_,f.stoodS (o:= .lst _) J d %[?_,ss.map _,n,qB ss|L],rfl|q l ss c i E];rw[Z6,i.length_eq,sizeLine_eq];omega
theorem dinT{k:Nat}{i o:Expr}{ty a:TE}{pos:Pos}(b:ce k X.A)(c:behindInMarks .In o=false)(hi:QE X i ty)(d:QE X o a):QT X (.Compare i [.In] [o] pos) (tB (CW ty a)):=
 ⟨xP (CY (by have:=b.units;omega) hi.h d.h) c⟩
end
theorem dE{X:Cx}{K:ZA}{a b:Expr}{c d:TE}{pos:Pos}(h:X.K=K)(e:jL b)(f:QE X a c)(g:QE X b d):QE X (.Subscript a b pos) (tOp (AJ K) c d):=by subst h;exact⟨vg yv f.h g.h e⟩
theorem uD(h:(env.blockKind== .function&&env.kindOf x==some .local&&b.line==pos.line&&!(a.names.any λ(n,k)=>n==x&&(k== .local||k== .cell)))=false):
 swapsWith (.ListComp c gens a pos) (some (.Name x b)) l env=pure false:=by
 show(pure (env.blockKind== .function&&env.kindOf x==some _&&b.line==pos.line&&!(a.names.any _)))=pure false;rw[h]
theorem sj{X:Cx}(i:Nat)(e:X.N.Nodup)(hi:X.N[i]? =some x)(f:Loc X.env.scope x)(g:X.fn x=true\/X.env.scope.names.lookup x=some .local)
 (b:(X.env.blockKind== .function&&X.env.kindOf x==some .local&&h.line==pos.line&&!(a.names.any λ(n,k)=>n==x&&(k== .local||k== .cell)))=false) (j:QE X (.ListComp c gens a pos) l):
 QS X (.Assign [.Name x h] (.ListComp c gens a pos) d) (nR l (jm i)):=⟨xX e hi f j.h (uD b) g⟩
section
#where
end
section
variable(h:Heap)(l1 l2:Addr)
end
section
#where
end
section
variable{X:Cx}{K:ZA}{pos:Pos}
end
section
variable{X:Cx}{pos:Pos}
theorem nh(b:PassesOwn (model X.prog X.w) X.A X.env X.xe)(d:QT X c e)(f:QSs X a g):QS X (.While c a [] pos) (xY e g):=⟨xZ b d.h f.h⟩
theorem e7(a:ce k X.A)(b:CV i)(c:QE X o d)(hi:QE X i ty):QE X (.Subscript o i pos) (yB d ty):=⟨AR (by have:=a.units;lia) c.h hi.h b⟩
end
section
#where
theorem Bi{P:Nat->Value->Prop}(val:Nat->Str)(a:∀i v,P i v->∃t,v= .str (val i) t):CmpOf prog w A .Gt P (λi j=>decide ((val j).cps.toList<(val i).cps.toList)):=λi j b c s Q E hi d h=>by
 obtain⟨t,rfl⟩:=a i b hi;obtain⟨u,rfl⟩:=a j c d;exact richCompare_gives (typeIs_str s _ t) (typeIs_str s _ u) PySem.F.slot_str_gt PySem.F.entry_str_gt (PySem.F.args_str_gt_2 _ _) (gives_str_gt _ _ t u) (λx=>nomatch x) h
theorem vB{P:Nat->Value->Prop}(val:Nat->Str)(a:∀i v,P i v->∃t,v= .str (val i) t):CmpOf prog w A .Lt P (λi j=>decide ((val i).cps.toList<(val j).cps.toList)):=λi j b c s Q E hi d h=>by
 obtain⟨t,rfl⟩:=a i b hi;obtain⟨u,rfl⟩:=a j c d;exact richCompare_gives (typeIs_str s _ t) (typeIs_str s _ u) PySem.F.slot_str_lt PySem.F.entry_str_lt (PySem.F.args_str_lt_2 _ _) (gives_str_lt _ _ t u) (λx=>nomatch x) h
theorem zq{i:Nat}{v:Value}(h:(#[Value.str x t,Value.str y u]:ZJ)[i]? =some v):∃t,v= .str (if i=0 then x else y) t:=by
 match i,h with
 | 0,h=>exact%[t|by simpa using h.symm]
 | 1,h=>exact%[u|by simpa using h.symm]
 | i+2,h=>simp at h
theorem sk(a:Nat->Nat->Bool):argBest a 1=if a 1 0=true then 1 else 0:=by simp[argBest]
theorem qD{x y:Str}(l:A.handled=none)
 (h:∀h' tk,(∀c o,s.heap.get? c=some o->h'.get? c=some o)->Q (if x.cps.toList<y.cps.toList then .str y u else .str x t) {s with heap:=h',toks:=tk}):
 ↥A (call (.builtin "max") [.str x t,.str y u]) Q E s:=by
 have j:(s.heap.push {cls:= .type _,data:= .seq #[.str x t,.str y u]}).IsTuple ⇑s _:=%[_,Zj _ rfl,rfl,0|rfl]
 refine call_max_two (wpAny_pyIter_tuple j ?_);have b:(s.heap.push {cls:= .type "tuple",data:= .seq #[.str x t,.str y u]}).objs.size=⇑s+1:=Zq ..;refine%[_,[_,⇑s],[_],_,_,_,_,rfl,Walks.tuple (A:=A.in1) l _ ⇑s (b▸Zt (Yr _)) _,
  %[%[_,Zj _ rfl,rfl|rfl]|j.push _],λc d=>?_,by simp,Bi _ (λ_ _=>zq)|λv h' tk m n=>?_]
 .rw[Zq,b];rcases mem_cons.mp d with rfl|d
  .simp
  .rcases mem_cons.mp d with rfl|d
   .exact Yq (Yr _)
   .cases d
 .have f:=λc o e=>by
   refine n c o (λi=>?_) (Z7 _ (Z7 _ e));rcases mem_cons.mp i with p|i
   .have:=Zv e;rw[p,b]at this;exact Xm _ (Nat.lt_of_succ_lt this)
   .cases i
  have q:=h h' tk f;have a:(#[Value.str x t,Value.str y u])[argBest _ 1]? =some v:=m;rw[sk]at a;by_cases g:x.cps.toList<y.cps.toList
  .rw[if_pos (by simp[g])]at a;rw[if_pos g]at q;exact(show Value.str y u=v by simpa using a)▸q
  .rw[if_neg (by simp[g])]at a;rw[if_neg g]at q;exact(show Value.str x t=v by simpa using a)▸q
theorem qE{x y:Str}(l:A.handled=none)
 (h:∀h' tk,(∀c o,s.heap.get? c=some o->h'.get? c=some o)->Q (if y.cps.toList<x.cps.toList then .str y u else .str x t) {s with heap:=h',toks:=tk}):
 ↥A (call (.builtin "min") [.str x t,.str y u]) Q E s:=by
 have j:(s.heap.push {cls:= .type _,data:= .seq #[.str x t,.str y u]}).IsTuple ⇑s _:=%[_,Zj _ rfl,rfl,0|rfl]
 refine call_min_two (wpAny_pyIter_tuple j ?_);have b:(s.heap.push {cls:= .type "tuple",data:= .seq #[.str x t,.str y u]}).objs.size=⇑s+1:=Zq ..;refine%[_,[_,⇑s],[_],_,_,_,_,rfl,Walks.tuple (A:=A.in1) l _ ⇑s (b▸Zt (Yr _)) _,
  %[%[_,Zj _ rfl,rfl|rfl]|j.push _],λc d=>?_,by simp,vB _ (λ_ _=>zq)|λv h' tk m n=>?_]
 .rw[Zq,b];rcases mem_cons.mp d with rfl|d
  .simp
  .rcases mem_cons.mp d with rfl|d
   .exact Yq (Yr _)
   .cases d
 .have f:=λc o e=>by
   refine n c o (λi=>?_) (Z7 _ (Z7 _ e));rcases mem_cons.mp i with p|i
   .have:=Zv e;rw[p,b]at this;exact Xm _ (Nat.lt_of_succ_lt this)
   .cases i
  have q:=h h' tk f;have a:(#[Value.str x t,Value.str y u])[argBest _ 1]? =some v:=m;rw[sk]at a;by_cases g:y.cps.toList<x.cps.toList
  .rw[if_pos (by simp[g])]at a;rw[if_pos g]at q;exact(show Value.str y u=v by simpa using a)▸q
  .rw[if_neg (by simp[g])]at a;rw[if_neg g]at q;exact(show Value.str x t=v by simpa using a)▸q
theorem oa{l:Addr}{its:ZJ}{val:Nat->Str}{Q:ZD}(n:A.handled=none)(f:s.heap.IsList l its)(g:0<its.size)(a:∀(i:Nat) v,its[i]? =some v->∃t,v= .str (val i) t)
 (h:∀v h' tk,its[argBest (λi j=>decide ((val i).cps.toList<(val j).cps.toList)) (its.size-1)]? =some v->(∀b o,s.heap.get? b=some o->h'.get? b=some o)->Q v {s with heap:=h',toks:=tk}):
 ↥A (call (.builtin "min") [.ref l]) Q E s:=by
 have c:l<⇑s:=by obtain⟨_,e,_⟩:=f;exact Zv e
 refine call_min_walk (wpAny_pyIter_list f %[_,[⇑s,l],[⇑s],_,_,_,_,rfl,Walks.list (A:=A.in1) n _ l (Zt c) its,%[%[_,Zj _ rfl,rfl|rfl]|f.push _],λb d=>?_,g,vB val a|λv h' tk p q=>?_])
 .rw[Zq];rcases mem_cons.mp d with rfl|d
  .simp
  .rcases mem_cons.mp d with rfl|d
   .exact Yq c
   .cases d
 .refine h v h' tk p λb o e=>q b o (λm=>?_) (Z7 _ e)
  rcases mem_cons.mp m with r|m
  .exact absurd (r▸Zv e) (Xm _)
  .cases m
theorem ni(val:Nat->Str):∀k,argBest (λi j=>decide ((val i).cps.toList<(val j).cps.toList)) k<=k/\∀j,j<=k->aX (val j) (val (argBest (λi j=>decide ((val i).cps.toList<(val j).cps.toList)) k))=false
 | 0=>%[Zi _|λj b=>by rw[le_zero.mp b];exact fG _]
 | k+1=>by
   obtain⟨g,d⟩:=ni val k;rw[argBest];by_cases c:aX (val (k+1)) (val (argBest (λi j=>decide ((val i).cps.toList<(val j).cps.toList)) k))=true
   .have a:=c;unfold aX at a;rw[if_pos a];refine%[Zi _|λj b=>?_];by_cases e:j=k+1
    .exact e▸fG _
    .cases f:aX _ _ with
     | false=>rfl
     | true=>have:=gi f c;rw[d j ⋯]at this;cases this
   .have a:=c;unfold aX at a;rw[if_neg a];refine%[⋯|λj b=>?_];by_cases e:j=k+1
    .lia
    .exact d j ⋯
end
section
variable{X:Cx}
theorem wZ(b:X.calm=true):cx X (.builtin "max") (λxs H Q=>∃x y,xs=[.str x,.str y]/\Q (.str (if aX x y=true then y else x)) H):=by
 intro pins s c H xs us Q I r h;obtain⟨x,y,rfl,q⟩:=h;obtain⟨u,d,rfl,⟨t,rfl⟩,t',rfl⟩:=jK r;refine qD (I.ok.hd b) λh' tk k=>%[_,H,I.kept k,?_|q]
 by_cases a:x.cps.toList<y.cps.toList
 .rw[if_pos a,if_pos (show aX x y=true from Zf a)];exact%[_|rfl]
 .rw[if_neg a,if_neg (show ¬ aX x y=true from λe=>a (Zo e))];exact%[_|rfl]
theorem w4(b:X.calm=true):cx X (.builtin "min") (λxs H Q=>∃x y,xs=[.str x,.str y]/\Q (.str (if aX y x=true then y else x)) H):=by
 intro pins s c H xs us Q I r h;obtain⟨x,y,rfl,q⟩:=h;obtain⟨u,d,rfl,⟨t,rfl⟩,t',rfl⟩:=jK r;refine qE (I.ok.hd b) λh' tk k=>%[_,H,I.kept k,?_|q]
 by_cases a:y.cps.toList<x.cps.toList
 .rw[if_pos a,if_pos (show aX y x=true from Zf a)];exact%[_|rfl]
 .rw[if_neg a,if_neg (show ¬ aX y x=true from λe=>a (Zo e))];exact%[_|rfl]
theorem w6(z:X.calm=true):cx X (.builtin "min") (λxs H Q=>∃(p:Addr) (ss:ZB),xs=[.ref p]/\SqL X.K H p (ss.map V.str)/\0<ss.length/\∀m∈ss,(∀y∈ss,aX y m=false)->Q (.str m) H):=by
 intro pins s M H xs us Q I r h;obtain⟨p,ss,rfl,A,N,q⟩:=h;obtain⟨u,rfl,f⟩:=dh r;cases f;obtain⟨its,g,B,O⟩:=I.list A;have a:=g.length;rw[Z6]at a;have C:its.toArray.size=ss.length:=by rw[Zp,a]
 have c:∀i v,its.toArray[i]? =some v->∃t,v=Value.str (ss.getD i Str.empty) t:=λi v e=>by
  have e:=by simpa using e
  have hi:i<ss.length:=a▸(Xo e).1;obtain⟨u,l,f⟩:=g.get (by rw[Zl,Z4 hi];rfl);rw[e]at l;obtain⟨t,d⟩:=f;exact%[t|by rw[Za l,d,Zc,Z4 hi];rfl]
 refine oa (I.ok.hd z) B.isList ⋯ c λv h' tk n k=>?_
 obtain⟨E,o⟩:=ni _ _;obtain⟨t,d⟩:=c _ _ n
 generalize argBest _ _=b at E o n d
 have w:b<ss.length:=by lia
 have G:ss.getD b Str.empty=ss[b]:=by rw[Zc,Z4 w];rfl
 refine%[.str _,H,I.kept k,%[t|d]|q _ (G▸Yf w) λy J=>?_];obtain⟨j,L,rfl⟩:=Yg J;have:=o j ⋯;rwa[show ss.getD j Str.empty=ss[j] by rw[Zc,Z4 L];rfl]at this
theorem Dt(a:X.calm=true):cN X (.builtin "max") (λxs H Q=>∃x y,xs=[.str x,.str y]/\Q (.str (if aX x y=true then y else x)) H):=⟨wZ a⟩
theorem Du(a:X.calm=true):cN X (.builtin "min") (λxs H Q=>∃x y,xs=[.str x,.str y]/\Q (.str (if aX y x=true then y else x)) H):=⟨w4 a⟩
theorem Dv{K:ZA}(h:X.K=K)(a:X.calm=true):cN X (.builtin "min") (λxs H Q=>∃(p:Addr) (ss:ZB),xs=[.ref p]/\SqL K H p (ss.map V.str)/\0<ss.length/\∀m∈ss,(∀y∈ss,aX y m=false)->Q (.str m) H):=by subst h;exact⟨w6 a⟩
end
section
#where
end
section
variable{prog:Program}{w:World}{A:Around}{R:Result->Shared->Prop}{I:Addr}{fp wr:List Addr}{G:Array GenState->Array GenState->Prop}{n:Nat}{P:Nat->Value->Prop}{St:Nat->Shared->Prop}
end
section
#where
end
section
variable{X:Cx}{K:ZA}
end
theorem Bj{b:Type}{a:List (b×V)}{vs:List (b×Value)}(r:KV a vs):aF (a.map (·.2)) (vs.map (·.2)):=by
 induction r with
 | nil=>exact .nil
 | cons h _ c=>exact .cons h.2 c
section
variable{X:Cx}{K:ZA}
def zt:V->List V->Hp->VK->Prop:=λx vs H Q=>asR x λa=>∃k y,vs=[kV k,y]/\∃b,H a=some (.dK b)/\b.length<sizeLine/\(∀v,cE b k=some v->Q v H)/\(cE b k=none->Q y (upd H a (.dK (d8 b k y))))
theorem Bk:MtM X "dict.setdefault" zt:=by
 intro pins s G H x vs v us Q I p r h;obtain⟨a,rfl,k,y,rfl,b,e,J,t,u⟩:=fW h;cases p;obtain⟨L,w,rfl,A,l⟩:=jK r;obtain⟨z,m,vs,c,n⟩:=rA I.hok e;refine call_meetsIn PySem.F.slot_dict_setdefault n.typeIs PySem.F.entry_dict_setdefault (PySem.F.args_dict_setdefault_3 _ _ _) (kt_meets_setdefault _ a (mz A) m w) %[vs,n,c.length▸z,λM hw=>?_|λN h' f B=>?_]
 .have q:=c.val k;cases d:cE b k with
  | none=>
    rw[fV.none_of (o:=valueAt vs k) (d▸q)]at hw;cases hw
  | some i=>
    obtain⟨C,g,j⟩:=fV.some_of (d▸q);rw[g]at hw;exact(Za hw)▸%[i,H,I.tok _,j|t i d]
 .have d:cE b k=none:=by
   cases d:cE b k with
   | none=>rfl
   | some i=>
     obtain⟨C,g,_⟩:=fV.some_of (d▸c.val k)
     grind
  exact%[y,_,qb I (e▸True.intro) B (let⟨q,_,_,E,_⟩:=f;%[q|E]) (yA (by have:=iC b k y;lia) m (c.put k l) f),l|u d]
theorem j3:MtQ X "dict.setdefault" zt:=⟨Bk⟩
noncomputable def pD(v a:Addr):HO:= .ext λh=>h.IsValuesView v a
def zu:V->List V->Hp->VK->Prop:=λx vs H Q=>asR x λa=>vs=[]/\∃b,H a=some (.dK b)/\∀v,H v=none->Q (.ref v) (upd H v (pD v a))
theorem Bl:MtM X "dict.values" zu:=by
 intro pins s t H x vs v us Q I i j h;obtain⟨a,rfl,rfl,l,e,q⟩:=fW h;cases i;have c:=j.zero;subst c;obtain⟨z,m,vs,n,f⟩:=rA I.hok e;refine call_meetsIn PySem.F.slot_dict_values f.typeIs PySem.F.entry_dict_values (PySem.F.args_dict_values_1 _) (meets_dict_values _ a m) %[%[vs|f]|?_];have g:(s.heap.push {cls:= .type _,data:= .fields _}).IsValuesView ⇑s a:=%[_,Zj _ rfl,rfl|rfl]
 refine%[.ref ⇑s,_,I.laid (o:=pD ⇑s a) (λb u e=>Z7 _ e) (Zi _) %[g,?_|λw y p k1=>?_],rfl|q _ I.fresh]
 .obtain⟨o,d,_⟩:=g;exact%[o|d]
 .obtain⟨o,d,r⟩:=p;exact%[o,k1 _ d|r]
theorem zv:MtQ X "dict.values" zu:=⟨Bl⟩
theorem uE(j:X.calm=true):cx X (.type "list") (λxs H Q=>∃(v a:Addr) (b:List (Key×V)),xs=[.ref v]/\H v=some (pD v a)/\H a=some (.dK b)/\∀l,H l=none->Q (.ref l) (upd H l (.lst (b.map (·.2))))):=by
 intro pins s M H xs us Q I r h;obtain⟨v,a,b,rfl,m,n,q⟩:=h;obtain⟨u,rfl,p⟩:=dh r;cases p;obtain⟨z,N,vs,f,t⟩:=rA I.hok n;have g:=(I.hok _ _ m).1;obtain⟨o,w,y,A,B⟩:=t;have C:s.heap.DictAt _ a vs y:=%[o,w,A|B]
 have E:=f.length;refine PySem.W.kdl_call (PySem.W.kdl_values) (I.ok.hd j) %[g|C] ⋯ λh' tk acc c keep G d=>?_
 have O:acc.toList.length=b.length:=by rw[Zb,d.1,E]
 refine%[.ref ⇑s,_,I.laid keep (Zi _) ?_,rfl|q _ I.fresh];have e:acc.toList=vs.map (·.2):=by
  refine ext_getElem (by simp_all) λi J T=>?_
  obtain⟨k,L⟩:=d.2 i _ (Array.getElem?_eq_getElem J);obtain⟨U,Y⟩:=Xo L
  simp_all
 exact%[by rw[Z6];exact z,acc.toList,c,e▸Bj f|G]
theorem Bm(c:X.calm=true):cN X (.type "list") (λxs H Q=>∃(v a:Addr) (b:List (Key×V)),xs=[.ref v]/\H v=some (pD v a)/\H a=some (.dK b)/\∀l,H l=none->Q (.ref l) (upd H l (.lst (b.map (·.2))))):=⟨uE c⟩
end
theorem sq:∀{ss:ZB},z∈ss->∃j,ss[j]? =some z/\(∀m,m<j->∀y,ss[m]? =some y->y≠z)/\(z::ss.eraseIdx j).Perm ss
 | x::ss,h=>by
   by_cases e:x=z
   .exact%[0,by simp[e],λm b=>absurd b ⋯|by simp[e]]
   .obtain⟨j,c,d,f⟩:=sq ((mem_cons.mp h).resolve_left λq=>e q.symm);refine%[j+1,c,λm b y a=>?_|?_]
    .cases m with
     | zero=>simp at a;exact a▸e
     | succ m=>exact d m ⋯ y (a)
    .exact(List.Perm.swap _ _ _).trans (f.cons _)
section
variable{X:Cx}{K:ZA}
def Dw:V->List V->Hp->VK->Prop:=λx vs H Q=>asR x λa=>∃k y,vs=[kV k,y]/\∃b,H a=some (.dK b)/\Q ((cE b k).getD y) H
theorem Dx:MtM X "dict.get" Dw:=by
 intro pins s n H x vs v us Q I f g h;obtain⟨a,rfl,k,y,rfl,b,e,q⟩:=fW h;cases f;obtain⟨o,i,rfl,j,l⟩:=jK g;obtain⟨z,m,vs,c,d⟩:=rA I.hok e;exact call_meetsIn slot_dict_get d.typeIs PySem.F.entry_dict_get (PySem.F.args_dict_get_3 _ _ _) (meets_dict_get_default _ a (mz j) m i) %[_,d.mapOf,(cE b k).getD y,H,I.tok _,(c.val k).getD l|q]
theorem zw:MtQ X "dict.get" Dw:=⟨Dx⟩
noncomputable def isZ(z:Str):Value->Bool
 | .str x _=>x==z
 | _=>false
theorem w8(t:Tok)(r:aF (ss.map V.str) its)(h:ss.length=its.length)(l:z∈ss):∃(j:Nat) (e:j<its.toArray.size),ss[j]? =some z/\(z::ss.eraseIdx j).Perm ss/\(∀y,y∈its.toArray->MeetsSeq.EqGives y (.str z t) (isZ z y))/\isZ z its.toArray[j]=true/\∀m (a:m<its.toArray.size),m<j->isZ z its.toArray[m]=false:=by
 obtain⟨j,f,n,o⟩:=sq l;have b:∀m y,its[m]? =some y->∃x t,y=Value.str x t/\ss[m]? =some x:=λm y c=>by
  have a:m<ss.length:=h▸(Xo c).1;obtain⟨u,i,p⟩:=r.get (by rw[Zl,Z4 a];rfl);rw[c]at i;obtain⟨t,q⟩:=p;exact%[_,t,(Za i).trans q|Z4 a]
 have e:j<its.length:=h▸(Xo f).1;refine%[j,e,f,o,λy c=>?_,?_|λm a g=>?_]
 .obtain⟨m,a⟩:=Xi (by simpa using c);obtain⟨x,t',rfl,_⟩:=b m y a;exact eqGives_str x z t' t
 .obtain⟨x,t',ex,d⟩:=b j _ (Z4 e);rw[f]at d;show isZ z its[j]=true;rw[ex,<-Za d];exact beq_self_eq_true z
 .obtain⟨x,t',ex,d⟩:=b m _ (Z4 a);show isZ z its[m]=false;rw[ex];exact beq_eq_false_iff_ne.mpr (n m g x d)
def qF:V->List V->Hp->VK->Prop:=λx vs H Q=>asR x λl=>∃z,vs=[.str z]/\∃ss:ZB,H l=some (.lst (ss.map V.str))/\z∈ss/\∀a,(z::a).Perm ss->Q .non (upd H l (.lst (a.map V.str)))
theorem xa:MtM X "list.remove" qF:=by
 intro pins s A H x vs v us Q I c d h;obtain⟨l,rfl,z,rfl,ss,a,f,q⟩:=fW h;cases c;obtain⟨u,rfl,g⟩:=d.one;obtain⟨t,rfl⟩:=g;obtain⟨i,its,n,r,b,e⟩:=I.lstM a;rw[Z6]at b i;obtain⟨j,m,_,o,p,w,y⟩:=w8 t r b f;refine call_meets F.slot_list_remove %[_,e|rfl] F.entry_list_remove (F.args_list_remove_2 _ _) (MeetsSeq.list_remove l its.toArray n _ _ p j m w y (by simp_all)) %[e,.non,_,I.lset (its':=its.eraseIdx j) a e ?_ ?_ ?_,rfl|q _ o]
 .simp
 .rw[List.eraseIdx_eq_take_drop_succ,Zd,List.map_take,List.map_drop,<-List.eraseIdx_eq_take_drop_succ];exact r.eraseIdx j
 .have:=oI ss j;rw[Z6]
  lia
theorem zx:MtQ X "list.remove" qF:=⟨xa⟩
end
theorem xc:typeLookup (.type "list_reverseiterator") "__len__"=pure none:=by kernel_rfl
theorem zy:typeLookup (.type "list_reverseiterator") "__length_hint__"=pure (some (.builtin "list_reverseiterator.__length_hint__")):=by kernel_rfl
section
#where
theorem og(hh:A.handled=none)(N:s.heap.IsRevIter I l ((a.size:Int) -1))(O:s.heap.IsList l a)(ne:l≠I)(hz:a.size<=sizeLine)
 (hQ:∀s' acc c,(∀b o,b≠I->s.heap.get? b=some o->s'.heap.get? b=some o)->s'.gens=s.gens->s'.os=s.os->s'.heap.get? ⇑s=some {cls:= .type "list",data:= .seq acc c}->acc.toList=a.toList.reverse->Q (.ref ⇑s) s'):
 ↥A (call (.type "list") [.ref I]) Q E s:=by
 have u:I<⇑s:=let⟨_,i,_⟩:=N;Zv i;have v:l<⇑s:=let⟨_,i,_⟩:=O;Zv i
 generalize p:s.heap.push {cls:=Value.type "list",data:=Data.seq #[]}=G
 have gz:G.objs.size=⇑s+1:=by rw[<-p,Zq]
 have y:∀b o,s.heap.get? b=some o->G.get? b=some o:=λb o e=>by rw[<-p];exact Z7 _ e
 have q:G.get? ⇑s=some {cls:=Value.type "list",data:=Data.seq #[]}:=by rw[<-p];exact Zj _ rfl
 refine callType_codes (Q₁:=λobj g=>obj= .ref ⇑s/\g=(s>>>G)) F.called_list (F.typeCall_list_1 (Value.ref I)) F.entry_list_init (code_list_new (Value.ref I) %[rfl|by rw[p]]) λobj g j=>?_
 obtain⟨rfl,rfl⟩:=j;refine%[%[_,q|rfl],F.args_list_init_2 _ _|?_];show ↥A.in1.in1 (Builtin.«list.__init__» %[[.ref ⇑s,.ref I]|[]]) _ _ _;unfold Builtin.«list.__init__»;refine Z2 ?_;refine listItems_at (s:=(s>>>G)) q rfl ?_;refine Z2 (listUpdate_at (s:=(s>>>G)) q rfl ?_ (Xh _));have U:=get?_update_self (Obj.mapSeq λ_=> #[]) q rfl;have f:∀b o,b≠⇑s->G.get? b=some o->(G.update ⇑s (Obj.mapSeq λ_=> #[])).get? b=some o:=λb o z e=>(get?_update_other _ _ (Ne.symm z)).trans e
 refine Z2 (wpAny_letGo ?_)
 generalize G.update ⇑s (Obj.mapSeq λ_=> #[])=h at U f
 have B:I≠⇑s:=Zt u;have nl:l≠⇑s:=Zt v;have m:h.IsRevIter I l ((a.size:Int) -1):=N.at λo e=>f _ _ B (y _ _ e)
 have C:h.IsList l a:=let⟨o,i,r⟩:=O;%[o,f _ _ nl (y _ _ i)|r];have W:=Walks.listRev (prog:=prog) (w:=w) (A:=A.in1.in1) hh I l ne a;have n:(0<=a.size/\h.IsRevIter I l (↑a.size-1-((0:Nat):Int))/\h.IsList l a):=%[Xh _,by simpa using m|C]
 show ↥A.in1.in1 (Builtin.List.listExtendWith (.ref ⇑s) (.ref I) .none) _ _ (s>>>h);unfold Builtin.List.listExtendWith;have t:Shared.TypeIs (s>>>h) (.ref I) "list_reverseiterator":=m.typeIs;refine Z2 (wpAny_typeOf (T:="list_reverseiterator") t ?_);have n1:Builtin.List.listSameRef (.ref ⇑s) (.ref I)=false:=beq_eq_false_iff_ne.mpr (Ne.symm B);have n2:(Value.type "list_reverseiterator"==Value.type "list")=false:=by decide
 have n3:(Value.type "list_reverseiterator"==Value.type "tuple")=false:=by decide
 simp only[n1,n2,n3,Bool.or_false,Y2,if_false];refine Z2 (W.self 0 (s>>>h) _ _ n ?_);refine Z2 (wpAny_holding ?_);unfold Builtin.List.listLengthHint;refine Z2 (wpAny_specialOf (T:="list_reverseiterator") t xc ?_);show wpAny _ _ (specialOf (.ref I) (Str.ofString "__length_hint__")>>= _) _ _ _;refine Z2 (wpAny_specialOf t zy ?_)
 wp_delta
 refine Z2 (wpAny_isInstance (T:="list_reverseiterator") (b:=true) t (by rw[isSubtype_type];kernel_rfl) ?_);simp only[Bool.not_true,Y2,if_false];rw[if_pos (by decide +kernel)];rw[if_neg (by decide)];refine Z3 ?_;rw[if_neg (by decide +kernel)];have H:⇑s∉[I,l]:=by
  simp only[Yy,X9,or_false,not_or];exact%[Ne.symm B|Ne.symm nl]
 refine Z3 %[plainId_quiet F.plain_extend_loop _|codeAny_extend_loopS W.toS hz _ H _ a.size 0 _ _ _ rfl (Xh _) n U (ItemsOf.nil _) λs5 acc c5 J L d=>?_];refine%[rfl|hQ s5 acc c5 (λb o z e=>?_) J.gens J.os L ?_]
 .have nb:b≠⇑s:=Zt (Zv e);refine J.heap b o ?_ (f _ _ nb (y _ _ e));simp only[Yy,X9,or_false,not_or];exact%[nb|z]
 .apply ext_getElem?;intro k;have al:acc.toList.length=a.size:=Zb▸d.1;by_cases Y:k<a.size
  .have M:k<acc.size:=d.1▸Y;have:=d.2 k acc[k] ∅;rw[List.getElem?_reverse (Y),Zb,Ye,Ye,this];simp[M]
  .rw[List.getElem?_eq_none ⋯,List.getElem?_eq_none (by simp;lia)]
end
noncomputable def Dy(n:Nat)(a l:Addr)(m:Nat):HO:= .ext λh=>n<=a/\h.IsRevIter a l (m-1)
theorem xf{X:Cx}:cx X (.type "reversed") (λxs H Q=>∃(l:Addr) (ys:List V),xs=[.ref l]/\SqL X.K H l ys/\∀r,H r=none->Q (.ref r) (upd H r (Dy X.s₀.heap.objs.size r l ys.length))):=by
 intro pins s a H xs us Q I r h;obtain⟨l,ys,rfl,c,q⟩:=h;obtain⟨u,rfl,d⟩:=dh r;cases d;obtain⟨its,f,pl,j⟩:=I.list c;refine call_reversed_list pl.isList ?_;have g:=I.hok.fresh (Zi _);have J:Inv X pins a H (s>>>(s.heap.push (revObj l (its.toArray.size-1)))):=I.keptS (λb o e=>Z7 _ e) rfl rfl;refine%[.ref ⇑s,_,I.stoodS (o:=Dy X.s₀.heap.objs.size ⇑s l ys.length) J (Zi _) %[%[I.sz|?_],%[_|Zj _ rfl]|λ_ _ ⟨i,x⟩ k=>%[i|x.at λo e=>k o e]],rfl|q _ g];rw[f.length,<-Zp];exact%[_,Zj _ rfl,rfl|rfl]
theorem Inv.dropped{X:Cx}(I:Inv X pins j H s)(l:H a=some (.ext i))(m:X.s₀.heap.objs.size<=a)(f:∀b o,b≠a->s.heap.get? b=some o->s'.heap.get? b=some o)(r:s'.gens=s.gens)(t:s'.os=s.os):Inv X pins j (drop H a) s':=by
 have ne:∀{b:Addr} {o:HO},H b=some o->(∀i,o≠ .ext i)->b≠a:=λe n z=>by
  grind
 have un:Un (frs X.stack) [a] H (drop H a) s.heap s'.heap:=by
  refine%[λb o e _ _ d=>f b o (by simpa using d) e,λb o e _ _ d=>%[o.slots|f b o (by simpa using d) e],λb o _ n _=>?_,λb o e d=>%[o|f b o (by simpa using d) e],λb xs e=>?_,λb o u e=>?_|λb ps e=>%[#[]|?_]]
  .unfold drop;split
   .rfl
   .exact n
  .rw[iZ (ne e ∅)];exact e
  .rw[iZ (ne e ∅)];exact e
  .rw[iZ (ne e ∅)];simpa using e
 have g:HOk X.prog X.w (drop H a) s'.heap:=λb o e=>by
  have nb:b≠a:=λz=>by rw[z,wJ]at e;cases e
  rw[iZ nb]at e;refine(I.hok b o e).stay (λc u h q=>f c u ?_ q) (λc q=>?_) λc xs q=>?_
  .rcases h with rfl|h
   .exact nb
   .exact ne h ∅
  .rw[iZ (ne q ∅)];exact q
  .rw[iZ (ne q ∅)];exact q
 exact I.call' t un g (by rw[r];exact I.bare) λb v=>by
  obtain rfl:b=a:=by simpa using v
  refine%[.inr m,λz=>?_,λx c e z=>?_|λp w z=>?_]
  .have:=I.free;grind
  .have:=I.freeC x c e;grind
  .have:=(I.pin p w).2.1;rw[z,l]at this;cases this
theorem sr{X:Cx}(w:X.calm=true):cx X (.type "list") (λxs H Q=>∃(r l:Addr) (ys:List V),xs=[.ref r]/\H l=some (.lst ys)/\H r=some (Dy X.s₀.heap.objs.size r l ys.length)/\∀p,drop H r p=none->p≠r->Q (.ref p) (upd (drop H r) p (.lst ys.reverse))):=by
 intro pins s J H xs us Q I r h;obtain⟨a,l,ys,rfl,g,f,q⟩:=h;obtain⟨u,rfl,y⟩:=dh r;cases y;obtain⟨z,its,n,A,m,e⟩:=I.lstM g;obtain⟨⟨t,b⟩,_⟩:=I.hok a _ f;have i:l≠a:=λz=>by rw[z,f]at g;cases g
 have sz:its.toArray.size=ys.length:=by simp_all
 refine og (I.ok.hd w) (by rw[sz];exact b) %[_,e,rfl,n|rfl] i (by rw[sz];exact z) λs' acc c B C j E d=>?_
 have v:=I.dropped f t (λ_ _ _ e=>e) rfl rfl;have G:=I.dropped f t B C j;have lt:=let⟨_,j,_⟩:=b;Zv j;refine%[.ref ⇑s,_,v.stoodS (o:= .lst ys.reverse) G (Zi _) %[?_,acc.toList,c,?_|?_],rfl|q _ (v.hok.fresh (Zi _)) (X3 lt)]
 .rw[List.length_reverse];exact z
 .rw[d];exact A.reverse
 .exact E
def sw(b:TE):TE:=λc H Q=>b c H λv a=>∃l ys,v= .ref l/\a l=some (.lst ys)/\∀p,a p=none->Q (.ref p) (upd a p (.lst ys.reverse))
theorem zA{X:Cx}(h:X.calm=true)(i:Gl X "reversed")(j:X.mg "reversed"=none)(a:Gl X "list")(b:X.mg "list"=none)(d:aZ e=false)(m:QE X e n):
 QE X (.Call (.Name "list" o) [.Call (.Name "reversed" s) [e] [] t] [] u) (sw n):=by
 have w:QE X (.Call (.Name _ s) [e] [] t) _:=ctE ⟨xf⟩ i j PyProof.Rows.boot_reversed rfl rfl (by simp[d]) (paE d (⟨Dg m.h⟩) ak);have y:=ctE (p:=o) (pos:=u) ⟨sr h⟩ a b boot_list rfl rfl rfl (paE rfl w ak);refine⟨Dh y.h λA H Q q=>?_⟩;refine%[_,q|λv B ⟨l,ys,z,c,q⟩=>%[l,ys,by rw[z],SqL.of c|λr f=>?_]];refine%[r,l,ys,rfl,by rw[ap (av c f)];exact c,aa|λp g _=>?_];rw[y3 f]at g ⊢;exact q p g
section
variable{X:Cx}
def Dz:R2:=λx y H Q=>asR x λa=>asR y λb=>∃xs,H a=some (.lst xs)/\H b=some (.lst [])/\Q (.bl (decide (xs≠[]))) H
theorem DC(A:X.A.units+64<cLine):OpR X (compareOp .NotEq) Dz:=by
 intro pins s B H x y v u Q I l m h;obtain⟨a,rfl,o⟩:=fW h;obtain⟨b,rfl,xs,p,t,q⟩:=fW o;cases l;cases m;obtain⟨z,its,n,r,g,e⟩:=I.lstM p;obtain⟨C,its2,i,E,d,c⟩:=I.lstM t;obtain rfl:its2=[]:=length_eq_zero_iff.mp d.symm;by_cases f:xs=[]
 .subst f;obtain rfl:its=[]:=length_eq_zero_iff.mp g.symm;exact richCompare_meets_room (op:= .NotEq) %[_,e|rfl] %[_,c|rfl] PySem.F.slot_list_ne PySem.F.entry_list_ne (PySem.F.args_list_ne_2 _ _) (SeqAt.list_neAt a b #[] #[] n i none none #[] #[] rfl λ_=>true) %[e,c,λj h=>absurd h (X8 j),by simp,.bl _,H,I,rfl|q] ⋯
 .have w:its.toArray.size≠0:=by
   rw[Zp,<-g];exact λq=>f (length_eq_zero_iff.mp q)
  rw[Zf f]at q;exact richCompare_meets_room (op:= .NotEq) %[_,e|rfl] %[_,c|rfl] PySem.F.slot_list_ne PySem.F.entry_list_ne (PySem.F.args_list_ne_2 _ _) (SeqAt.list_ne_lengthsAt a b its.toArray #[] n i none none #[] #[] (by simpa using w)) %[e,c,by simp,.bl true,H,I,rfl|q] ⋯
theorem EW(a:ce k X.A):OpQ X (compareOp .NotEq) Dz:=⟨DC a.units⟩
end
section
#where
theorem e8(I:List i->j->Shared->Prop):∀(xs:List i) (b:j) (s:Shared),I xs b s->
 (∀x r b s,I (x::r) b s->↥A (f x b) (λy s'=>match y with| .done c=>Q c s'| .yield c=>I r c s') E s)->(∀b s,I [] b s->Q b s)->↥A (forIn xs b f) Q E s
 |[],b,s,h,_,a=>by
  exact Z3 (a b s h)
 | x::r,b,s,h,d,a=>by
   rw[forIn_cons];refine Z2 (wpAny_mono (d x r b s h) (λy s' g=>?_) λ_ _ e=>e);cases y with
   | done c=>exact Z3 g
   | yield c=>exact e8 I r c s' g d a
theorem zB:∀c {Q:Bool->Shared->Prop},(∀b∈c,∃d,bp w b d s.heap)->Q true s->↥A (setsQuiet c) Q E s:=by
 intro c Q h l;refine Z2 (e8 (λr b s'=>(∀b∈r,∃d,bp w b d s.heap)/\b=(none,())/\s'=s) c _ s %[h,rfl|rfl] ?_ ?_)
 .rintro x r b s' ⟨g,rfl,rfl⟩;obtain⟨d,o,m,G,t,ss,n,p,q,v,H,y,f,I,B,C,i⟩:=g x Zm;refine Z2 (wpAny_setEntries_of n q B (Z2 ?_));rw[<-forIn_toList];refine e8 (λr b a=>(∀e∈r,∃z u,e=(hashStr w z,Value.str z u))/\b=(none,())/\a=s') m.toList _ _ %[f,rfl|rfl] ?_ ?_
  .rintro e r b a ⟨j,rfl,rfl⟩;obtain⟨z,u,rfl⟩:=j e Zm;exact Z3 %[λe h=>j e (Zk _ h),rfl|rfl]
  .rintro b a ⟨_,rfl,rfl⟩;exact Z3 %[λe h=>g e (Zk _ h),rfl|rfl]
 .rintro b s' ⟨_,rfl,rfl⟩;exact Z3 l
noncomputable def hsE(w:World)(p:Str×Tok):Int×Value:=(hashStr w p.1,.str p.1 p.2)
theorem bp.texts{a:Addr}{h:Heap}{o:Obj}{c:Array (Int×Value)}(d:StrsAre (c.toList.map (·.2)) ss)(g:ss.Perm ks)(f:∀e∈c.toList,∃z u,e=(hashStr w z,Value.str z u))(xs:List (Int×Value))(b:xs.Perm c.toList):∃zs:List (Str×Tok),xs=zs.map (hsE w)/\(zs.map (·.1)).Perm ks:=by
 have all:∀l,(∀e∈l,∃z u,e=(hashStr w z,Value.str z u))->∃zs:List _,l=zs.map (hsE w):=λl=>by
  induction l with
  | nil=>exact λ_=>%[[]|rfl]
  | cons e l i=>
    intro h;obtain⟨z,u,rfl⟩:=h e Zm;obtain⟨zs,rfl⟩:=i λx b=>h x (Zk _ b)
    exact%[(z,u)::zs|rfl]
 obtain⟨zs,rfl⟩:=all xs λe j=>f e (b.mem_iff.mp j)
 refine%[zs,rfl|?_];obtain⟨ts,m,n⟩:=cp d (b.map _);have e:ts=zs.map (·.1):=by
  rw[<-m.strs,Yu,Yu];rfl
 exact e▸n.trans g
theorem pE{f:List Addr}{c:ZI}{Q:Array (Int×Value)->Shared->Prop}(Y:bp w a ks s.heap)(hO:∀b∈f,∃js,bp w b js s.heap)(q:∀r,c=some r->r≠a/\bp w r [] s.heap)
 (hQ:∀(zs:List (Str×Tok)) (d:Drawn) (h':Heap),(zs.map (·.1)).Perm ks->(∀b o,c≠some b->s.heap.get? b=some o->h'.get? b=some o)->(∀r,c=some r->bp w r [] h')->Q (zs.map (hsE w)).toArray {s with heap:=h',drawn:=d}):
 ↥A (setWalkUnseen a f c) Q E s:=by
 obtain⟨o,i,ep,t,ss,ho,ac,hd,L,hp,ag,M,J,hf,N,j⟩:=id Y;have g:∀(xs:List _) d h',xs.Perm i.toList->(∀b o,c≠some b->s.heap.get? b=some o->h'.get? b=some o)->(∀r,c=some r->bp w r [] h')->Q xs.toArray {s with heap:=h',drawn:=d}:=λxs d h' hx v h2=>by
  obtain⟨zs,rfl,hz⟩:=bp.texts (a:=a) (h:=h') (o:=o) L hp M xs hx;exact hQ zs d h' hz v h2
 have walk:↥A (setWalk a) Q E s:=by
  refine Z2 (wpAny_setState_of ho hd hf ?_);show wpAny _ _ (if aQ w=true then _ else _) _ _ _;by_cases O:aQ w=true
  .rw[if_pos O];refine Z2 (wpAny_askSetting (Z3 ?_));have:=g (pickOrder (w.params.setOrder a ep) i).toList s.drawn s.heap (oY _ _) (λ_ _ _ e=>e) λr e=>(q r e).2
   exact this
  .rw[if_neg O]
   split
   .exact Z2 (qj i.size i.toList _ _ ∅ λys d p=>Z3 (g ys d s.heap p (λ_ _ _ e=>e) λr e=>(q r e).2))
   .refine Z2 ?_;show wpAny _ _ (if(!t.led&&decide _)=true then unsupported _ else pure ()) _ _ _;rw[j,show aQ w=false by simpa using O];refine Z3 (Z3 ?_);have:=g i.toList s.drawn s.heap (.refl _) (λ_ _ _ e=>e) λr e=>(q r e).2
    exact this
 refine Z2 (wpAny_setState_of ho hd hf ?_);show wpAny _ _ (if(aQ w||t.led&&t.plain||decide _)=true then _ else _) _ _ _;by_cases v:(aQ w||t.led&&t.plain||decide (i.size<=1))=true
 .rw[if_pos v];exact walk
 .rw[if_neg v];refine Z2 (zB _ (λb J=>?_) ?_)
  .rcases mem_cons.mp J with e|e
   .exact e▸%[_|Y]
   .exact hO b e
  refine Z2 (wpAny_rule ?_);cases c with
  | none=>
    have:=g i.toList s.drawn s.heap (.refl _) (λ_ _ _ e=>e) λr e=>(q r e).2
    exact Z3 this
  | some r=>
    obtain⟨ne,o2,T,al,u,an,l,y,m,B,U,C,G,H,I,ab,n⟩:=q r rfl;dsimp only;refine Z2 (wpAny_setState_of l m I ?_)
    split
    .refine Z2 (wpAny_storeSet_of l m ?_ (fits_of_scanBound H));have:=g i.toList s.drawn _ (.refl _) (λb o J e=>((SameBut.update s.heap r (Obj.putSet T {u with led:=u.led&&t.led,plain:=u.plain&&t.plain})).2 b λz=>J (by rw[z])).trans e) λr' e=>?_
     .exact Z3 this
     .cases e;exact(bp.stored (t':={u with led:=u.led&&t.led,plain:=u.plain&&t.plain}) l y m B U C G H I (by rw[(N λz=>v (by rw[z];simp)),Bool.and_false]) (by rw[n,j,Bool.and_self])).2
    .have:=g i.toList s.drawn s.heap (.refl _) (λ_ _ _ e=>e) λr e=>(q r e).2
     exact Z3 this
end
section
#where
theorem Bn(h:jI (Sum.inr z) (Value.str y u)=true):y=z:=by
 rcases bq h with⟨i,t',a,b⟩|⟨c,t',a,b⟩
 .lia
 grind
theorem sC{ks:ZB}(i:s.heap.get? a=some o)(l:o.data= .set b H t)(c:∀e∈b.toList,∃z u,e=(hashStr w z,Value.str z u))(C:b.size<scanBound)(m:t.fits b.size=true)
 (n:∀r,(r=none->∀e∈b.toList,∀u,e.2≠ .str z u)->(∀j,r=some j->∃u,b.toList[j]? =some (hashStr w z,.str z u))->Q r s):↥A (setFind a (.str z tk) (hashStr w z)) Q E s:=by
 have p:ElemsOf (aP prog w) b.toList:=oX c;have d:(aP prog w).is (Sum.inr z) (.str z tk)=true:=dw z tk;refine Z2 (wpAny_setState_of i l m ?_);dsimp only;rw[byScan_of rfl C p];refine Z2 (wpAny_rule (Z2 (wpAny_setScan_of d i l m p ?_)));cases v:List.findIdx? _ b.toList with
 | some j=>
   obtain⟨B,f,_⟩:=List.findIdx?_eq_some_iff_getElem.mp v;dsimp only;rw[zero_add];refine Z3 (n _ (λh=>(nomatch h)) λI e=>?_);cases e;obtain⟨y,u,g⟩:=c _ (Yf B);rw[g]at f;rw[Bn (u:=u) f]at g;exact%[u|by rw[Z4 B,g]]
 | none=>
   refine Z3 (n none (λ_ e G u q=>?_) λj e=>(nomatch e));have:=List.findIdx?_eq_none_iff.mp v e G;rw[q,show(aP prog w).is (Sum.inr z) (Value.str z u)=true from dw z u]at this;cases this
theorem xg{t:SetTable}(h:t.fits n=true)(hi:i<n):(t.drop i).fits (n-1)=true/\(t.drop i).led=t.led/\(t.drop i).plain=t.plain:=by
 unfold SetTable.fits at h ⊢;rw[Zx,beq_iff_eq,decide_eq_true_eq]at h;unfold SetTable.drop;have:t.place[i]? =some t.place[i]:=by simp
 rw[this];refine%[?_,rfl|rfl];rw[Zx,beq_iff_eq,decide_eq_true_eq];unfold SetTable.fill at h ⊢;simp only[SetTable.eraseAt,SetTable.insertAt,size_append,Array.size_extract,Xl]
 lia
theorem uF(h:i<a.size):(SetTable.eraseAt a i).toList=a.toList.eraseIdx i:=by
 rw[List.eraseIdx_eq_take_drop_succ,SetTable.eraseAt,Xg,toList_extract,toList_extract,Y1,Y1];simp;exact Zn ∅
theorem sD{ks:ZB}(I:bp w a ks s.heap)(m:∀h' b,SameBut a s.heap h'->bp w a (ks.erase z) h'->Q b (s>>>h')):↥A (setDiscardHashed a (.str z tk) (hashStr w z)) Q E s:=by
 obtain⟨o,c,ep,t,ss,h,n,j,d,J,p,f,L,v,y,g⟩:=id I;refine Z2 (sC (ks:=ks) h j f L v λr M N=>?_);cases r with
 | none=>
   have O:z∉ks:=λq=>by
    obtain⟨u,l⟩:=(dS d).mpr (J.mem_iff.mpr q);obtain⟨e,B,T⟩:=Xr l;exact M rfl e B u T
   rw[List.erase_of_not_mem O]at m;exact Z3 (m s.heap false (SameBut.refl a s.heap) I)
 | some i=>
   obtain⟨u,l⟩:=N i rfl;have hi:i<c.size:=(Xo l).1;have C:((hashStr w z,Value.str z u)::(SetTable.eraseAt c i).toList).Perm c.toList:=by
    rw[uF hi];have:=gM (xs:=c.toList) (hi);rwa[(Xo l).2]at this
   obtain⟨ts,G,U⟩:=cp d (C.map _);cases G with
   | cons _ _ G=>
   obtain⟨Y,d2,d3⟩:=xg v hi;have H:(SetTable.eraseAt c i).size=c.size-1:=by
    rw[<-Zb,<-Zb,<-C.length_eq];simp
   refine Z2 (wpAny_setState_of h j v ?_);dsimp only;refine Z2 (wpAny_storeSet_of h j (Z2 (wpAny_point (Z3 (m _ true (SameBut.update s.heap a _) (bp.stored h n j G ((List.cons_perm_iff_perm_erase.mp (U.trans J)).2) (p.erase z) (λe B=>f e (C.mem_iff.mp (Zk _ B))) ?_ ?_ ?_ ?_).2)))) (fits_of_scanBound ?_))
   .lia
   .exact H▸Y
   .exact d3▸y ⋯
   .exact d2▸g
   .lia
end
theorem vC(h:STab.WF t a)(b:a.size<=t.mask):t.fits a.size=true:=by
 unfold SetTable.fits SetTable.fill;rw[h.size,h.dum];simpa using b
section
#where
def qG(w:World)(a:Addr)(n:Nat)(h:Heap):Prop:=∃o b t,h.get? a=some o/\o.ExactSet/\o.data= .set #[] b t/\t.place= #[]/\t.dummies= #[]/\t.led=(!aQ w)/\(∃k,t.mask+1=2^k)/\7<=t.mask/\n<=t.mask
theorem qG.fits{t:SetTable}(a:t.place= #[])(b:t.dummies= #[]):t.fits (#[]:Array (Int×Value)).size=true:=by
 unfold SetTable.fits SetTable.fill;rw[a,b];simp
theorem Bo{n:Nat}{Q:Unit->Shared->Prop}(a:s.heap.get? r=some (aR w))(f:n<=1000)(c:∀h',SameBut r s.heap h'->qG w r n h'->Q () (s>>>h')):↥A (setRoomFor r n) Q E s:=by
 have d:(SetTable.fresh 0 0 (!aQ w)).fits _=true:=qG.fits rfl rfl;refine Z2 (wpAny_setState_of a rfl d ?_);show wpAny _ _ (match(if(0+n)*5>=7*3 then some ((0+n)*2)else none)with|some x=>setRelay r x|_=>pure ()) _ _ _;by_cases h:(0+n)*5>=7*3
 .rw[if_pos h];refine STab.relay_w a rfl d ∅ ⋯ λb t' P W l p g m2=>c _ (SameBut.update s.heap r _) ?_
  obtain rfl:b= #[]:=by
   have:=P.length_eq;simpa using this
  have e:=by
   have q:=get?_update_self (Obj.putSet #[] t') a (by rfl);rwa[putSet_of #[] t' rfl]at q
  exact%[_,_,t',e,%[rfl,rfl|rfl],rfl,Array.eq_empty_of_size_eq_zero W.size,W.dum,l,W.pow,W.big|⋯]
 .rw[if_neg h];exact Z3 (c s.heap (SameBut.refl r s.heap) %[_,_,_,a,%[rfl,rfl|rfl],rfl,rfl,rfl,rfl,%[3|rfl],Zi 7|by show n<=7;lia])
theorem zC{ks:ZB}(M:bp w a ks s.heap)(N:s.heap.get? r=some (aR w))(ne:r≠a)(h1:1<=ks.length)(h2:ks.length<=1000)(O:∀h',SameBut r s.heap h'->bp w r ks h'->Q () (s>>>h')):↥A (setMerge r a) Q E s:=by
 obtain⟨o,d,ep,t,ss,T,U,Y,n,G,z,B,hb,H,C,g⟩:=id M;have hn:d.size=ks.length:=by
  have q:=bB n;rw[Z6,Zb,G.length_eq]at q;exact q
 have pl:t.plain=false:=C ⋯;unfold setMerge;rw[if_neg (by simpa using ne)];refine Z2 (wpAny_setState_of T Y H ?_);dsimp only;rw[if_neg (λh:d.isEmpty=true=>by have:=Zo h;lia)];refine Z2 (Bo N ⋯ λh' sb ⟨o2,ab,u,i,v,j,I,J,L,k2,b2,m2⟩=>Z2 (wpAny_setState_of (s:=(s>>>h')) i j (qG.fits I J) ?_));dsimp only;have m:u.fill=0:=by unfold SetTable.fill;rw[I,J];rfl
 have put:∀(b:Array (Int×Value)) (t':SetTable),b.toList.Perm d.toList->t'.fits b.size=true->t'.plain=false->t'.led=(!aQ w)->↥A (storeSet r b t') Q E (s>>>h'):=λb t' P f p l=>by
  have sz:b.size=d.size:=by rw[<-Zb,P.length_eq,Zb]
  obtain⟨ts,r1,r2⟩:=cp n (P.map (·.2));exact wpAny_storeSet_of (s:=(s>>>h')) i j (O _ (sb.trans (SameBut.update h' r _)) (bp.stored (w:=w) i v j r1 (r2.trans G) z (λe he=>B e (P.mem_iff.mp he)) ⋯ f p l).2) (fits_of_scanBound ⋯)
 unfold SetTable.road;rw[m,if_neg (by decide)]
 split
 .exact put d _ (.refl _) H (by show(u.plain&&t.plain)=false;rw[pl,Bool.and_false]) (by show(u.led&&t.led)=_;rw[L,g,Bool.and_self])
 .obtain⟨k,hk⟩:=k2;obtain⟨t',c,e1,e2,e3,e4,e5,W,P⟩:=STab.laid_ok hk b2 d ⋯ u.finger u.moves _ _;have sz:(c.filterMap (d[·]?)).size=d.size:=by rw[<-Zb,P.length_eq,Zb]
  rw[e1];refine Z2 ?_;show wpAny _ A (if((c.filterMap _).size != d.size)=true then _ else pure _) _ E _;rw[if_neg (by simp[sz])];exact Z3 (put _ t' P (show t'.fits _=true from vC W (by rw[sz,e2];lia)) (by rw[e4,pl,Bool.and_false]) (by rw[e3,L,g,Bool.and_self]))
 .rename_i y
  split at y<;> cases y
end
theorem bp.nd(S:bp w a ks h):ks.Nodup:=by
 obtain⟨_,_,_,_,_,_,_,_,_,_,h,_⟩:=S;exact h
section
#where
theorem qH(c:bp w b f s.heap)(d:Q true s):↥A (Builtin.Frozenset.isAnySet (.ref b)) Q E s:=by
 obtain⟨o,g,h,t,ss,e,a,_⟩:=c;exact Z2 (wpAny_isInstance (b:=true) %[o,e|a.1] (by kernel_rfl) (Z3 d))
theorem j6(d:bp w b e s.heap)(f:Q e.length s):↥A (Builtin.Frozenset.sizeOf b) Q E s:=by
 obtain⟨o,u,v,t,ss,g,h,i,a,j,l,m,y,n,p,c⟩:=d;have r:=by
  have q:=bB a;rw[Z6,Zb,j.length_eq]at q;exact q
 exact Z2 (wpAny_setEntries_of g i n (Z3 (r▸f)))
theorem zD(N:bp w r ks s.heap)(O:bp w b T s.heap)(ne:r≠b)(big:T.length<ks.length)(few:ks.length<=900)
 (hQ:∀h' d f,(∀c o,c≠r->s.heap.get? c=some o->h'.get? c=some o)->(∀x,x∈f↔x∈ks/\x∉T)->bp w r f h'->Q () {s with heap:=h',drawn:=d}):↥A (Builtin.Frozenset.differenceUpdate nm r (.ref b)) Q E s:=by
 unfold Builtin.Frozenset.differenceUpdate;rw[if_neg (by simpa using ne.symm)];refine Z2 (qH O ?_);rw[if_pos rfl];refine Z2 (Z3 (Z2 (j6 O (Z2 (j6 N ?_)))));rw[if_neg ⋯];obtain⟨o,es,ep,t,ss,ho,as,hd,a0,hp,a1,a2,hb,hf,a3,an⟩:=id O;have B:∀(s':Shared) (Q':Nat->Shared->Prop),s'.heap.get? b=some o->Q' ep s'->↥A (setEpoch b) Q' E s':=λs' Q' e q=>by
  unfold setEpoch;exact Z2 (wpAny_setState_of e hd hf (Z3 q))
 refine Z2 (B s _ ho (Z2 (wpAny_holding (Z2 (pE O (λc j=>%[ks|(Xq j)▸N]) (λ_ e=>(nomatch e)) λzs d h1 pz k1 _=>Z2 ?_)))));rw[<-forIn_toList];refine e8 (λxs _ s'=>∃g rest h',zs=g++rest/\xs=rest.map (hsE w)/\s'={s with heap:=h',drawn:=d}/\(∀c o,c≠r->s.heap.get? c=some o->h'.get? c=some o)/\∃f,bp w r f h'/\∀x,x∈f↔x∈ks/\x∉g.map (·.1)) _ _ _
  %[[],zs,h1,rfl,rfl,rfl,λc o _ e=>k1 c o ∅ e,ks,N.keep λo e=>k1 r o ∅ e|by simp] ?_ ?_
 .rintro x xs _ s' ⟨g,rest,h',U,ex,rfl,Y,f,S,h⟩;cases rest with
  | nil=>cases ex
  | cons p rest=>
  rw[Yt]at ex;injection ex with ab ac
  subst ab;refine Z2 (wpAny_holding (sD (z:=p.1) (tk:=p.2) (s:={s with heap:=h',drawn:=d}) S λh2 bb sb S2=>Z2 ?_));unfold Builtin.Frozenset.unchanged;have C:∀c o,c≠r->s.heap.get? c=some o->h2.get? c=some o:=λc o j e=>(sb.2 c j).trans (Y c o j e)
  refine Z2 (B {s with heap:=h2,drawn:=d} _ (C b o ne.symm ho) ?_);rw[if_neg ∅];refine Z3 (Z3 %[g++[p],rest,h2,by rw[U,Ze];rfl,ac,rfl,C,_,S2|λx=>?_]);rw[S.nd.mem_erase_iff,h,Zd,Yv,Yt,map_nil,mem_singleton,not_or]
  constructor
  .exact λ⟨a,b,c⟩=>%[b,c|a]
  .exact λ⟨b,c,a⟩=>%[a,b|c]
 .rintro _ s' ⟨g,rest,h',U,ex,rfl,Y,f,S,h⟩;obtain rfl:rest=[]:=by
   cases rest with
   | nil=>rfl
   | cons p rest=>cases ex
  rw[Zz]at U;have h:∀x,x∈f↔x∈ks/\x∉T:=λx=>by rw[h,<-U,pz.mem_iff]
  have ag:f.length≠0:=λe=>by
   have:=STab.nodup_sub N.nd (m:=T) λx hx=>Decidable.byContradiction λq=>by
    have:=(h x).mpr %[hx|q];rw[length_eq_zero_iff.mp e]at this;cases this
   lia
  have sub:=STab.nodup_sub S.nd λx hx=>((h x).mp hx).1
  refine Z3 ?_;obtain⟨o2,n,a4,t2,a5,u,G,v,i,H,I,J,a6,L,M,y⟩:=id S;have hn:=by
   have q:=bB i;rw[Z6,Zb,H.length_eq]at q;exact q
  refine Z2 (wpAny_setState_of u v L ?_);dsimp only
  split
  .rw[show SetTable.grown n.size=n.size*4 by unfold SetTable.grown;rw[if_neg ⋯]];refine STab.relay_w u v L ⋯ ⋯ λal t' P W l p m1 m2=>?_
   have sz:al.size=n.size:=by rw[<-Zb,P.length_eq,Zb]
   obtain⟨ts,r1,r2⟩:=cp i (P.map (·.2));exact hQ _ d f (λc o j e=>((SameBut.update h' r _).2 c j).trans (Y c o j e)) h (bp.stored u G v r1 (r2.trans H) I (λe he=>J e (P.mem_iff.mp he)) ⋯ (vC W ⋯) (p▸M ⋯) (l▸y)).2
  .exact Z3 (hQ h' d f Y h S)
end
section
#where
theorem sE(a:Q (.ref ⇑s) (s>>>s.heap.push (aR w))):↥A (newSet (.type "set")) Q E s:=by
 exact Z2 (Z2 (wpAny_askSetting (Z3 (wpAny_newObj_type a))))
theorem sF(d:bp w a ks s.heap)(e:Q (.type "set") s):↥A (Builtin.Frozenset.baseOf a) Q E s:=by
 obtain⟨o,g,h,t,ss,f,c,_⟩:=d;exact Z2 (wpAny_isInstance (b:=true) %[o,f|c.1] (by kernel_rfl) (Z3 e))
theorem Bp(v:bp w a ks s.heap)(C:bp w b I s.heap)(few:ks.length<=900)
 (hQ:∀h' d i,(∀c o,s.heap.get? c=some o->h'.get? c=some o)->(∀x,x∈i↔x∈ks/\x∉I)->bp w ⇑s i h'->Q (.ref ⇑s) {s with heap:=h',drawn:=d}):↥A (Builtin.Frozenset.difference nm a (.ref b)) Q E s:=by
 have lt:∀{c:Addr} {ls:ZB},bp w c ls s.heap->c≠⇑s:=λ{c ls} h=>by
  obtain⟨o,_,_,_,_,U,_⟩:=h;exact Zt (Zv U)
 have J:∀c o,s.heap.get? c=some o->(s.heap.push (aR w)).get? c=some o:=λc o e=>Z7 _ e
 have Y:(s.heap.push (aR w)).get? ⇑s=some (aR w):=Zj _ rfl;have S1:=v.keep λo e=>J a o e
 have O1:=C.keep λo e=>J b o e
 unfold Builtin.Frozenset.difference;dsimp only;refine Z2 (qH C ?_);rw[if_neg (by decide)];refine Z2 (Z3 ?_);rw[if_neg ∅,if_pos rfl];refine Z2 (j6 C (Z2 (j6 v ?_)))
 generalize hG:s.heap.push (aR w)=G at J Y S1 O1
 split
 .refine Z2 (wpAny_rule (Z2 ?_));unfold Builtin.Frozenset.copyOf;refine Z2 (sF v (Z2 (sE ?_)));rw[hG];refine Z2 (Z3 (Z2 (zC (s:=(s>>>G)) S1 Y (Ne.symm (lt v)) ⋯ ⋯ λh1 sb R1=>Z3 ?_)));have k1:∀c o,s.heap.get? c=some o->h1.get? c=some o:=λc o e=>(sb.2 c (Zt (Zv e))).trans (J c o e)
  exact Z2 (Z3 (Z2 (wpAny_holding (zD (s:=(s>>>h1)) R1 (C.keep λo e=>k1 b o e) (Ne.symm (lt C)) ⋯ few λl d i k2 y M=>Z3 (hQ l d i (λc o e=>k2 c o (Zt (Zv e)) (k1 c o e)) y M)))))
 .refine Z2 (sF v (Z2 (sE ?_)));rw[hG];refine Z2 (Z3 ?_);obtain⟨o,es,ep,t,ss,U,a4,hd,a5,hp,a6,a7,hb,hf,a8,a0⟩:=id S1;have L:∀(s':Shared) (Q':Nat->Shared->Prop),s'.heap.get? a=some o->Q' ep s'->↥A (setEpoch a) Q' E s':=λs' Q' e q=>by
   unfold setEpoch;exact Z2 (wpAny_setState_of e hd hf (Z3 q))
  refine Z2 (L (s>>>G) _ U ?_);rw[if_pos rfl];refine Z2 (wpAny_holding (Z2 (pE (s:=(s>>>G)) S1 (λc B=>?_) (λr e=>⟨by cases e;exact Ne.symm (lt v),by cases e;exact bp.empty Y⟩) λzs d h1 pz k1 r1=>Z2 ?_)))
  .simp only[Yy,X9,or_false]at B;rcases B with rfl|rfl
   .exact%[_|O1]
   .exact%[_|bp.empty Y]
  rw[<-forIn_toList];refine e8 (λxs _ s'=>∃f rest h',zs=f++rest/\xs=rest.map (hsE w)/\s'={s with heap:=h',drawn:=d}/\(∀c o,c≠⇑s->G.get? c=some o->h'.get? c=some o)/\∃i,bp w ⇑s i h'/\i.length<=f.length/\∀x,x∈i↔x∈f.map (·.1)/\x∉I) _ _ _
   %[[],zs,h1,rfl,rfl,rfl,(λc o B e=>k1 c o (λq=>B (Za q).symm) e),[],r1 _ rfl,Zi _|by simp] ?_ ?_
  .rintro x xs _ s' ⟨f,rest,h',H,ex,rfl,g,i,M,ml,y⟩;cases rest with
   | nil=>cases ex
   | cons p rest=>
   rw[Yt]at ex;injection ex with ab N
   subst ab;have zl:zs.length=ks.length:=by rw[<-pz.length_eq,Z6]
   have pl:f.length<ks.length:=by rw[<-zl,H,Z9,Zr];lia
   rw[if_pos rfl];have m:∀(l:Heap) Qx,(∀c o,c≠⇑s->G.get? c=some o->l.get? c=some o)->Qx (.yield ⟨⟩) {s with heap:=l,drawn:=d}->↥A (Builtin.Frozenset.unchanged nm a ep>>= λ_=>pure (ForInStep.yield PUnit.unit)) Qx E {s with heap:=l,drawn:=d}:=λl Qx k2 q=>by
    refine Z2 ?_;unfold Builtin.Frozenset.unchanged;refine Z2 (L {s with heap:=l,drawn:=d} _ (k2 a o (lt v) U) ?_);rw[if_neg ∅];exact Z3 (Z3 q)
   have mem:∀x,x∈(f++[p]).map (·.1)↔x∈f.map (·.1)\/x=p.1:=λx=>by rw[Zd,Yv,Yt,map_nil,mem_singleton]
   obtain⟨o2,a9,bc,t2,bf,ac,a1,ag,n,O,a2,T,al,an,a3,as⟩:=id O1;refine Z2 (wpAny_holding (Z2 (sC (ks:=I) (z:=p.1) (tk:=p.2) (g b o2 (lt C) ac) ag T al an λq q1 q2=>Z2 (Z3 ?_))));cases q with
   | none=>
     have hz:p.1∉I:=λz=>by
      obtain⟨u,hu⟩:=(dS n).mpr (O.mem_iff.mpr z);obtain⟨e,he,q3⟩:=Xr hu;exact q1 rfl e he u q3
     rw[if_pos (by rfl)];refine Z2 (jQ (z:=p.1) (tk:=p.2) M (by rw[show scanBound=4096 from rfl];lia) λl bb sb M2=>Z3 ?_);have k2:=λc o B e=>(sb.2 c B).trans (g c o B e)
     refine m l _ k2 %[f++[p],rest,l,by rw[H,Ze];rfl,N,rfl,k2,_,M2,?_|λx=>?_]
     .rw[Z9,Yn]
      split
      .lia
      .rw[Z9,Yn];lia
     .rw[mem];by_cases hx:x=p.1
      .subst hx;refine%[λ_=>%[.inr rfl|hz]|λ_=>?_]
       split
       .rename_i h;exact h
       .exact Yx _ Zm
      .split
       .rw[y];exact%[λh=>%[.inl h.1|h.2]|λh=>%[h.1.resolve_right hx|h.2]]
       .rw[Yv,mem_singleton,y];exact%[λh=>let h:=h.resolve_right hx;%[.inl h.1|h.2]|λh=> .inl %[h.1.resolve_right hx|h.2]]
   | some j=>
     have hz:p.1∈I:=by
      obtain⟨u,hu⟩:=q2 j rfl;exact O.mem_iff.mp ((dS n).mp %[u|Xs %[_,Z8 hu|rfl]])
     rw[if_neg ∅];refine Z3 (m h' _ g %[f++[p],rest,h',by rw[H,Ze];rfl,N,rfl,g,i,M,by rw[Z9];lia|λx=>?_]);rw[y,mem];refine%[λh=>%[.inl h.1|h.2]|λh=>%[h.1.resolve_right λe=>h.2 (e▸hz)|h.2]]
  .rintro _ s' ⟨f,rest,h',H,ex,rfl,g,i,M,ml,y⟩;obtain rfl:rest=[]:=by
    cases rest with
    | nil=>rfl
    | cons p rest=>cases ex
   rw[Zz]at H;exact Z3 (Z3 (hQ h' d i (λc o e=>g c o (Zt (Zv e)) (J c o e)) (λx=>by rw[y,<-H,pz.mem_iff]) M))
end
theorem qI:entryFor table "set.__sub__"=some Builtin.«frozenset.__sub__»:=entryFor_alias (id':="frozenset.__sub__") (by kernel_rfl) rfl (by decide +kernel) (by kernel_rfl)
section
variable{X:Cx}
def zE(w:World):R2:=λx y H Q=>asR x λa=>asR y λb=>∃ks d,H a=some (jv w a ks)/\H b=some (jv w b d)/\ks.length<=900/\∀l c,H l=none->(∀x,x∈c↔x∈ks/\x∉d)->c.Nodup->Q (.ref l) (upd H l (jv w l c))
theorem Bq:OpR X (binaryOp .Sub) (zE X.w):=by
 intro pins s A H x y v u Q I l m h;obtain⟨a,rfl,n⟩:=fW h;obtain⟨b,rfl,ks,B,p,r,few,q⟩:=fW n;cases l;cases m;obtain⟨S,_,_⟩:=(I.hok a _ p)
 obtain⟨O,_,_⟩:=(I.hok b _ r)
 have e:∀{c:Addr} {i:ZB},bp X.w c i s.heap->s.TypeIs (.ref c) _:=λ{c i} h=>by
  obtain⟨o,C,E,t,ss,f,g,_⟩:=h;exact%[o,f|g.1]
 refine wpAny_binaryOp_same (e S) (e O) F.fills_set_sub F.slot_set_sub (wpAny_call_entry F.slot_set_sub (e S) qI (Z2 (Z2 (Z3 (Z3 (Z2 (Z2 (qH S (qH O (Z2 (Z3 (Z2 (Bp S O few λh' d j k w M=>Z3 %[_,rfl,by simp,.ref ⇑s,_,I.stoodS (o:=jv X.w ⇑s j) (I.keptS k rfl rfl) (Zi _) %[M,?_|λ_ _ z k1=>bp.keep z k1],rfl|q _ j (I.hok.fresh (Zi _)) w M.nd])))))))))))) (F.args_set_sub_2 _ _));obtain⟨o,_,_,_,_,f,_⟩:=M;exact%[o|f]
theorem DD(h:X.w=w):OpQ X (binaryOp .Sub) (zE w):=by subst h;exact⟨Bq⟩
end
theorem j7{X:Cx}(a:ce k X.A)(b:behindInMarks .NotIn o=false)(hi:QE X i ty)(c:QE X o d):QT X (.Compare i [.NotIn] [o] pos) (tB (qc ty d)):=
 ⟨xP (wn (by have:=a.units;lia) hi.h c.h) b⟩
open PySem PySem.Spec PyProof.Rows PySem.SeqAt
section
variable{X:Cx}
end
section
variable{X:Cx}{K:ZA}{pos:Pos}
theorem ae(i:Nat){x:Str}(h:(X.N[i]?,X.env.scope.names.lookup x,x==("__debug__":Str),x==("__classdict__":Str))=(some x,some .local,false,false)):QE X (.Name x pos) (nQ i):=by
 simp only[Prod.mk.injEq]at h;exact vn i h.1 (.inl h.2.1) h.2.2.1 h.2.2.2
theorem dU(i:Nat){x:Str}(h:(X.N[i]?,X.env.scope.names.lookup x,x==("__debug__":Str),x==("__classdict__":Str))=(some x,some .cell,false,false)):QE X (.Name x pos) (nQ i):=by
 simp only[Prod.mk.injEq]at h;exact vn i h.1 (.inr (.inl h.2.1)) h.2.2.1 h.2.2.2
theorem aD{mg:ZC}{j k:Nat}{x:Str}{ps:ZB}{sp:Sp}{p:Pos}{e:Expr}{a:List Expr}{t:TA}(C:Cal X.prog X.w K mg X.base j x ps sp)(b:ce k X.A)(h:(X.K,X.mg,X.env.kindOf x,Nat.ble j k,x==("__debug__":Str),(e::a).any aZ)=(K,mg,some .globalImplicit,true,false,false))(c:QA X (e::a) t):QE X (.Call (.Name x p) (e::a) [] pos) (re sp [] E0 t):=by
 simp only[Prod.mk.injEq]at h;obtain⟨rfl,rfl,h⟩:=h;exact calE C b h.1 h.2.1 h.2.2.1 h.2.2.2 c
theorem EX{mg:ZC}{j k:Nat}{x:Str}{ps:ZB}{sp:Sp}{p:Pos}{e:Expr}{a:List Expr}{t:TA}(C:Bg X.prog X.w K mg X.base j x ps sp)(c:sf K mg x)(b:ce k X.A)(h:(X.K,X.mg,X.env.kindOf x,Nat.ble (j+1) k,x==("__debug__":Str),(e::a).any aZ)=(K,mg,some .globalImplicit,true,false,false))(d:QA X (e::a) t):QE X (.Call (.Name x p) (e::a) [] pos) (vd (cG mg x) sp [] E0 t):=by
 simp only[Prod.mk.injEq]at h;obtain⟨rfl,rfl,h⟩:=h;exact EU C c b h.1 h.2.1 h.2.2.1 h.2.2.2 d
theorem pF{mg:ZC}{j k:Nat}{x m:Str}{ps:ZB}{sp:Sp}{a:Pos}{o:Expr}{b:TE}{pl:Sem Bool}(C:wW X.prog X.w K mg X.base j x m ps sp)(c:sf K mg x)(e:ce k X.A)(h:(X.K,X.mg,Nat.ble j k)=(K,mg,true))
 (g:eval (.Call (.Attribute o m a) [] [] pos) X.env=(do
  let d<-eval o X.env
  standAt a.atName
  let(f,first)<-holding [d] (getMethod d m pl)
  callWith pos f first (backTo pos (starEach [] X.env)) (backToKw pos (keywordEach [] X.env)))) (i:QE X o b):QE X (.Call (.Attribute o m a) [] [] pos) (vc (cG mg x) m sp [] E0 b v9):=by
 simp only[Prod.mk.injEq]at h;obtain⟨rfl,rfl,h⟩:=h;exact Dr C c e h g i
theorem cbO{x:Str}{id:String}{r:List V->Hp->VK->Prop}{p:Pos}{e:Expr}{a:List Expr}{t:TA}(b:cN X (.builtin id) r)(c:X.mg x=none)(d:bootBuiltins x=some (.builtin id))(h:(X.env.kindOf x,x==("__name__":Str),x==("__debug__":Str),(e::a).any aZ)=(some .globalImplicit,false,false,false))(f:QA X (e::a) t):QE X (.Call (.Name x p) (e::a) [] pos) (tCB r t):=by
 simp only[Prod.mk.injEq]at h;exact cbE b h.1 c d h.2.1 h.2.2.1 h.2.2.2 f
theorem ctO{x:Str}{T:String}{r:List V->Hp->VK->Prop}{p:Pos}{e:Expr}{a:List Expr}{t:TA}(b:cN X (.type T) r)(c:X.mg x=none)(d:bootBuiltins x=some (.type T))(h:(X.env.kindOf x,x==("__name__":Str),x==("__debug__":Str),(e::a).any aZ)=(some .globalImplicit,false,false,false))(f:QA X (e::a) t):QE X (.Call (.Name x p) (e::a) [] pos) (tCB r t):=by
 simp only[Prod.mk.injEq]at h;exact ctE b h.1 c d h.2.1 h.2.2.1 h.2.2.2 f
theorem bmO{o e:Expr}{c:List Expr}{f:TE}{t:TA}{name:Str}{a b:Pos}{T id:String}{r:V->List V->Hp->VK->Prop}(g:PlainAttrs T)(slot:Slot T name id)(d:typeOf (.builtin id)=pure (.type "method_descriptor"))(i:MtQ X id r)
 (h:(X.K,iY o,(e::c).any aZ,Nat.blt (e::c).length 30,a.endLine==b.line)=(K,false,false,true,true)) (j:QE X o f) (l:QA X (e::c) t):QE X (.Call (.Attribute o name a) (e::c) [] b) (tBM K T r f t):=by
 simp only[Prod.mk.injEq]at h;obtain⟨rfl,h⟩:=h;exact bmE rfl g slot d i h.1 h.2.1 h.2.2.1 h.2.2.2 j l
theorem aI(i:Nat){x:Str}{e:Expr}{b:TE}{a:Pos}(c:X.N.Nodup)(h:(X.N[i]?,X.env.scope.names.lookup x,gJ e)=(some x,some .local,false))(d:QE X e b):QS X (.Assign [.Name x a] e pos) (nR b (jm i)):=by
 simp only[Prod.mk.injEq]at h;exact wx i c h.1 (.inl h.2.1) (.inr h.2.1) h.2.2 d
theorem aM(i:Nat){x:Str}(a:X.N.Nodup)(h:(X.N[i]?,X.env.scope.names.lookup x)=(some x,some .local)):QG X (.Name x pos) (jm i):=by
 simp only[Prod.mk.injEq]at h;exact mK i a h.1 (.inl h.2) (.inr h.2)
end
section
#where
variable{K:ZA}{x C:Addr}{name:Str}{v:Value}{ox:Obj}
end
section
variable{X:Cx}{o value:Expr}{nm:Str}{ta tv:TE}{C:Addr}{pos pos':Pos}
end
section
variable{P:Program}{w:World}{K:ZA}{mg:ZC}{base:Heap}{x qual:Str}{st:Stmt}{N ps:ZB}{k:Nat}{sp:Sp}
end
noncomputable def kE:V->Bool
 | .byt _=>false
 | .flt _=>false
 | _=>true
theorem gW(r:aF xs us)(h:j<us.toArray.size):∃x,xs[j]? =some x/\aL x us.toArray[j]:=by
 have l:=h;have a:j<xs.length:=r.length▸l;obtain⟨u,b,c⟩:=r.get (i:=j) (x:=xs[j]) ∅
 simp_all
theorem pG{A:Around}{s:Shared}{x:V}{u v:Value}(e:kE x=true)(a:aL x u)(c:aL x v):EqAt A s u v true:=by
 cases x with
 | int i=>
   obtain⟨t,rfl⟩:=a;obtain⟨d,rfl⟩:=c;have:=EqAt.int_int (A:=A) (s:=s) i t i d;rwa[beq_self_eq_true]at this
 | str z=>
   obtain⟨t,rfl⟩:=a;obtain⟨d,rfl⟩:=c;have:=EqAt.str_str (A:=A) (s:=s) z t z d;rwa[beq_self_eq_true]at this
 | byt b=>cases e
 | flt b=>cases e
 | _=>cases a;cases c;exact EqAt.same _
theorem zF{xs:List V}(h:xs.all kE=true){j:Nat}{x:V}(e:xs[j]? =some x):kE x=true:=all_eq_true.mp h x (Z8 e)
section
#version
end
section
variable{X:Cx}
end
section
#version
theorem zG{k:ZB}{x:V}{j:Nat}(h:(k.map V.str)[j]? =some x):∃z,k[j]? =some z/\x= .str z:=by
 rw[Zl]at h;obtain⟨z,e,rfl⟩:=map_eq_some_iff.mp h;exact%[z,e|rfl]
theorem sG{k l:ZB}(h:k.map V.str=l.map V.str):k=l:=(List.map_inj_right λ_ _=>V.str.inj).mp h
theorem zH(I:Inv X pins σ H s){A:Around}{a b:Addr}{k l:ZB}(g:H a=some (.tup (k.map V.str)))(f:H b=some (.tup (l.map V.str)))(q:A.units<cLine):EqAt A s (.ref a) (.ref b) (decide (k=l)):=by
 by_cases e:a=b
 .subst e;rw[g]at f;rw[Zf (sG (HO.tup.inj (Za f)))];exact EqAt.same _
 .obtain⟨us,m,r,_⟩:=I.tuple (SqT.of g);obtain⟨vs,n,t,_⟩:=I.tuple (SqT.of f);have d:=RcAt.tuples r t q λj o p=>by
   obtain⟨x,ex,v⟩:=gW m o;obtain⟨y,w,B⟩:=gW n p;obtain⟨z,C,rfl⟩:=zG ex;obtain⟨u,E,rfl⟩:=zG w;have:=yx (A:=A.in1) (s:=s) v B rfl rfl;rw[show eqV _ _=decide (k[j]? =l[j]?) by rw[C,E];by_cases c:z=u<;> simp[eqV,c]]at this;exact this
  rw[show((List.range _).all _&&us.toArray.size==vs.toArray.size)=decide (k=l) by
   rw[Zp,Zp,<-m.length,<-n.length,Bool.eq_iff_iff,Zx,all_eq_true,decide_eq_true_iff];refine%[λ⟨o,p⟩=>ext_getElem? λi=>?_|λh=>by lia]
   grind]at d
  exact EqAt.of_refs e d
end
section
variable{X:Cx}
abbrev vD:R2:=λx y H Q=>∃(a p:Addr) (k:ZB) (ws:ZG),x= .ref a/\y= .ref p/\H a=some (.tup (k.map V.str))/\H p=some (.lst (ws.map λt=>V.ref t.1))/\(∀t∈ws,H t.1=some (.tup (t.2.map V.str)))/\k∈ws.map (·.2)/\Q (.bl false) H
open Classical in
theorem xh(f:X.A.units+64<cLine):OpR X (compareOp .NotIn) vD:=by
 intro pins s C H x y v u Q I g i h;obtain⟨a,p,k,ws,rfl,rfl,l,m,hw,n,q⟩:=h;cases g;cases i;obtain⟨us,r,pl,_⟩:=I.list (SqL.of m);have of:∀y∈us,∃t∈ws,y= .ref t.1:=λy c=>by
  obtain⟨j,d,rfl⟩:=Yg c;obtain⟨x,ex,rr⟩:=gW r (d);rw[Zl]at ex;obtain⟨t,b,rfl⟩:=map_eq_some_iff.mp ex;exact%[t,Z8 b|(rr)]
 refine notIn_listAt (λv=>decide (∃t∈ws,v= .ref t.1/\t.2=k)) pl.isList (λy c=>?_) %[.bl false,H,I,?_|q]
 .obtain⟨t,b,rfl⟩:=of y (by simpa using c);have:=zH I (A:=X.A.in1) (hw t b) l ⋯;rw[show decide _=decide (t.2=k)from ?_]
  .exact this
  .rw[Bool.eq_iff_iff,decide_eq_true_iff,decide_eq_true_iff];refine%[λ⟨t',o,w,z⟩=>?_|λh=>%[t,b,rfl|h]];have e:=hw t' o;rw[<-Value.ref.inj w,hw t b]at e;rw[<-z,sG (HO.tup.inj (Za e))]
 .obtain⟨t,b,e⟩:=Xr n;obtain⟨j,d⟩:=Xi b;obtain⟨u,f,B⟩:=r.get (by rw[Zl,d];rfl);cases B;rw[show us.toArray.any _=true from ?_]
  .rfl
  .rw[List.any_toArray,any_eq_true];exact%[_,Z8 f|Zf %[t,b,rfl|e]]
theorem sH(a:ce k X.A):OpQ X (compareOp .NotIn) vD:=⟨xh a.units⟩
end
section
variable{P:Program}{w:World}{K:ZA}{mg:ZC}{base:Heap}{k:Nat}{f:Addr}{fd:FuncData}{ps:ZB}{sp:Sp}
end
section
variable{P:Program}{w:World}{K:ZA}{tg:Expr}
end
section
variable{P:Program}{w:World}{K:ZA}{elts:List Expr}{kt:Nat}{tp:Pos}
end
section
variable{X:Cx}
end
section
variable{X:Cx}
end
section
variable{prog:Program}{w:World}{A:Around}{R:Result->Shared->Prop}{I S:Addr}{fp wr:List Addr}{n:Nat}{P:Nat->Value->Prop}{St:Nat->Heap->Prop}{val:Nat->Int}{kn:Str}{d:Value}
end
section
variable{X:Cx}{e v:Expr}{te tv:TE}{p pos kpos:Pos}
end
section
variable{X:Cx}{K:ZA}{e v:Expr}{te tv:TE}{p pos kpos:Pos}
end
section
variable{prog:Program}{w:World}{A:Around}{s:Shared}{E:ZD}
end
section
variable{X:Cx}{K:ZA}
end
def DE:V->List V->Hp->VK->Prop:=λx ys H Q=>∃z y,x= .str z/\ys=[V.str y]/\y.length<=1000/\z.length<=1000/\Q (.str (Txt.join z (signs y))) H
theorem vE{X:Cx}(a:X.calm=true):MtQ X "str.join" DE:=⟨by
 intro pins s i H x ys v us Q I b c h;obtain⟨z,y,rfl,rfl,d,e,q⟩:=h;obtain⟨j,rfl⟩:=(show∃t,v=Value.str z t from b)
 obtain⟨u,rfl,f⟩:=dh c;obtain⟨t,rfl⟩:=(show∃t,u=Value.str y t from f)
 exact PySem.SC.joinStr (I.ok.hd a) (joinOk_signsN d e (by decide)) λh' k t' g=>%[.str _,H,I.kept (t':=k) g,%[_|rfl]|q]⟩
section
variable{X:Cx}
end
def B2(H:Hp)(x y:V):Prop:=(x=y/\kE x=true)\/∃a b xs,x= .ref a/\y= .ref b/\H a=some (.tup xs)/\H b=some (.tup xs)/\xs.all kE=true
section
#version
theorem uG(I:Inv X pins σ H s){A:Around}{x y:V}{u v:Value}(h:B2 H x y)(n:A.units<cLine)(f:aL x u)(g:aL y v):EqAt A s u v true:=by
 rcases h with⟨rfl,d⟩|⟨a,b,xs,rfl,rfl,o,p,d⟩
 .exact pG d f g
 .cases f;cases g;by_cases e:a=b
  .subst e;exact EqAt.same _
  .obtain⟨us,i,q,_⟩:=I.tuple (SqT.of o);obtain⟨vs,l,r,_⟩:=I.tuple (SqT.of p);have c:=RcAt.tuples (A:=A) (s:=s) (e:=λ_=>true) q r n λj t w=>by
    obtain⟨x,ex,z⟩:=gW i t;obtain⟨y,m,B⟩:=gW l w;rw[ex]at m;cases m;exact pG (zF d ex) z B
   have C:us.toArray.size=vs.toArray.size:=by rw[Zp,Zp,<-i.length,<-l.length]
   rw[C,show((List.range (min vs.toArray.size vs.toArray.size)).all (λ_=>true)&&vs.toArray.size==vs.toArray.size)=true by simp]at c;exact EqAt.of_refs e c
end
section
variable{X:Cx}
abbrev EY:R2:=λx y H Q=>∃a b xs ys,x= .ref a/\y= .ref b/\H a=some (.lst xs)/\H b=some (.lst ys)/\xs.length=ys.length/\(∀(j:Nat) (x y:V),xs[j]? =some x->ys[j]? =some y->B2 H x y)/\Q (.bl true) H
theorem DF(B:X.A.units+64<cLine):OpR X (compareOp .Eq) EY:=by
 intro pins s C H x y v u Q I d f h;obtain⟨a,b,xs,ys,rfl,rfl,g,i,l,m,q⟩:=h;cases d;cases f;obtain⟨us,d,n,_⟩:=I.list (SqL.of g);obtain⟨vs,f,o,_⟩:=I.list (SqL.of i);have c:=RcAt.lists (A:=X.A) (s:=s) (e:=λ_=>true) n.isList o.isList (by rw[Zp,Zp,<-d.length,<-f.length,l]) ⋯ λj p r=>by
  obtain⟨x,ex,t⟩:=gW d p;obtain⟨y,w,z⟩:=gW f r;exact uG I (m j x y ex w) (by show X.A.units+1<cLine;lia) t z
 rw[show(List.range us.toArray.size).all (λ_=>true)=true by simp]at c;exact c _ _ _ _ %[.bl _,H,I,rfl|q]
theorem B3{k:Nat}(a:ce k X.A):OpQ X (compareOp .Eq) EY:=⟨DF a.units⟩
end
end L2
namespace Cut
open PySem L2
inductive dW (S:Str->Str->Prop):Str->Str->Prop
 | refl (x:Str):dW S x x
 | step {x y z:Str}:dW S x y->(S y z\/S z y)->dW S x z
theorem dW.trans{S:Str->Str->Prop}(h:dW S x y)(g:dW S y z):dW S x z:=by
 induction g with
 | refl=>exact h
 | step _ s a=>exact .step a s
theorem dW.one{S:Str->Str->Prop}(h:S x y\/S y x):dW S x y:= .step (.refl x) h
theorem dW.symm{S:Str->Str->Prop}(h:dW S x y):dW S y x:=by
 induction h with
 | refl=>exact .refl _
 | step _ s a=>exact(dW.one s.symm).trans a
theorem dW.mono{S R:Str->Str->Prop}(m:∀a b,S a b->R a b)(h:dW S x y):dW R x y:=by
 induction h with
 | refl=>exact .refl _
 | step _ s c=>exact .step c (s.imp (m _ _) (m _ _))
theorem dW.within{S:Str->Str->Prop}{p:Str->Prop}(w:∀a b,S a b->p a/\p b)(h:dW S x y)(c:p x):p y:=by
 induction h with
 | refl=>exact c
 | step _ s _=>
   rcases s with s|s
   .exact(w _ _ s).2
   .exact(w _ _ s).1
def cD(S:Str->Str->Prop)(z r:Str):Prop:=dW S z r/\∀y,dW S z y->aX y r=false
theorem cD.one{S:Str->Str->Prop}(h:cD S z r)(g:cD S z a):r=a:=by
 by_cases e:r=a
 .exact e
 .have:=gu (g.2 _ h.1) e;rw[h.2 _ g.1]at this;cases this
structure bJ (ls:ZB) (f r:Str->Str) (S:Str->Str->Prop):Prop where
 ws:∀a b,S a b->a∈ls/\b∈ls
 fin:∀z∈ls,f z∈ls
 rin:∀z∈ls,r z∈ls
 rf:∀z∈ls,r (f z)=r z
 fr:∀z∈ls,f (r z)=r z
 fix:∀z∈ls,f z=z->r z=z
 dec:∀z∈ls,f z≠z->aX (f z) z=true
 le:∀z∈ls,aX z (r z)=false
 cl:∀x∈ls,∀y∈ls,r x=r y↔dW S x y
theorem bJ.rr{S:Str->Str->Prop}(F:bJ a f r S)(h:z∈a):r (r z)=r z:=F.fix _ (F.rin z h) (F.fr z h)
theorem bJ.conn{S:Str->Str->Prop}(F:bJ a f r S)(h:z∈a):dW S z (r z):=(F.cl z h _ (F.rin z h)).mp (F.rr h).symm
theorem bJ.least{S:Str->Str->Prop}(F:bJ b f r S){z:Str}(h:z∈b):cD S z (r z):=by
 refine%[F.conn h|λy c=>?_];have a:=c.within F.ws h;rw[(F.cl z h y a).mpr c];exact F.le y a
theorem bJ.start(a:ZB):bJ a id id (λ_ _=>False):=by
 refine%[λ_ _ h=>h.elim,λz h=>h,λz h=>h,λ_ _=>rfl,λ_ _=>rfl,λ_ _ _=>rfl,λz _ h=>(h rfl).elim,λz _=>fG z|λx b y d=>%[λe=>?_|λc=>?_]]
 .rw[show x=y from e];exact .refl _
 .induction c with
  | refl=>rfl
  | step _ s _=>simp_all
theorem bJ.join{S:Str->Str->Prop}(F:bJ j f r S){a b M m:Str}(q:a∈j)(t:b∈j)(A:M=if aX (r a) (r b)=true then r b else r a)(B:m=if aX (r b) (r a)=true then r b else r a):
 bJ j (λx=>if x=M then m else f x) (λx=>if r x=M then m else r x) (λx y=>S x y\/(x=a/\y=b)):=by
 have g:(M=r a/\m=r b)\/(M=r b/\m=r a):=by
  rw[A,B];cases e:aX _ _ with
  | true=>
    have:aX (r b) (r a)=false:=by
     cases i:aX _ _ with
     | false=>rfl
     | true=>have:=gi e i;rw[fG]at this;cases this
    exact this▸ .inr %[rfl|rfl]
  | false=>
    cases i:aX _ _ with
    | true=>exact .inl %[rfl|rfl]
    | false=>
      have:r a=r b:=by
       by_cases h:r a=r b
       .exact h
       .have:=gu e h;rw[i]at this;cases this
      exact this▸ .inl %[rfl|rfl]
 have lt:m≠M->aX m M=true:=by
  rw[A,B];cases e:aX _ _ with
  | true=>
    cases i:aX _ _ with
    | true=>intro h;exact(h rfl).elim
    | false=>intro _;exact e
  | false=>
    cases i:aX _ _ with
    | true=>intro _;exact i
    | false=>intro h;exact(h rfl).elim
 have Q:=F.rin a q;have T:=F.rin b t;have C:m∈j:=by rcases g with⟨_,h⟩|⟨_,h⟩<;> rw[h]<;> assumption
 have E:r M=M:=by rcases g with⟨h,_⟩|⟨h,_⟩<;> rw[h]<;> apply F.rr<;> assumption
 have L:r m=m:=by rcases g with⟨_,h⟩|⟨_,h⟩<;> rw[h]<;> apply F.rr<;> assumption
 have N:dW (λx y=>S x y\/(x=a/\y=b)) M m:=by
  have G:dW (λx y=>S x y\/(x=a/\y=b)) _ _:=(((F.conn q).mono λ_ _=> .inl).symm.trans (.one (.inl (.inr %[rfl|rfl])))).trans ((F.conn t).mono λ_ _=> .inl);rcases g with⟨l,n⟩|⟨l,n⟩
  .rw[l,n];exact G
  .rw[l,n];exact G.symm
 have p:∀x∈j,dW _ x (if r x=M then m else r x):=λx w=>by
  have c:=(F.conn w).mono (R:=λx y=>S x y\/(x=a/\y=b)) λ_ _=> .inl
  by_cases e:r x=M
  .rw[if_pos e];rw[e]at c;exact c.trans N
  .rw[if_neg e];exact c
 have H:(if r a=M then m else r a)=(if r b=M then m else r b):=by
  rcases g with⟨l,n⟩|⟨l,n⟩
  .rw[if_pos l.symm];by_cases e:r b=M
   .rw[if_pos e]
   .rw[if_neg e];exact n
  .rw[if_pos l.symm];by_cases e:r a=M
   .rw[if_pos e]
   .rw[if_neg e];exact n.symm
 refine%[λx y h=>?_,λz d=>?_,λz d=>?_,λz d=>?_,λz d=>?_,λz d h=>?_,λz d h=>?_,λz d=>?_|λx w y I=>%[λe=>?_|λc=>?_]]
 .rcases h with h|⟨rfl,rfl⟩
  .exact F.ws x y h
  .exact%[q|t]
 .split
  .exact C
  .exact F.fin z d
 .split
  .exact C
  .exact F.rin z d
 .by_cases e:z=M
  .rw[if_pos e,e,E,if_pos rfl,L]
   split<;> rfl
  .rw[if_neg e,F.rf z d]
 .by_cases e:r z=M
  .rw[if_pos e]
   split
   .rfl
   .exact(by rcases g with⟨_,h⟩|⟨_,h⟩<;> rw[h]<;> apply F.fr<;> assumption)
  .rw[if_neg e,if_neg e];exact F.fr z d
 .by_cases e:z=M
  .rw[if_pos e]at h;rw[e,E,if_pos rfl,<-e];exact h
  .rw[if_neg e]at h;rw[F.fix z d h,if_neg e]
 .by_cases e:z=M
  .rw[if_pos e]at h ⊢;rw[e]at h ⊢;exact lt h
  .rw[if_neg e]at h ⊢;exact F.dec z d h
 .by_cases e:r z=M
  .rw[if_pos e];cases i:aX z m with
   | false=>rfl
   | true=>
     have o:=F.le z d;rw[e]at o;by_cases em:m=M
     .rw[em]at i;rw[o]at i;cases i
     .have:=gi i (lt em);rw[o]at this;cases this
  .rw[if_neg e];exact F.le z d
 .have c:=(p x w)
  rw[e]at c;exact c.trans (p y I).symm
 .have ws:∀x y,(S x y\/(x=a/\y=b))->x∈j/\y∈j:=λx y h=>by
   rcases h with h|⟨rfl,rfl⟩
   .exact F.ws x y h
   .exact%[q|t]
  clear I
  induction c with
  | refl=>rfl
  | step c s O=>
    rename_i u v
    have J:=c.within ws w;rw[O];rcases s with(s|⟨rfl,rfl⟩)|(s|⟨rfl,rfl⟩)
    .rw[(F.cl u J v (F.ws u v s).2).mpr (.one (.inl s))]
    .exact H
    .rw[(F.cl u J v (F.ws v u s).1).mpr (.one (.inr s))]
    .exact H.symm
theorem bJ.short{S:Str->Str->Prop}(F:bJ d f r S)(b:z∈d):bJ d (λx=>if x=z then f (f z)else f x) r S:=by
 have g:f z≠z->aX (f _) z=true:=λh=>by
  have i:=F.dec z b h;by_cases e:f (f z)=f z
  .exact e▸i
  .exact gi (F.dec _ (F.fin z b) e) i
 refine%[F.ws,λx a=>?_,F.rin,λx a=>?_,λx a=>?_,λx a h=>?_,λx a h=>?_,F.le|F.cl]
 .split
  .exact F.fin _ (F.fin z b)
  .exact F.fin x a
 .by_cases e:x=z
  .rw[if_pos e,F.rf _ (F.fin z b),F.rf z b,e]
  .rw[if_neg e];exact F.rf x a
 .by_cases e:r x=z
  .rw[if_pos e];have:=F.fr x a
   simp_all
  .rw[if_neg e];exact F.fr x a
 .by_cases e:x=z
  .rw[if_pos e]at h;rw[e]at h ⊢;by_cases c:f z=z
   .exact F.fix z b c
   .have:=g c;rw[h,fG]at this;cases this
  .rw[if_neg e]at h;exact F.fix x a h
 .by_cases e:x=z
  .rw[if_pos e]at h ⊢;rw[e]at h ⊢;refine g λc=>h ?_
   rw[c,c]
  .rw[if_neg e]at h ⊢;exact F.dec x a h
theorem bJ.done{S:Str->Str->Prop}(F:bJ b f r S)(a:z∈b)(h:∀w∈b,aX w z=true->f w=r w):f (f z)=r z:=by
 by_cases e:f z=z
 .rw[e,e];exact(F.fix z a e).symm
 .rw[h _ (F.fin z a) (F.dec z a e),F.rf z a]
end Cut
namespace Cut
open PySem L2
def Ed(ks:List ZB)(a b:Str):Prop:=∃z,[a,b,z]∈ks
inductive Rch (ks:List ZB):Str->Str->Prop
 | one {a b:Str}:Ed ks a b->Rch ks a b
 | more {a b c:Str}:Rch ks a b->Ed ks b c->Rch ks a c
theorem Rch.closed{R:Str->Prop}(a:∀y,Ed ks s y->R y)(h:∀x y,R x->Ed ks x y->R y)(r:Rch ks s y):R y:=by
 induction r with
 | one e=>exact a _ e
 | more _ e b=>exact h _ _ b e
theorem pH{ks:List _}{laid:ZB}(h:∀i x,laid[i]? =some x->∀y,Ed ks x y->y∈laid.take i){i:Nat}{x y:Str}(hi:laid[i]? =some x)(r:Rch ks x y):∃j,j<i/\laid[j]? =some y:=by
 have b:∀i y,y∈laid.take i->∃j,j<i/\laid[j]? =some y:=λi y d=>by
  obtain⟨j,c⟩:=Xi d;have f:=(Xo c).1;rw[Yo]at f;exact%[j,⋯|by rwa[List.getElem?_take_of_lt ⋯]at c]
 refine r.closed (λy e=>b i y (h i x hi y e)) λa y ⟨j,m,c⟩ e=>?_
 obtain⟨g,n,l⟩:=b j y (h j a c y e);exact%[g,⋯|l]
theorem Br{laid:ZB}(h:∀(i:Nat) x,laid[i]? =some x->∀y,Ed ks x y->y∈laid.take i){x:Str}(a:x∈laid): ¬ Rch ks x x:=by
 intro r;obtain⟨i,hi⟩:=Xi a;have:∀n i:Nat,i<=n->laid[i]? ≠some x:=λn=>by
  induction n with
  | zero=>
    intro i hi e;obtain⟨j,b,_⟩:=pH h e r
    lia
  | succ n c=>
    intro i hi e;obtain⟨j,b,d⟩:=pH h e r;exact c j ⋯ d
 exact this i i (Zi _) hi
noncomputable def Wal:List ZB->Str->Str->Prop
 |[],a,b=>a=b
 | k::r,a,b=>∃c z,k=[a,c,z]/\Wal r c b
theorem Wal.app:∀{us vs:List ZB} {a:Str},Wal us a b->Wal vs b c->Wal (us++vs) a c
 |[],_,_,h,g=>h▸g
 | _::_,_,_,⟨d,z,e,h⟩,g=>%[d,z,e|h.app g]
def Dst(ks:List ZB)(s:Str)(n:Nat)(x:Str):Prop:=∃us:List _,us.length=n/\(∀k∈us,k∈ks)/\Wal us s x
theorem Dst.nil:Dst ks s 0 s:=%[[],rfl,λ_ h=>(nomatch h)|rfl]
theorem Dst.app(h:Dst ks s n x)(g:Dst ks x m y):Dst ks s (n+m) y:=by
 obtain⟨us,d,a,b⟩:=h;obtain⟨vs,g1,g2,g3⟩:=g;exact%[us++vs,by simp_all,λk c=>(Xp c).elim (a k) (g2 k)|b.app g3]
theorem Ed.dst(e:Ed ks s x):Dst ks s 1 x:=by
 obtain⟨z,e⟩:=e;exact%[[[s,x,z]],rfl,λk a=>(Xq a)▸e,x,z,rfl|rfl]
theorem Dst.last:∀{n:Nat} {s:Str},Dst ks s (n+1) x->∃y,Dst ks s n y/\Ed ks y x
 | n,s,⟨[],a,_,_⟩=>(nomatch a)
 | 0,s,⟨[k],_,b,c,z,e,h⟩=>%[s,.nil,z|by rw[<-h,<-e];exact b k Zm]
 | 0,s,⟨_::_::_,a,_,_⟩=>absurd a ∅
 | n+1,s,⟨k::r,a,b,c,z,e,h⟩=>by
   obtain⟨y,d,f⟩:=Dst.last %[r,by simpa using a,λk g=>b k (Zk _ g)|h];have:Ed ks s c:=%[z|e▸b k Zm]
   exact%[y,Nat.add_comm 1 n▸this.dst.app d|f]
theorem Rch.dst(h:Rch ks a b):∃n,Dst ks a (n+1) b:=by
 induction h with
 | one e=>exact%[0|e.dst]
 | more _ e c=>
   obtain⟨n,h⟩:=c;exact%[n+1|h.app e.dst]
theorem Dst.rch:∀{n:Nat} {b:Str},Dst ks a (n+1) b->Rch ks a b
 | 0,b,h=>by
   obtain⟨y,⟨us,d,_,c⟩,e⟩:=h.last;rw[length_eq_zero_iff.mp d]at c;rw[c];exact .one e
 | n+1,b,h=>by
   obtain⟨y,h,e⟩:=h.last;exact .more h.rch e
structure Lev (ks:List ZB) (st:Str) (rs:List (Str×Addr×ZB)) (d:Str->Nat) (k:Nat) (F:ZB):Prop where
 nd:(rs.map (·.1)).Nodup
 by_:∀r∈rs,r.2.2∈ks/\∃p z,r.2.2=[p,r.1,z]/\((p=st/\d r.1=1)\/(p≠st/\p∈rs.map (·.1)/\d r.1=d p+1))
 le:∀x∈rs.map (·.1),d x<=k
 edge:∀x,x∈F↔(k=0/\x=st)\/(1<=k/\x∈rs.map (·.1)/\d x=k)
 all:∀n x,1<=n->n<=k->Dst ks st n x->x∈rs.map (·.1)/\d x<=n
section
variable{ks:List ZB}{st:Str}{rs:List (Str×Addr×ZB)}{d:Str->Nat}{k:Nat}{F:ZB}
theorem Lev.nil:Lev ks st [] (λ_=>0) 0 [st]:=
 %[X7,λ_ h=>(nomatch h),λ_ h=>(nomatch h),λx=>by simp|λn x a b=>by lia]
theorem Lev.dst(h:Lev ks st rs d k F)(a:x∈rs.map (·.1)):1<=d x/\Dst ks st (d x) x:=by
 have:∀m x,x∈rs.map (·.1)->d x<=m->1<=d x/\Dst ks st (d x) x:=λm=>by
  induction m with
  | zero=>
    intro x a l;obtain⟨r,b,rfl⟩:=Xr a;obtain⟨_,p,z,_,⟨_,e⟩|⟨_,_,e⟩⟩:=h.by_ r b<;> lia
  | succ m g=>
    intro x a l;obtain⟨r,b,rfl⟩:=Xr a;obtain⟨c,p,z,i,q⟩:=h.by_ r b;rw[i]at c;have f:Ed ks p r.1:=%[z|c]
    rcases q with⟨rfl,e⟩|⟨_,j,e⟩
    .rw[e];exact%[Zi _|f.dst]
    .exact e▸%[⋯|(g p j ⋯).2.app f.dst]
 exact this _ x a (Zi _)
theorem Lev.min(h:Lev ks st rs d k F)(a:x∈rs.map (·.1))(g:Dst ks st (n+1) x):d x<=n+1:=by
 by_cases c:n+1<=k
 .exact(h.all _ x ⋯ c g).2
 .have:=h.le x a
  lia
theorem Lev.stop(h:Lev ks st rs d k []):∀{n:Nat},Dst ks st (n+1) x->x∈rs.map (·.1):=by
 have k1:=Nat.pos_of_ne_zero λc=>(nomatch (h.edge st).mpr (.inl %[c|rfl]))
 have:∀n x,Dst ks st (n+1) x->x∈rs.map _:=λn=>by
  induction n with
  | zero=>exact λx g=>(h.all 1 x (Zi _) k1 g).1
  | succ n a=>
    intro x g;obtain⟨y,b,e⟩:=g.last;have q:=a y b;have l:=h.le y q;have ne:d y≠k:=λc=>(nomatch (h.edge y).mpr (.inr %[k1,q|c]))
    exact(h.all _ x ⋯ ⋯ ((h.dst q).2.app e.dst)).1
 exact λ{n}=>this n x
theorem Lev.step(h:Lev ks st rs d k F)(nd:((rs++new).map (·.1)).Nodup)(C:∀r∈new,r.2.2∈ks/\∃p z,p∈F/\r.2.2=[p,r.1,z])
 (u:∀x∈F,∀y,Ed ks x y->y∈(rs++new).map (·.1)):Lev ks st (rs++new) (λx=>if x∈new.map (·.1)then k+1 else d x) (k+1) (new.map (·.1)):=by
 have o:=nd;rw[Zd,X4]at o;have f:∀{x},x∈rs.map (·.1)->x∉new.map (·.1):=λ{x} a b=>o.2.2 x a x b rfl
 have mem:∀{x},x∈(rs++new).map (·.1)↔x∈rs.map (·.1)\/x∈new.map (·.1):=λ{x}=>by rw[Zd,Yv]
 have le:∀x∈(rs++new).map (·.1),(if x∈new.map (·.1)then k+1 else d x)<=k+1:=λx l=>by
  by_cases c:x∈new.map (·.1)
  .rw[if_pos c];exact Zi _
  .rw[if_neg c];have:=h.le x ((mem.mp l).resolve_right c);lia
 refine%[nd,λr E=>?_,le,λx=>?_|λn x G M g=>?_]
 .rcases Xp E with q|q
  .obtain⟨t,p,z,e,g⟩:=h.by_ r q;refine%[t,p,z,e|?_];rw[if_neg (f (Xs %[r,q|rfl]))];refine g.imp_right λ⟨a,b,c⟩=>%[a,mem.mpr (.inl b)|?_]
   rw[if_neg (f b)];exact c
  .obtain⟨t,p,z,H,e⟩:=C r q;have v:r.1∈new.map (·.1):=Xs %[r,q|rfl];refine%[t,p,z,e|?_];rw[if_pos v];rcases(h.edge p).mp H with⟨rfl,rfl⟩|⟨k1,b,c⟩
   .exact .inl %[rfl|rfl]
   .refine .inr %[λps=>?_,mem.mpr (.inl b)|by rw[if_neg (f b),c]];have:Ed ks st r.1:=%[z|by rw[<-ps,<-e];exact t]
    exact f (h.all 1 _ (Zi _) k1 this.dst).1 v
 .refine%[λl=> .inr %[⋯,mem.mpr (.inr l)|if_pos l]|λl=>?_];rcases l with⟨a,_⟩|⟨_,a,b⟩
  .lia
  .refine(mem.mp a).resolve_left λc=>?_
   rw[if_neg (f c)]at b;have:=h.le x c
   lia
 .have i:∀{m},1<=m->m<=k->Dst ks st m x->x∈(rs++new).map _/\(if x∈new.map _ then k+1 else d x)<=m:=λa b g=>by
   obtain⟨s,w⟩:=h.all _ x a b g;exact%[mem.mpr (.inl s)|by rw[if_neg (f s)];exact w]
  by_cases c:n<=k
  .exact i G c g
  .obtain rfl:n=k+1:=by lia
   have j:x∈(rs++new).map _->x∈(rs++new).map _/\(if x∈new.map _ then k+1 else d x)<=k+1:=λa=>%[a|le x a]
   obtain⟨y,A,e⟩:=g.last;by_cases I:k=0
   .subst I;obtain⟨us,J,_,B⟩:=A;rw[length_eq_zero_iff.mp J]at B;exact j (u y ((h.edge y).mpr (.inl %[rfl|(B).symm])) x e)
   .obtain⟨s,w⟩:=h.all k y ⋯ (Zi _) A;by_cases L:d y=k
    .exact j (u y ((h.edge y).mpr (.inr %[⋯,s|L])) x e)
    .exact j (i ⋯ ⋯ ((h.dst s).2.app e.dst)).1
end
structure Sho (ks:List _) (a b:Str) (us:List _):Prop where
 sub:∀k∈us,k∈ks
 wal:Wal us a b
 pos:0<us.length
 min:∀n,Dst ks a (n+1) b->us.length<=n+1
theorem Sho.dst(h:Sho ks a b us):∃n,us.length=n+1/\Dst ks a (n+1) b:=
 %[us.length-1,by have:=h.pos;lia,us,by have:=h.pos;lia,h.sub|h.wal]
theorem Sho.rch(h:Sho ks a b us):Rch ks a b:=by
 obtain⟨n,_,d⟩:=h.dst;exact d.rch
end Cut
namespace Cut
open PySem L2
theorem no(lt:q->q->Bool)(c:∀x y,lt x y=false->x≠y->lt y x=true):∀{l m:List q},l.Pairwise (λa b=>lt b a=false)->m.Pairwise (λa b=>lt b a=false)->l.Nodup->m.Nodup->(∀x,x∈l↔x∈m)->l=m
 |[],[],_,_,_,_,_=>rfl
 |[],y::m,_,_,_,_,h=>absurd ((h y).mpr Zm) ∅
 | x::l,[],_,_,_,_,h=>absurd ((h x).mp Zm) ∅
 | x::l,y::m,s,t,nl,u,h=>by
   obtain⟨f,g⟩:=List.pairwise_cons.mp s;obtain⟨i,j⟩:=List.pairwise_cons.mp t;obtain⟨v,n⟩:=nodup_cons.mp nl;obtain⟨w,o⟩:=nodup_cons.mp u;have e:=Classical.byContradiction λd=>by
    have A:=(mem_cons.mp ((h x).mp Zm)).resolve_left d;have r:=f y ((mem_cons.mp ((h y).mpr Zm)).resolve_left (Ne.symm d));rw[c x y (i x A) d]at r;cases r
   subst e;rw[no lt c g j n o λz=>?_]
   constructor
   .intro p;rcases mem_cons.mp ((h z).mp (Zk _ p))with e|e
    .simp_all
    .exact e
   .intro p;rcases mem_cons.mp ((h z).mpr (Zk _ p))with e|e
    .simp_all
    .exact e
def Let(rows:ZB)(c:Nat):Prop:=c≠46/\∃r∈rows,c∈r.cps.toList
def Bs(rows:ZB)(a b:Nat):Prop:=a≠46/\a≠b/\∃(i j:Nat) (r c:Str),rows[i]? =some r/\rows[i+1]? =some c/\r.cps[j]? =some a/\c.cps[j]? =some b
theorem gC:c∈cV rows↔Let rows c:=by
 unfold cV Let;rw[List.mem_filter,rR,List.mem_flatten,decide_eq_true_eq]
 constructor
 .rintro⟨⟨l,e,b⟩,a⟩;obtain⟨r,d,rfl⟩:=Xr e;exact%[a,r,d|b]
 .rintro⟨a,r,d,b⟩;exact%[%[_,Xs %[r,d|rfl]|b]|a]
end Cut
namespace Cut
open PySem L2
def St(wd:Bool)(c d:Int):Prop:=c<=d+(if wd=true then 1 else 0)/\d<=c+(if wd=true then 1 else 2)
def iq(wd:Bool)(cs:ZL):Prop:=∃a:Nat,a<cs.length/\(∀k c,cs[k]? =some c->(k<a->c= -1)/\(a<=k->0<=c/\c<=7))/\∀k c d,cs[k]? =some c->cs[k+1]? =some d->a<=k->St wd c d
noncomputable def sg(a s:Int):Nat:=if a<0 then 46 else 97+((a*5+s)%26).toNat
theorem DG(h:0<=a):iL (sg a s)=true:=by
 unfold sg;rw[if_neg ⋯,kB]
 lia
theorem DH(h:a<0):sg a s=46:=if_pos h
theorem zI(h:0<=a):sg a s≠46:=by
 unfold sg;rw[if_neg ⋯]
 lia
theorem DJ(e:0<=a)(c:a<=7)(f:0<=b)(d:b<=7)(h:sg a s=sg b s):a=b:=by
 unfold sg at h;rw[if_neg ⋯,if_neg ⋯]at h;omega
noncomputable def fH(a:List ZL)(b:Int)(k:Nat):Str:=⟨(a.map λc=>sg (c.getD k 0) b).toArray⟩
noncomputable def drawn(a:List ZL)(hi:Nat)(b:Int):ZB:=(List.range hi).map (fH a b)
theorem gE(h:(drawn a hi c)[k]? =some z):k<hi/\z=fH a c k:=by
 unfold drawn at h;rw[Zl]at h;by_cases b:k<hi
 .rw[List.getElem?_range b]at h;exact%[b|(Za h).symm]
 simp_all
theorem kH{a:List ZL}{k j c:Nat}(h:(fH a b k).cps[j]? =some c):∃col,a[j]? =some col/\c=sg (col.getD k 0) b:=by
 have h:(a.map λc=>sg (c.getD k 0) b)[j]? =some c:=by simpa [fH]using h
 rw[Zl]at h;cases e:a[j]? with
 | none=>simp_all
 | some col=>rw[e]at h;exact%[col,rfl|(Za h).symm]
theorem cW{col:ZL}(a:col.length=hi)(b:k<hi):col[k]? =some (col.getD k 0):=by
 simp_all
theorem np{a:List ZL}{b:Int}{wd:Bool}(G:1<=hi)(H:hi<=40)(u:1<=a.length)(v:a.length<=40)(s:∀c∈a,c.length=hi/\iq wd c):bU (drawn a hi b):=by
 have len:(drawn a hi b).length=hi:=by unfold drawn;rw[Z6,Ym]
 have d:∀z∈drawn a hi b,∃k,k<hi/\z=fH a b k:=λz f=>by
  obtain⟨k,e⟩:=Xi f;exact%[k|gE e]
 refine%[⋯,⋯,%[a.length,u,v|λz f=>?_],λz f=>?_,λi r I w y j c J g1 g2 o=>?_|?_]
 .obtain⟨k,_,rfl⟩:=d z f;simp[fH]
 .obtain⟨k,g,rfl⟩:=d z f;rw[all_eq_true];intro c p;obtain⟨j,A⟩:=Xi p;obtain⟨col,q,rfl⟩:=kH (j:=j) (by simpa using A);by_cases B:col.getD k 0<0
  .rw[DH B];decide +kernel
  .unfold okc;rw[DG ⋯,Bool.or_true]
 .obtain⟨hi1,rfl⟩:=gE w;obtain⟨hi2,rfl⟩:=gE y;obtain⟨col,q,rfl⟩:=kH g1;obtain⟨t,h,rfl⟩:=kH g2;rw[q]at h;cases h;obtain⟨n,l,C,g,_⟩:=s col (Z8 q);by_cases E:i+1<l
  .rw[(g i _ (cW n hi1)).1 ⋯];rfl
  .exact absurd o (zI ((g _ _ (cW n hi2)).2 ⋯).1)
 .have m:0<a.length:=by lia
  obtain⟨n,l,C,g,_⟩:=(s _ (Yf m))
  exact%[fH a b _,Xs %[hi-1,by rw[mem_range];lia|rfl],sg (a[0].getD (hi-1) 0) b,Xs %[a[0],Yf m|rfl]|zI ((g _ _ (cW n ⋯)).2 ⋯).1]
theorem sI{h:Int}{wd:Bool}(p:∀c∈b,c.length=hi/\iq wd c){c:Nat}:Let (drawn b hi h) c↔∃a:Int,0<=a/\a<=7/\(∃col∈b,a∈col)/\c=sg a h:=by
 constructor
 .rintro⟨i,r,s,l⟩;obtain⟨k,e⟩:=Xi s;obtain⟨f,rfl⟩:=gE e;obtain⟨j,t⟩:=Xi l;obtain⟨col,u,rfl⟩:=kH (by simpa using t);have d:=Z8 u;obtain⟨m,n,y,v,_⟩:=p col d;have g:=cW m f;have q:=v k _ g;have:n<=k:=by
   refine Nat.le_of_not_lt λz=>i ?_
   rw[q.1 z];rfl
  exact%[_,(q.2 this).1,(q.2 this).2,%[col,d|Z8 g]|rfl]
 .rintro⟨a,w,A,⟨col,d,o⟩,rfl⟩;obtain⟨m,_⟩:=p col d;obtain⟨k,f⟩:=Xi o;refine%[zI w,fH b h k,Xs %[k,by rw[mem_range];exact(m▸(Xo f).1)|rfl]|Xs %[col,d|?_]];rw[Zc,f];rfl
noncomputable def there(b:List ZL):ZL:=((List.range 8).filter λa:Nat=>b.any λc=>decide ((a:Int)∈c)).map λa:Nat=>a
theorem eQ:a∈there b↔0<=a/\a<=7/\∃col∈b,a∈col:=by
 unfold there;rw[mem_map]
 constructor
 .rintro⟨n,e,rfl⟩;rw[List.mem_filter,mem_range,any_eq_true]at e;obtain⟨f,col,c,d⟩:=e;exact%[⋯,⋯,col,c|Zo d]
 .rintro⟨g,h,col,c,d⟩;refine%[a.toNat,?_|⋯];rw[List.mem_filter,mem_range,any_eq_true];refine%[⋯,col,c|Zf ?_];rw[show a.toNat=a by lia];exact d
theorem sJ(a:List _):(there a).Nodup:=by
 unfold there;rw[X6,Xb];refine(List.Pairwise.filter _ (nodup_iff_pairwise_ne.mp nodup_range)).imp λh e=>h ⋯
theorem zJ{a:List ZL}{hi:Nat}(i:1<=hi)(j:1<=a.length)(d:∀c∈a,c.length=hi/\iq wd c):there a≠[]:=by
 have b:0<a.length:=by lia
 obtain⟨e,f,l,h,_⟩:=d _ (Yf b);have g:=cW e (show hi-1<hi by lia);have q:=(h _ _ g).2 ⋯;exact List.ne_nil_of_mem (eQ.mpr %[q.1,q.2,_,Yf b|Z8 g])
theorem kI(a:List _):(there a).length<=8:=by
 unfold there;rw[Z6];exact Yj (Yl _ _) (Zi _)
noncomputable def bK(n:Str)(c:Nat):Str:=⟨(n.cps.toList++[46,c]).toArray⟩
theorem i5(h:bK n c=bK m d):n=m/\c=d:=by
 have e:=by
  have:=congrArg (λz=>z.cps.toList) h;simpa [bK]using this
 have q:=List.append_inj' e rfl;refine%[dO q.1|?_];have:=q.2;simpa using this
def sK(rows:ZB):Prop:=∃m:List _,m.length<=26/\∀a b,Bs rows a b->[sgn a,sgn b]∈m
noncomputable def uH(wd:Bool):List (Int×Int):=((List.range 7).map λi:Nat=>((i:Int),(i:Int) +1)) ++if wd=true then(List.range 7).map λi:Nat=>((i:Int) +1,(i:Int))else(List.range 6).map λi:Nat=>(i,i+2)
theorem xi(h:St wd c d)(c0:0<=c)(a:c<=7)(b:0<=d)(f:d<=7)(ne:c≠d):(c,d)∈uH wd:=by
 unfold St at h;unfold uH;rw[Yv];by_cases e:d=c+1
 .exact .inl (Xs %[c.toNat,mem_range.mpr ⋯|by rw[show c.toNat=c by lia,e]])
 .refine .inr ?_;cases wd
  .exact Xs %[c.toNat,mem_range.mpr ⋯|by rw[show c.toNat=c by lia,show d=c+2 by lia]]
  .exact Xs %[d.toNat,mem_range.mpr ⋯|by grind]
theorem zK{hi:Nat}{h:Int}{wd:Bool}(t:∀c∈d,c.length=hi/\iq wd c):sK (drawn d hi h):=by
 refine%[(uH wd).map λp=>[sgn (sg p.1 h),sgn (sg p.2 h)],?_|?_]
 .rw[Z6];cases wd<;> decide
 .rintro a b ⟨u,v,i,j,r,C,w,y,g1,g2⟩;obtain⟨hi1,rfl⟩:=gE w;obtain⟨hi2,rfl⟩:=gE y;obtain⟨col,m,rfl⟩:=kH g1;obtain⟨n,f,rfl⟩:=kH g2;rw[m]at f;cases f;obtain⟨g,A,E,l,B⟩:=t col (Z8 m);have o:=Nat.le_of_not_lt λz=>u (by rw[(l i _ (cW g hi1)).1 z];rfl)
  have q:=(l i _ (cW g hi1)).2 o;have s:=(l _ _ (cW g hi2)).2 ⋯;exact Xs %[(_,_),xi (B i _ _ (cW g hi1) (cW g hi2) o) q.1 q.2 s.1 s.2 (λe=>v (by rw[e]))|rfl]
end Cut
namespace K41
open PySem L2 Cut
abbrev ZM:=List V
abbrev ZN:=List (Addr×List V)
local macro_rules|`(tactic|lk)=>do
 let x<-("bv xR lL jd jJ nR jm yb tB Al tOr Ce xQ Ci tOp tUn tC B9 Ca tCB re v9 yk CF CG tG tBM AM tSl yr pW yG rI rI0 rU C2 C4 rEq rNe yK BR yL CQ CT rIx AI AJ AK A2 EH ua p9 As xV Cm BV BW B1 vc vd Cz CA Dd oN CW qc tT yB zt zu Dw qF Dz zE sw rIn A3 CO CJ C0 p8 vm x4 x5 A4 Ej Ek El".splitOn " ").toArray.mapM λs=>`(Lean.Parser.Tactic.simpLemma|↓$(Lean.mkIdent s.toName):ident)
 let y<-("mR Ax yd zqD tyV Em En Eo List.getElem?_cons_zero List.getElem?_cons_succ List.set_cons_zero List.set_cons_succ Option.some.injEq V.int.injEq V.str.injEq V.bl.injEq V.ref.injEq V.ty.injEq List.cons.injEq reduceCtorEq and_true true_and and_false false_and or_false false_or or_true true_or exists_false exists_eq_left' exists_eq_left exists_eq_right exists_eq_right' exists_and_left exists_and_right exists_eq cons_append nil_append Zz exists_const and_assoc Int.zero_add Bool.not_true Bool.not_false Y2 if_true if_false eq_self".splitOn " ").toArray.mapM λs=>`(Lean.Parser.Tactic.simpLemma|$(Lean.mkIdent s.toName):ident)
 `(tactic|simp only[$(x++y),*])
local macro_rules|`(!$n:ident)=>`(some (V.ref $n))
local macro_rules|`(-$n:ident)=>`(some (V.str $n))
local macro_rules|`(#[$n:num])=>`((show $n≤sizeLine by decide))|`(#[$x])=>`(paE rfl $x ak)|`(#[$x,$y,*])=>`(paE rfl $x #[$y,*])
local macro_rules|`(tactic|walk)=>`(tactic|refine⟨rfl,rfl,rfl,?_,rfl,?_,?_⟩<;>decide +kernel)
theorem zq0{P:List Value->Prop}(h:P []):∀u,u.length=0->P u:=λu e=>by rw[List.length_eq_zero_iff.mp e];exact h
theorem zq1{n:Nat}{P:List Value->Prop}(h:∀a,∀u,u.length=n->P (a::u)):∀u,u.length=n+1->P u:=λu e=>by
 cases u with
 |nil=>cases e
 |cons a u=>exact h a u (Nat.succ.inj e)
local macro_rules|`(tactic|room)=>`(tactic|(intro _ _ _ _ _ _;(repeat(refine zq1 λ_=>?_));exact zq0 rfl))
set_option hygiene false in
local macro_rules|`(tactic|fin2)=>`(tactic|(intro a b c d h;repeat(first|(obtain⟨rfl,_⟩:=h;rfl)|obtain⟨_,h⟩:=h)))
set_option hygiene false in
local macro_rules|`(~~~$a)=>`(fC (K:=K) rfl (λ_=>rfl) $a)
set_option hygiene false in
local macro_rules|`(↥$a)=>`(ctO (ju (K:=K) rfl) T.a5 boot_list rfl (paE rfl $a ak))
set_option hygiene false in
local macro_rules|`(↑$a)=>`(cbO (cy (K:=K) rfl) T.a8 PySem.boot_len rfl (paE rfl $a ak))
set_option hygiene false in
local macro_rules|`(↑$n:num)=>`(ae $n rfl)
set_option hygiene false in
local macro_rules|`($a*>$b)=>`(dE (K:=K) rfl (λ_ _=>rfl) $a $b)
set_option hygiene false in
local macro_rules|`($a>>$b)=>`(c6 (K:=K) rfl (λ_ _=>rfl) $a $b)
set_option hygiene false in
local macro_rules|`(↥$n:num)=>`(Cal P w K mg base $n)
noncomputable def top(i:Nat):Stmt:=PySem.Challenge.pw_digbook_k41_chains_told.main.body.getD i (.Pass %[0,0,0|0])
noncomputable section
abbrev dF:Stmt:=top 1
theorem bo:au ["ground","names","layer","word","one","other"] ["ground"] (ai dF):=by walk
abbrev ef:Stmt:=top 2
theorem dG:au ["names","one","other","first","second"] ["names","one","other"] (ai ef):=by walk
abbrev c8:Stmt:=top 3
theorem eG:au ["names","layer"] ["names","layer"] (ai c8):=by walk
abbrev jz:Stmt:=top 4
theorem fI:au ["ground","names","groups","layer"] ["ground"] (ai jz):=by walk
abbrev gX:Stmt:=top 5
theorem oh:au ["ground","layer"] ["ground","layer"] (ai gX):=by walk
abbrev cX:Stmt:=top 6
theorem kJ:au ["ground"] ["ground"] (ai cX):=by walk
abbrev l9:Stmt:=top 7
theorem sL:au ["ground","names"] ["ground"] (ai l9):=by walk
abbrev dH:Stmt:=top 16
theorem j8:au ["found"] ["found"] (ai dH):=by walk
abbrev c9:Stmt:=top 17
theorem jh:au ["found"] ["found"] (ai c9):=by walk
abbrev kK:Stmt:=top 18
theorem jA:au ["found","side","groups","link"] ["found","side"] (ai kK):=by walk
abbrev dj:Stmt:=top 19
theorem aY:au ["names","found","beneath","above","waits","name","ready","laid","least","link"] ["names","found"] (ai dj):=by walk
abbrev e9:Stmt:=top 20
theorem cY:au ["beneath","start","goal","reached","edge"] ["beneath","start","goal"] (ai e9):=by walk
abbrev iO:Stmt:=top 21
theorem eJ:au ["beneath","edge","reached","further","name","link"] ["beneath","edge","reached"] (ai iO):=by walk
abbrev nq:Stmt:=top 22
theorem pI:au ["reached","start","goal","way"] ["reached","start","goal"] (ai nq):=by walk
abbrev uI:Stmt:=top 24
theorem Bt:au ["ground"] ["ground"] (ai uI):=by walk
abbrev ei:Stmt:=top 25
theorem bO:au ["names","found","beneath","shortest","name","way"] ["names","found"] (ai ei):=by walk
abbrev gY:Stmt:=top 26
theorem oi:au ["names","found"] ["names","found"] (ai gY):=by walk
abbrev fh:Stmt:=top 27
theorem en:au ["ground","found","torn_by"] ["ground"] (ai fh):=by walk
abbrev qJ:Stmt:=top 29
theorem sM:au ["ground","one","other","beneath"] ["ground","one","other"] (ai qJ):=by walk
abbrev i7:Stmt:=top 36
theorem uJ:au ["thing"] ["thing"] (ai i7):=by walk
abbrev kL:Stmt:=top 37
theorem gZ:au ["text","rows","number","row"] ["text"] (ai kL):=by walk
abbrev j9:Stmt:=top 38
theorem xj:au ["row"] ["row"] (ai j9):=by walk
abbrev dm:Stmt:=top 39
theorem lS:au ["row","above"] ["row","above"] (ai dm):=by walk
abbrev eK:Stmt:=top 40
theorem oj:au ["rows"] ["rows"] (ai eK):=by walk
abbrev kM:Stmt:=top 41
theorem uK:au ["text"] ["text"] (ai kM):=by walk
abbrev jB:Stmt:=top 42
theorem dZ:au ["text","rows","pairs","above","row"] ["text"] (ai jB):=by walk
abbrev cu:Stmt:=top 43
theorem jj:au ["above","row"] ["above","row"] (ai cu):=by walk
abbrev hC:Stmt:=top 52
theorem dQ:au ["cuts","names","number","thing"] ["cuts"] (ai hC):=by walk
abbrev fi:Stmt:=top 53
theorem lT:au ["thing"] ["thing"] (ai fi):=by walk
abbrev nt:Stmt:=top 54
theorem xk:au ["thing"] ["thing"] (ai nt):=by walk
abbrev eA:Stmt:=top 55
theorem dI:au ["sayings","layers","number","thing"] ["sayings","layers"] (ai eA):=by walk
abbrev iP:Stmt:=top 56
theorem qK:au ["thing","layers"] ["thing","layers"] (ai iP):=by walk
abbrev eB:Stmt:=top 57
theorem kN:au ["thing","texts"] ["thing","texts"] (ai eB):=by walk
abbrev kO:Stmt:=top 58
theorem uL:au ["thing"] ["thing"] (ai kO):=by walk
abbrev hJ:Stmt:=top 59
theorem om:au ["name","letter"] ["name","letter"] (ai hJ):=by walk
abbrev fJ:Stmt:=top 60
theorem eL:au ["cuts","layers","name","text"] ["cuts"] (ai fJ):=by walk
abbrev fj:Stmt:=top 61
theorem bS:au ["cuts","ties","name","text","upper","lower"] ["cuts"] (ai fj):=by walk
abbrev dq:Stmt:=top 62
theorem cv:au ["sayings","ties","number","saying"] ["sayings"] (ai dq):=by walk
abbrev fQ:Stmt:=top 64
theorem nu:au ["_law_script","_law_k"] ["_law_script","_law_k"] (ai fQ):=by walk
abbrev kP:Stmt:=top 65
theorem cH:au ["_law_script","_law_many","_law_found","_law_number","_law_k","_law_cell","_law_one","_law_two"] ["_law_script","_law_many"] (ai kP):=by walk
abbrev hV:Stmt:=top 66
theorem bL:au ["_law_number","_law_high","_law_wild","_law_air","_law_at","_law_signs","_law_k"] ["_law_number","_law_high","_law_wild"] (ai hV):=by walk
abbrev jC:Stmt:=top 67
theorem sN:au ["_law_at","_law_shift"] ["_law_at","_law_shift"] (ai jC):=by walk
abbrev dJ:Stmt:=top 68
theorem cw:au ["_law_row_here","_law_shift","_law_wide","_law_high","_law_wild","_law_columns","_law_rows","_law_k","_law_signs","_law_there"] ["_law_row_here","_law_shift"] (ai dJ):=by walk
abbrev cI:Stmt:=top 69
theorem bW:au ["_law_row_here","_law_shift","_law_wide","_law_high","_law_columns","_law_rows","_law_k","_law_signs","_law_there"] ["_law_row_here","_law_shift"] (ai cI):=by walk
abbrev hW:Stmt:=top 70
theorem bM:au ["_law_one","_law_two","_law_layers","_law_layer","_law_at","_law_other","_law_there","_law_kind","_law_odd","_law_year"] ["_law_one","_law_two","_law_layers"] (ai hW):=by walk
abbrev eM:Stmt:=top 71
theorem aJ:au ["_law_row_here","_law_broad_here","_law_cuts","_law_layers","_law_k","_law_name","_law_shift","_law_text","_law_there","_law_at","_law_many","_law_sayings"] ["_law_row_here","_law_broad_here"] (ai eM):=by walk
abbrev fS:Stmt:=top 72
theorem bD:au ["_law_ground_here","_law_cuts","_law_some","_law_name","_law_text","_law_rows","_law_k","_law_j","_law_upper","_law_later"] ["_law_ground_here","_law_cuts","_law_some"] (ai fS):=by walk
abbrev iQ:Stmt:=top 73
theorem bz:au ["_law_some","_law_begin","_law_steps_here","_law_edge","_law_far","_law_more","_law_later","_law_earlier","_law_source"] ["_law_some","_law_begin"] (ai iQ):=by walk
abbrev iR:Stmt:=top 74
theorem dt:au ["_law_script","_law_layers","_law_many","_law_number","_law_pairs_here","_law_k"] ["_law_script","_law_layers","_law_many"] (ai iR):=by walk
abbrev fk:Stmt:=top 75
theorem cZ:au ["_law_found","_law_some","_law_begin","_law_goal","_law_many","_law_here","_law_link"] ["_law_found","_law_some","_law_begin","_law_goal","_law_many"] (ai fk):=by walk
abbrev fK:Stmt:=top 76
theorem bA:au ["_law_number","_law_signs_of","_law_one","_law_other","_law_cuts","_law_sayings","_law_layers","_law_name","_law_text"] ["_law_number"] (ai fK):=by walk
abbrev du:Stmt:=top 77
theorem jD:au ["_law_script"] ["_law_script"] (ai du):=by walk
abbrev kb:Stmt:=top 78
theorem eC:au ["_law_script","_law_cuts","_law_sayings","_law_layers","_law_ground_here","_law_some","_law_one","_law_other","_law_begin","_law_goal","_law_steps_here","_law_found"] ["_law_script"] (ai kb):=by walk
abbrev bX:Stmt:=jN (top 51) 0
theorem fo:au ["self","cuts","sayings","layers"] ["self","cuts","sayings"] (ai bX):=by walk
abbrev oo:Stmt:=jN (top 51) 1
theorem zL:au ["self"] ["self"] (ai oo):=by walk
abbrev cg:Stmt:=jN (top 51) 2
theorem kc:au ["self"] ["self"] (ai cg):=by walk
abbrev cz:Stmt:=jN (top 51) 3
theorem kQ:au ["self"] ["self"] (ai cz):=by walk
abbrev cU:Stmt:=jN (top 51) 4
end
theorem nv:au ["self"] ["self"] (ai cU):=by walk
def uM(K:ZA):Sp:=λvs H Q _=>∃(a:Addr) (b:ZL) (k:Int),vs=[.ref a,.int k]/\SqL K H a (b.map V.int)/\0<=k/\Q (.int (b.getD k.toNat 0)) H
def DK(K:ZA):Sp:=λvs H Q _=>∃(a:Addr) (c:ZL) (m:Int),vs=[.ref a,.int m]/\SqL K H a (c.map V.int)/\c.length<=1000/\0<=m/\m<=100/\∀l b (xs:ZL),af H b->H l=none->b l=some (.lst (xs.map V.int))->xs.length=m.toNat->(∀x∈xs,0<=x/\x<9973)->Q (.ref l) b
def xn:Sp:=λvs H Q _=>∃n hi a,vs=[.int n,.int hi,.bl a]/\0<=n/\1<=hi/\hi<=6/\∀l b cs,af H b->H l=none->b l=some (.lst (cs.map V.int))->cs.length=hi.toNat->iq a cs->Q (.ref l) b
def Bu:Sp:=λvs H Q _=>∃a s:Int,vs=[.int a,.int s]/\0<=s/\Q (.str (sgn (sg a s))) H
def nA(H:Hp)(cs:List (Addr×ZL)):Prop:=∀p∈cs,H p.1=some (.lst (p.2.map V.int))
theorem nA.up{H a:Hp}{cs:List _}(h:nA H cs)(s:af H a):nA a cs:=λp b=>s _ _ (h p b)
def DL(K:ZA):Sp:=λvs H Q _=>∃(a:Addr) (xs:ZL) (f:Int),vs=[.ref a,.int f]/\SqL K H a (xs.map V.int)/\(∀d,af H d->SqL K d a (xs.map V.int))/\xs.length=6/\(∀x∈xs,0<=x/\x<9973)/\0<=f/\
 ∀T e d b hi wd,af H d->H T=none->H e=none->T≠e->d T=some (.tup [.str (Str.join nl (drawn b hi f)),.ref e])->d e=some (.lst ((there b).map V.int))->
  1<=hi->hi<=6->1<=b.length->b.length<=5->(∀c∈b,c.length=hi/\iq wd c)->Q (.ref T) d
structure Txt (K:ZA) (mg:ZC):Prop where
 a0:mg "min"=none
 a1:mg "max"=none
 a5:mg "list"=none
 a6:mg "set"=none
 a7:mg "sorted"=none
 a8:mg "len"=none
 a9:mg "reversed"=none
 aa:mg "all"=none
 ab:mg "str"=none
 ac:mg "isinstance"=none
 ad:mg "enumerate"=none
 ae:mg "zip"=none
 af:mg "tuple"=none
 ag:mg "int"=none
 ah:mg "bool"=none
 ai:mg "range"=none
 aj:mg "abs"=none
 ak:Gv mg "LATER" (.int 0)
 al:Gv mg "EARLIER" (.int 1)
 am:Gv mg "LONGEST_NAME" (.int 8)
 an:Gv mg "LETTERS" (.str "abcdefghijklmnopqrstuvwxyz")
 ao:Gv mg "MOST_ROWS" (.int 40)
 ap:Gv mg "MOST_SIGNS" (.int 40)
 aq:Gv mg "AIR" (.str ".")
 ar:Gv mg "MOST_CUTS" (.int 8)
 au:Gv mg "MOST_SAYINGS" (.int 60)
 av:Gv mg "FIRST_YEAR" (.int (-9999))
 aw:Gv mg "LAST_YEAR" (.int 9999)
 ax:aG K mg "names_by_layer" dF ["ground"]
 ay:aG K mg "join_deposits" ef ["names","one","other"]
 az:aG K mg "least_pointed_to" c8 ["names","layer"]
 aA:aG K mg "deposits" jz ["ground"]
 aB:aG K mg "deposit_of" gX ["ground","layer"]
 aC:aG K mg "deposit_names" cX ["ground"]
 aD:aG K mg "links" l9 ["ground"]
 aE:aG K mg "links_by_later" dH ["found"]
 aF:aG K mg "links_by_earlier" c9 ["found"]
 aH:aG K mg "grouped" kK ["found","side"]
 aI:aG K mg "laid_in_turn" dj ["names","found"]
 aJ:aG K mg "shortest_way" e9 ["beneath","start","goal"]
 aK:aG K mg "next_edge" iO ["beneath","edge","reached"]
 aL:aG K mg "way_to" nq ["reached","start","goal"]
 aM:aG K mg "ring" uI ["ground"]
 aN:aG K mg "shortest_ring" ei ["names","found"]
 aO:aG K mg "never_laid" gY ["names","found"]
 aP:aG K mg "untorn_links" fh ["ground"]
 aQ:aG K mg "chain" qJ ["ground","one","other"]
 aR:aG K mg "is_name" i7 ["thing"]
 aS:aG K mg "rows_of" kL ["text"]
 aT:aG K mg "is_row" j9 ["row"]
 aU:aG K mg "lies_beneath" dm ["row","above"]
 aV:aG K mg "letters_in" eK ["rows"]
 aW:aG K mg "letters" kM ["text"]
 aX:aG K mg "meetings" jB ["text"]
 aY:aG K mg "meetings_between" cu ["above","row"]
 aZ:aG K mg "check_cuts" hC ["cuts"]
 b0:aG K mg "is_named_cut" fi ["thing"]
 b1:aG K mg "is_cut" nt ["thing"]
 b2:aG K mg "check_sayings" eA ["sayings","layers"]
 b3:aG K mg "is_saying" iP ["thing","layers"]
 b4:aG K mg "is_text_among" eB ["thing","texts"]
 b5:aG K mg "is_year" kO ["thing"]
 b6:aG K mg "layer_name" hJ ["name","letter"]
 b7:aG K mg "layers_of" fJ ["cuts"]
 b8:aG K mg "ties_of_cuts" fj ["cuts"]
 b9:aG K mg "ties_of_sayings" dq ["sayings"]
 ba:aG K mg "_law_cell_at" fQ ["_law_script","_law_k"]
 bb:aG K mg "_law_row" kP ["_law_script","_law_many"]
 bc:aG K mg "_law_column" hV ["_law_number","_law_high","_law_wild"]
 bd:aG K mg "_law_sign" jC ["_law_at","_law_shift"]
 be:aG K mg "_law_cut" dJ ["_law_row_here","_law_shift"]
 bf:aG K mg "_law_broad" cI ["_law_row_here","_law_shift"]
 bg:aG K mg "_law_saying" hW ["_law_one","_law_two","_law_layers"]
 bh:aG K mg "_law_ground" eM ["_law_row_here","_law_broad_here"]
 bi:aG K mg "_law_has_met" fS ["_law_ground_here","_law_cuts","_law_some"]
 bj:aG K mg "_law_steps" iQ ["_law_some","_law_begin"]
 bm:aG K mg "_law_pairs" iR ["_law_script","_law_layers","_law_many"]
 bn:aG K mg "_law_is_chain" fk ["_law_found","_law_some","_law_begin","_law_goal","_law_many"]
 bo:aG K mg "_law_great" fK ["_law_number"]
 bp:aG K mg "_law_told_ground" du ["_law_script"]
 bq:sf K mg "Ground"
 br:fO K (cG mg "Ground") "kept_cuts"
 bt:fO K (cG mg "Ground") "kept_sayings"
 bu:fO K (cG mg "Ground") "kept_layers"
 bv:fO K (cG mg "Ground") "kept_ties"
 bw:zk K mg "Ground" "Ground.__init__" bX ["self","cuts","sayings"]
 bx:si K mg "Ground" "sayings" "Ground.sayings" cg ["self"]
 bz:si K mg "Ground" "layers" "Ground.layers" cz ["self"]
 bA:si K mg "Ground" "ties" "Ground.ties" cU ["self"]
 bB:GvT K mg "YEAR_WORDS" [.str "since",.str "by"]
 bC:GvT K mg "LAYER_WORDS" [.str "later",.str "same"]
section
variable{P:Program}{w:World}{K:ZA}{mg:ZC}{base:Heap}
theorem bE{n:Nat}(h:n<=5000):n<=sizeLine:=Yj h (by decide)
theorem aC{n:Nat}(h:n<=5000):n<sizeLine:=Nat.lt_of_le_of_lt h (by decide)
theorem af.upd{H:Hp}{p:Addr}{o:HO}(h:H p=none):af H (upd H p o):=λb u e=>(ap (av e h))▸e
theorem af.set{H a:Hp}{p:Addr}{o:HO}(c:af H a)(h:H p=none):af H (L2.upd a p o):=λb u e=>(ap (av e h))▸c b u e
theorem EZ{a:Type}(xs:List a){i:Int}(b:0<=i)(e:i<xs.length):∃c,atI xs i=some c/\c∈xs:=by
 obtain⟨j,rfl⟩:=Xk b;have d:j<xs.length:=by lia
 exact%[xs[j],cC ∅|Yf d]
theorem iS(xs:ZL){i:Int}(b:0<=i)(d:i<xs.length):∃c,atI (xs.map V.int) i=some (V.int c)/\c∈xs:=by
 obtain⟨j,rfl⟩:=Xk b;have a:j<xs.length:=by lia
 exact%[xs[j],cC (by simp[a])|Yf a]
theorem B4:(gN.cps.toList.length:Int)=26:=by decide +kernel
theorem bY(T:Txt K mg):↥1 "_law_cell_at" ["_law_script","_law_k"] (uM K):=by
 refine T.ba.cal nu (λH vs Q E h=>?_)
 .obtain⟨a,b,k,rfl,c,g,q⟩:=h;refine%[rfl|λf e A outer s l=>?_];refine%[_,(QSs.h (ah (ifS (bF wz rfl ↑1 ↑↑0)
   (aq (aN (↑0>>↑1)))
   bh)
   (aq (aN ar))))|?_]
  show bv _ _ _ [some _,some _] H;lk;refine%[_,.inl %[_,c|rfl]|bI (λd=>?_) λd=>?_]
  .rw[Z6]at d;refine%[_,c,.int _,?_|q];obtain⟨j,rfl⟩:=Xk g;have i:j<b.length:=by lia
   exact cC (by simp[i])
  simp_all
theorem xo(T:Txt K mg):↥2 "_law_row" ["_law_script","_law_many"] (DK K):=by
 refine T.bb.cal cH (λH vs Q E h=>?_)
 .obtain⟨a,p,m,rfl,J,hn,h0,h1,q⟩:=h;refine%[rfl|λf ac A outer s I=>?_];refine%[_,(QSs.h (ah (aI 2 cH.nd rfl (cQ ak))
   (ah (aI 3 cH.nd rfl (opE fP (cbO ⟨yg⟩ T.aj boot_abs rfl #[aD (bY T) I rfl #[↑0,ar]]) (ctO BU T.ag boot_int rfl #[iF cR rfl (opE bi (aD (bY T) I rfl #[↑0,ar]) ar) ar])))
   (ah (cP PassesOwn.never rfl rfl (jn rfl T.ai rfl #[↑1]) (aM 4 cH.nd rfl)
   (aq (ifS (bF wB rfl ↑3 ar)
    (ah (bT rfl (bmO (K:=K) plainAttrs_list PySem.F.slot_list_append PySem.F.type_list_append aS rfl ↑2 #[opE bi ↑3 ar]))
     (aq (aI 3 cH.nd rfl (opE bG ↑3 ar))))
    (ah (aI 5 cH.nd rfl (aD (bY T) I rfl #[↑0,(opE cq ar (opE bi ↑4 (cbO (BT rfl) T.a1 boot_max rfl #[ar,(opE oV ↑↑0 ar)])))]))
     (ah (aI 6 cH.nd rfl (opE bi (opE fP (opE cq (opE cq (opE bi ↑5 ar) (opE fP ar ↑4)) ar) ar) ar))
     (ah (aI 7 cH.nd rfl (opE bi (opE cq (opE t9 ↑6 ↑6) (opE fP ar ↑4)) ar))
     (aq (bT rfl (bmO (K:=K) plainAttrs_list PySem.F.slot_list_append PySem.F.type_list_append aS rfl ↑2 #[opE bi (opE bi (opE t9 ↑7 ↑7) ar) ar])))))))))
   (aq (aN ↑2))))))|?_]
  show bv _ _ _ [!a,some (.int m),none,none,none,none,none,none] H;refine kr λn1 c1=>?_
  lk;refine%[Xh _|λl L=>c1 _ _ (kr λn2 c2=>?_)];have j:af H (upd H l (.lst [])):=af.upd L;lk;refine%[a,p,1,rfl,j.seq J,by decide,_,rfl,a,p,0,rfl,j.seq J,by decide,_,rfl,by decide|?_];refine%[.inr (by split<;> exact%[by decide|by decide])|c2 _ _ (kr λn3 c3=>aw λab hK=>?_)];lk;refine%[⋯,⋯|hK _ _ (cJ (λi M g=>∃(n:Int) (o u z B:Option V) (xs:ZL),M=[!a,some (.int m),!l,some (.int n),o,u,z,B]/\af H g/\g l=some (.lst (xs.map V.int))/\xs.length=i/\∀x∈xs,0<=x/\x<9973)
   %[_,none,none,none,none,[],rfl,j,aa,rfl|λ_ h=>nomatch h] ?_ ?_)]
  .rintro i M g hi ⟨n,o,u,z,B,xs,rfl,C,d,G,e⟩;have ag:i<100:=by lia
   have r:=C.seq J;show lL _ _ _ _ [!a,some (.int m),!l,some (.int n),some (.int (0+i)),u,z,B] g;rw[Int.zero_add];have put:∀v:Int,0<=v->v<9973->af H (upd g l (.lst (xs.map V.int++[.int v])))/\∃b:ZL,upd g l (.lst (xs.map V.int++[.int v])) l=some (.lst (b.map V.int))/\b.length=i+1/\∀x∈b,0<=x/\x<9973:=λv v0 v1=>
    ⟨af.set C L,xs++[v],by rw[aa,Zd];rfl,by rw[Z9,G];rfl,λy hy=>by
     rcases Xp hy with q|q
     .exact e y q
     .rw[Xq q];exact%[v0|v1]⟩
   have len:(xs.map V.int).length<sizeLine:=by rw[Z6,G];exact aC ⋯
   have mx:∀x:Nat,(0:Int)<(if(x:Int) -1>1 then(x:Int) -1 else 1):=λx=>by split<;> lia
   refine aA λD1 k1 _=>?_
   lk;refine bI (λ_=>?_) λ_=>?_
   .refine%[.inl %[_|SqL.of d],by decide,_,d,len,%[by decide|by decide]|k1 _ _ ?_];obtain⟨N,b,O,U,Y⟩:=put (n%9973) ⋯ ⋯;exact%[_,_,_,_,_,b,rfl,N,O,U|Y]
   .refine%[_,.inl %[_,r|rfl],mx _,a,p,_,rfl,r,?_|?_]
    .have:=Int.emod_nonneg (i:Int) (Int.ne_of_gt (mx (p.map V.int).length))
     lia
    generalize p.getD _ 0=c
    lk;refine%[by decide,.inl %[by decide|by decide],.inr %[by decide|by decide],by decide|?_];have b1:=Int.emod_nonneg ((c%1000003+7919*i+1)*48271) (by decide:(2147483629:Int)≠0);have b2:=Int.emod_lt_of_pos ((c%1000003+7919*i+1)*48271) (by decide:(0:Int)<2147483629)
    generalize (c%1000003+7919*i+1)*48271%2147483629=one at b1 b2
    refine%[.inl %[⋯|⋯],.inl %[by decide|by simp],by decide|?_];have b3:=Int.emod_nonneg (one*one+104729*i) (by decide:(2147483587:Int)≠0);have b4:=Int.emod_lt_of_pos (one*one+104729*i) (by decide:(0:Int)<2147483587)
    generalize (one*one+104729*i)%2147483587=t at b3 b4
    refine%[.inl %[_|SqL.of d],.inl %[⋯|⋯],by simp,by decide,_,d,len|k1 _ _ ?_];obtain⟨N,b,O,U,Y⟩:=put (t*t%2147483563%9973) ⋯ ⋯;exact%[_,_,_,_,_,b,rfl,N,O,U|Y]
  .rintro M g ⟨n,o,u,z,B,xs,rfl,C,d,G,e⟩;refine c3 _ _ ?_;lk;exact q l g xs C L d G e
theorem DM(a:0<=i)(c:i<26):atI gN.cps.toList i=some (97+i.toNat):=by
 obtain⟨j,rfl⟩:=Xk a;have b:j<26:=by omega
 have all:∀j:Fin 26,gN.cps.toList[j.1]? =some (97+j.1):=by decide +kernel
 exact cC (all %[j|b])
theorem jE(T:Txt K mg):↥1 "_law_sign" ["_law_at","_law_shift"] Bu:=by
 refine T.bd.cal sN (λH vs Q E h=>?_)
 .obtain⟨a,g,rfl,i,c⟩:=h;refine%[rfl|λf d A outer s e=>?_];refine%[_,(QSs.h (ah (ifS (bF wz rfl ↑0 ar)
   (aq (aN cm))
   bh)
   (aq (aN (A7 (λ_ _=>rfl) cm (opE bi (opE cn (opE t9 ↑0 ar) ↑1) ar))))))|?_]
  show bv _ _ _ [some (.int a),some _] H;lk;unfold sg at c;refine bI (λb=>?_) λb=>?_
  .have b:=Zo b;rw[if_pos b]at c;exact c
  .have b: ¬ a<0:=by simpa using b
   rw[if_neg b]at c;refine%[.inr %[by simp|by simp],by decide,(by decide),_,DM (by omega) (by omega)|c]
theorem ke(T:Txt K mg):↥1 "_law_column" ["_law_number","_law_high","_law_wild"] xn:=by
 refine T.bc.cal bL (λH vs Q E h=>?_)
 .obtain⟨n,hi,wd,rfl,n0,h1,h6,kk⟩:=h;refine%[rfl|λf an A outer s hr=>?_];refine%[_,(QSs.h (ah (aI 3 bL.nd rfl (opE bi ↑0 ar))
   (ah (aI 4 bL.nd rfl (opE bi (opE bG ↑0 ar) ar))
   (ah (aI 0 bL.nd rfl (opE bG ↑0 ar))
   (ah (aI 5 bL.nd rfl (cQ ak))
   (ah (cP PassesOwn.never rfl rfl (jn rfl T.ai rfl #[↑1]) (aM 6 bL.nd rfl)
   (aq (ifS (wT (kz (bF wz rfl ↑6 ↑3) (iH (bF wz rfl ↑6 (opE oV ↑1 ar)))))
    (aq (bT rfl (bmO (K:=K) plainAttrs_list PySem.F.slot_list_append PySem.F.type_list_append aS rfl ↑5 #[t8 ar])))
    (ah (bT rfl (bmO (K:=K) plainAttrs_list PySem.F.slot_list_append PySem.F.type_list_append aS rfl ↑5 #[↑4]))
     (ah (aI 4 bL.nd rfl (cbO (BT rfl) T.a1 boot_max rfl #[ar,(cbO (EK rfl) T.a0 boot_min rfl #[ar,(opE cn ↑4 ((cQ #[ar,ar,((cQ #[ar,t8 ar])>>(ctO BU T.ag boot_int rfl #[↑2]))])>>(opE bi ↑0 ar)))])]))
     (aq (aI 0 bL.nd rfl (opE bG ↑0 ar))))))))
   (aq (aN ↑5))))))))|?_]
  show bv _ _ _ [some (.int n),some (.int hi),some (.bl wd),none,none,none,none] H;refine am λD1 k1 _=>?_
  lk;refine%[by decide|k1 _ _ (am λD2 k2 _=>?_)];lk;refine%[%[by decide|by decide],by decide|k2 _ _ (am λD3 k3 _=>?_)];lk;refine%[%[by decide|by decide]|k3 _ _ (am λD4 k4 _=>?_)];lk;refine%[Xh _|λL N=>k4 _ _ (am λD5 k5 r5=>aw λal hK=>?_)];lk;have G:∃a:Nat,(a:Int)=(if n%3<hi-1 then n%3 else hi-1):=by
   split
   .exact%[(n%3).toNat|by omega]
   .exact%[(hi-1).toNat|by omega]
  obtain⟨a,ea⟩:=G;refine%[by omega,by omega|hK _ _ (cJ (λi Y t=>∃(m b:Int) (o:Option V) (cs:ZL),Y=[some (.int m),some (.int hi),some (.bl wd),some (.int (n%3)),some (.int b),!L,o]/\0<=b/\b<=7/\af H t/\t L=some (.lst (cs.map V.int))/\cs.length=i/\
   (∀(k:Nat) (c:Int),cs[k]? =some c->(k<a->c= -1)/\(a<=k->0<=c/\c<=7))/\∀(k:Nat) (c d:Int),cs[k]? =some c->(cs++[b])[k+1]? =some d->a<=k->St wd c d)
   %[_,_,none,[],rfl,by omega,by omega,af.upd N,aa,rfl,(λk c e=>by simp at e)|λk c d e=>by simp at e] ?_ ?_)]
  .rintro i Y t as ⟨m,b,o,cs,rfl,a0,a7,O,j,y,l,B⟩;show lL _ _ _ _ [some (.int m),some (.int hi),some (.bl wd),some (.int (n%3)),some (.int b),!L,some (.int (0+i))] t;rw[Int.zero_add];have len:(cs.map V.int).length<sizeLine:=by rw[Z6,y];exact aC (by omega)
   have put:∀v:Int,(i<a->v= -1)->(a<=i->0<=v/\v<=7)->∀(k:Nat) (c:Int),(cs++[v])[k]? =some c->(k<a->c= -1)/\(a<=k->0<=c/\c<=7):=λv v1 v2 k c e=>by
    by_cases U:k<cs.length
    .rw[Ya U]at e;exact l k c e
    .have ek:k=i:=by
      have:=(Xo e).1;rw[Z9]at this;simp only[Zr,length_nil]at this;omega
     subst ek;rw[Yb (by omega),y,sub_self]at e;cases e;exact%[v1|v2]
   refine aA λD6 k6 _=>?_
   lk;have I:∀v u:Int,(a<=i->v=b/\St wd v u)->∀(k:Nat) (c d:Int),(cs++[v])[k]? =some c->(cs++[v] ++[u])[k+1]? =some d->a<=k->St wd c d:=λv u q k c d C r U=>by
    have a1:k+1<=cs.length+1:=by
     have:=(Xo r).1;simp only[Z9,Zr,length_nil]at this;omega
    by_cases h:k+1<cs.length+1
    .rw[Ya (by omega)]at C;rw[Ya (by simpa using h)]at r;by_cases h':a<=i
     .rw[(q h').1]at r;exact B k c d C r U
     .omega
    .have ek:k=i:=by omega
     subst ek;rw[Yb (by omega),y,sub_self]at C;rw[Yb (by simp;omega)]at r;simp[y]at C r;rw[<-C,<-r];exact(q U).2
   have ab:∀_v:Int,¬ i<a->∀(m2 g:Int) (HH:Hp),0<=g->g<=7->St wd b g->af (upd t L (.lst (cs.map V.int++[.int b]))) HH->D6.nx [some (.int m2),some (.int hi),some (.bl wd),some (.int (n%3)),some (.int g),!L,some (.int i)] HH:=λv hv m2 g HH b0 b7 st sh=>
    k6 _ _ %[m2,g,_,cs++[b],rfl,b0,b7,(af.set O N).trans sh,by rw[sh L _ aa,Zd];rfl,by rw[Z9,y];rfl,put b (λz=>absurd z hv) λ_=>%[a0|a7]|I b g λ_=>%[rfl|st]]
   refine bI (λhA=>bI (λhB=>?g1) λhB=>?g2) λhA=>?g3
   case g1=>
    simp only[decide_eq_true_eq]at hA hB;have J:i<a:=by split at ea<;> omega
    exact%[.inl %[_|SqL.of j],_,j,len|k6 _ _ %[m,b,_,cs++[-1],rfl,a0,a7,af.set O N,by rw[aa,Zd];rfl,by rw[Z9,y];rfl,put (-1) (λ_=>rfl) λz=>absurd J (by omega)|I (-1) b λz=>absurd J (by omega)]]
   all_goals
    have ac: ¬ i<a:=by
     simp only[decide_eq_true_eq]at*
     split at ea<;> omega
    refine%[.inl %[_|SqL.of j],_,j,len,#[2]|λp hp=>%[_,SqL.of aa,.int (if wd=true then -1 else 2),by cases wd<;> rfl,#[3]|λp1 ag=>%[by decide,_,SqL.of aa|?_]]];obtain⟨c,hc,M⟩:=iS [0,1,if wd=true then -1 else 2] (i:=m%3) (by omega) (by show m%3<3;omega);refine%[_,hc,c,rfl,%[by decide|by decide]|ab 0 ac _ _ _ ?_ ?_ ?_ ((af.upd hp).trans (af.upd ag))]
    rotate_left 2
    .unfold Cut.St;simp only[Yy,X9,or_false]at M;cases wd<;> rcases M with rfl|rfl|rfl<;> simp<;>(split<;>(try split)<;> omega)
    all_goals(split<;>(simp)<;> omega)
  .rintro Y t ⟨m,b,o,cs,rfl,a0,a7,O,j,y,l,B⟩;refine k5 _ _ ?_;lk;exact kk L t cs O N j (by omega) %[a,by omega,l|λk c d C r=>B k c d C ((Ya (Xo r).1)▸r)]
theorem nB(xs:ZL){lo hi:Int}(a:0<=lo)(b:lo<=hi)(c:hi<=xs.length):rh (xs.map V.int) (some lo) (some hi)=((xs.drop lo.toNat).take (hi.toNat-lo.toNat)).map V.int:=by
 unfold rh;have d:HT.sIx xs.length 0 (some lo)=lo.toNat:=by
  show(if lo<0 then _ else min lo.toNat xs.length)=_
  grind
 have e:HT.sIx xs.length xs.length (some hi)=hi.toNat:=by
  show(if hi<0 then _ else min hi.toNat xs.length)=_;rw[if_neg ⋯]
  lia
 simp_all
theorem Fb(p:Nat->Bool)(n:Nat):inV (V.bl true) ((List.range n).map λr=>V.bl (p r))=(List.range n).any p:=by
 unfold inV;rw[any_map]
 congr 1
 funext r;show eqV (V.bl _) (V.bl true)=p r;cases p r<;> rfl
theorem pJ{a:Type}(p:a->Bool)(xs:List a):inV (V.bl true) (xs.map λr=>V.bl (p r))=xs.any p:=by
 unfold inV;rw[any_map]
 congr 1
 funext r;show eqV (V.bl _) (V.bl true)=p r;cases p r<;> rfl
theorem vF(a:Int)(cs:ZL):inV (V.int a) (cs.map V.int)=decide (a∈cs):=by
 unfold inV
 induction cs with
 | nil=>rfl
 | cons c r b=>
   show((c==a)||_)=_
   grind
theorem pK(cs:ZL):(cs.map V.int).all eS=true:=by simp[eS]
theorem xp(T:Txt K mg):↥2 "_law_cut" ["_law_row_here","_law_shift"] (DL K):=by
 refine T.be.cal cw (λH vs Q E h=>?_)
 .obtain⟨a,xs,v,rfl,hs,keep,b3,hb,s0,kk⟩:=h;refine%[rfl|λf ch A outer s hr=>?_];have get:∀i:Int,0<=i->i<6->∃c,atI (xs.map V.int) i=some (V.int c)/\0<=c/\c<9973:=λi h0 h1=>by
   obtain⟨c,e,hm⟩:=iS xs h0 ⋯;exact%[c,e|hb c hm]
  obtain⟨c0,g0,l0,u0⟩:=get 0 (by decide) (by decide);refine%[_,(QSs.h (ah (aI 2 cw.nd rfl (opE cq ar (opE bi (↑0>>ar) ar)))
   (ah (wx 3 cw.nd rfl Z1 Z0 rfl (opE cq ar (opE bi (opE bG (↑0>>ar) ar) ar)))
   (ah (wx 4 cw.nd rfl Z1 Z0 rfl (iF cR rfl (opE bi (opE bG (↑0>>ar) ar) ar) ar))
   (ah (sj 5 cw.nd rfl Z1 Z0 rfl (eE (az.of (show bP (ai dJ) ["_law_row_here","_law_shift","_law_wide","_law_high","_law_wild","_law_columns","_law_rows","_law_k","_law_signs","_law_there"] _ ["_law_number","_law_high","_law_wild"] [(1,3),(2,4)]=true from by decide +kernel)) rfl rfl (cF (K:=K) rfl (slE (K:=K) rfl ↑0 (iG ar) (iG (opE cq ar ↑2)))) (λ_ _ _=>(aM 0 (show(["_law_number","_law_high","_law_wild"]:ZB).Nodup from by decide +kernel) rfl)) (λ_ _ _=>jf) (λ_ _ _=>(aD (ke T) hr rfl #[↑0,dU 1 rfl,dU 2 rfl]))))
   (ah (aI 6 cw.nd rfl (cQ ak))
   (ah (cP PassesOwn.never rfl rfl (jn rfl T.ai rfl #[dU 3 rfl]) (mK 7 cw.nd rfl Z1 Z0)
   (ah (iJ 8 cw.nd rfl Z0 Z1 rfl (az.of (show bP (ai dJ) ["_law_row_here","_law_shift","_law_wide","_law_high","_law_wild","_law_columns","_law_rows","_law_k","_law_signs","_law_there"] _ ["_law_column_here","_law_k"] [(1,7)]=true from by decide +kernel)) rfl rfl (cF (K:=K) rfl (dU 5 rfl)) (λ_ _ _=>(aM 0 (show(["_law_column_here","_law_k"]:ZB).Nodup from by decide +kernel) rfl)) (λ_ _ _=>jf) (λ_ _ _=>(↑0>>(dU 1 rfl))))
    (aq (bT rfl (bmO (K:=K) plainAttrs_list PySem.F.slot_list_append PySem.F.type_list_append aS rfl ↑6 #[(bmO (K:=K) plainAttrs_str slot_str_join type_str_join (mL (K:=K) rfl) rfl cm #[(eE (az.of (show bP (ai dJ) ["_law_row_here","_law_shift","_law_wide","_law_high","_law_wild","_law_columns","_law_rows","_law_k","_law_signs","_law_there"] _ ["_law_at","_law_shift"] [(1,1)]=true from by decide +kernel)) rfl rfl (cF (K:=K) rfl ↑8) (λ_ _ _=>(aM 0 (show(["_law_at","_law_shift"]:ZB).Nodup from by decide +kernel) rfl)) (λ_ _ _=>jf) (λ_ _ _=>(aD (jE T) hr rfl #[↑0,dU 1 rfl])))])])))))
   (ah (iJ 9 cw.nd rfl Z0 Z1 rfl (az.of (show bP (ai dJ) ["_law_row_here","_law_shift","_law_wide","_law_high","_law_wild","_law_columns","_law_rows","_law_k","_law_signs","_law_there"] _ ["_law_at","_law_columns"] [(1,5)]=true from by decide +kernel)) rfl rfl (jn rfl T.ai rfl #[ar]) (λ_ _ _=>(mK 0 (show(["_law_at","_law_columns"]:ZB).Nodup from by decide +kernel) rfl Z1 Z0)) (λ_ _ _=>(rE (bF (qg (K:=K) rfl) rfl eBl (eE (az.of (show bP _ ["_law_at","_law_columns"] _ ["_law_column_here","_law_at"] [(1,0)]=true from rfl)) rfl rfl (cF (K:=K) rfl (dU 1 rfl)) (λ_ _ _=>(aM 0 (show(["_law_column_here","_law_at"]:ZB).Nodup from by decide +kernel) rfl)) (λ_ _ _=>jf) (λ_ _ _=>(iF (qg (K:=K) rfl) rfl (dU 1 rfl) ↑0)))))) (λ_ _ _=>(dU 0 rfl)))
   (aq (aN (eV #[(bmO (K:=K) plainAttrs_str slot_str_join type_str_join (mL (K:=K) rfl) rfl cm #[↑6]),↑9])))))))))))|?_]
  show bv _ _ _ [!a,some (.int v),none,none,none,none,none,none,none,none] H;refine am λD1 k1 _=>?_
  lk;refine%[_,hs,_,g0,c0,rfl,by decide|k1 _ _ (am λD2 k2 _=>?_)];lk;refine%[_,hs,_,g0,c0,rfl,%[by decide|by decide],by decide|k2 _ _ (am λD3 k3 _=>?_)];lk;refine%[_,hs,_,g0,c0,rfl,%[by decide|by decide],by decide|k3 _ _ (am λD4 k4 _=>?_)];have w1:1<=1+c0%5:=by lia
  have w5:1+c0%5<=5:=by lia
  have i1:1<=1+c0/5%6:=by lia
  have i6:1+c0/5%6<=6:=by lia
  generalize cl:1+c0%5=wd at w1 w5
  generalize 1+c0/5%6=hi at i1 i6
  generalize decide (c0/30%8=0)=u
  refine aE λy M=>?_
  lk;refine .inl %[_,hs|λp hp=> .inl %[%[_|SqL.of aa]|M _ _ λD hD=>?_]];rw[nB xs (by decide) ⋯ ⋯]at hD ⊢;have a3:((xs.drop (Int.toNat 1)).take ((1+wd).toNat-Int.toNat 1)).length=wd.toNat:=by
   rw[Yo,Yk,b3];rw[show(1+wd).toNat=wd.toNat+1 by lia];exact X2 ⋯
  have a4:∀x∈(xs.drop (Int.toNat 1)).take ((1+wd).toNat-Int.toNat 1),0<=x/\x<9973:=λx hx=>hb x (Yz (X1 hx))
  generalize (xs.drop (Int.toNat 1)).take ((1+wd).toNat-Int.toNat 1)=ys at a3 a4 hD ⊢
  have a5:af H (upd H p (.lst (ys.map V.int))):=af.upd hp;have ab:upd H p (.lst (ys.map V.int)) p=some (.lst (ys.map V.int)):=aa
  generalize upd H p (.lst (ys.map V.int))=b4 at a5 ab hD ⊢
  refine bw (J:=Itl K p) (n:=wd.toNat) (D:=D) (λi zs j d=>(∃o,j=[o,some (.int hi),some (.bl u)])/\af b4 d/\d D=some (.lst zs)/\∃cs:List (Addr×ZL),zs=cs.map (λq=>V.ref q.1)/\cs.length=i/\nA d cs/\∀q∈cs,q.1≠D/\q.2.length=hi.toNat/\iq u q.2)
   %[%[none|rfl],af.upd hD,aa,[],rfl,rfl,λq b=>(nomatch b)|λq b=>(nomatch b)]
   (λi _ _ d a6 b=>%[_,V.int (ys[i]'⋯),SqL.of (b.2.1 _ _ ab)|by simp[show i<ys.length by lia]]) (λ_ _ d b=>%[_,SqL.of (b.2.1 _ _ ab)|by simp[a3]]) ?_ ?_
  .rintro i zs j d a6 ⟨⟨o,rfl⟩,I,a7,cs,rfl,B,ac,N⟩ x H2 ⟨e2,hx⟩;subst e2;have a8:i<ys.length:=by lia
   have m:=hx _ (SqL.of (I _ _ ab));rw[Zl,Z4 a8]at m;obtain rfl:x=V.int ys[i]:=(Za m).symm;lk;refine%[_,_,_,rfl,(a4 _ (Yf a8)).1,i1,i6|λl H3 col a0 a9 bb bc b5=>?_];have bf:l≠D:=λe=>by rw[e,a7]at a9;cases a9
   refine CK.mk a6 (a0 _ _ a7) (by rw[Z6,B];exact aC ⋯) %[%[_|rfl],af.set (I.trans a0) hD,aa,cs++[(l,col)],by rw[Zd];rfl,by rw[Z9,B];rfl,λq b=>?_|λq b=>?_]
   .rcases Xp b with z|z
    .rw[ap (N q z).1];exact a0 _ _ (ac q z)
    .rw[Xq z,ap bf];exact bb
   .rcases Xp b with z|z
    .exact N q z
    .rw[Xq z];exact%[bf,bc|b5]
  rintro zs j H4 ⟨_,b6,O,cs,rfl,B,ac,N⟩;have a1:af H H4:=a5.trans b6;refine k4 _ _ (am λD5 k5 _=>?_);lk;refine%[Xh _|λR hR=>k5 _ _ (am λD6 k6 _=>aw λy M=>?_)];lk;have cd:(cs.map (·.2)).length=wd.toNat:=by rw[Z6];exact B
  refine%[⋯,⋯|M _ _ (cJ (λi j d=>∃o7 o8,j=[!a,some (.int v),some (.int wd),some (.int hi),some (.bl u),!D,!R,o7,o8,none]/\af H4 d/\d R=some (.lst (((List.range i).map (fH (cs.map (·.2)) v)).map V.str)))
   %[_,_,rfl,af.upd hR|aa] ?_ ?_)]
  .rintro i j H5 co ⟨o7,o8,rfl,g,ag⟩;show bv _ _ _ [!a,some (.int v),some (.int wd),some (.int hi),some (.bl u),!D,!R,some (.int (0+i)),o8,none] H5;rw[Int.zero_add];refine am λD7 k7 _=>aE λy M=>?_
   lk;refine .inl %[%[_|SqL.of (g _ _ O)]|M _ _ λE hE=>?_];refine bw (J:=Itl K D) (n:=wd.toNat) (D:=E) (λq zs j d=>(∃o,j=[o,some (.int i)])/\af H5 d/\d E=some (.lst zs)/\zs=((cs.take q).map (λp=>p.2.getD i 0)).map V.int)
    %[%[none|rfl],af.upd hE,aa|rfl]
    (λq _ _ d b b=>%[_,V.ref (cs[q]'⋯).1,SqL.of (b.2.1 _ _ (g _ _ O))|by simp[show q<cs.length by lia]]) (λ_ _ d b=>%[_,SqL.of (b.2.1 _ _ (g _ _ O))|by simp[B]]) ?_ ?_
   .rintro q zs j d b ⟨⟨o,rfl⟩,I,b7,L⟩ x H2 ⟨e2,hx⟩;subst e2;have t:q<cs.length:=by lia
    have m:=hx _ (SqL.of (I _ _ (g _ _ O)));rw[Zl,Z4 t]at m;obtain rfl:x=V.ref cs[q].1:=(Za m).symm;lk;have hm:=Yf t;refine%[_,SqL.of (I _ _ (g _ _ (ac _ hm))),V.int (cs[q].2.getD i 0),?_|?_]
    .refine cC ?_;rw[Zl,cW (N _ hm).2.1 ⋯];rfl
    .refine CK.mk b b7 (by rw[L,Z6,Z6,Yo];exact aC ⋯) %[%[_|rfl],af.set I hE,aa|?_];rw[L,Xd,Zd,Zd,Z4 t];rfl
   rintro zs j H6 ⟨_,C,al,L⟩;rw[Zn ⋯]at L;refine k7 _ _ (aA λD8 k8 _=>?_);have bl:=g.trans C;lk;refine%[.inl %[_|SqL.of (C _ _ ag)]|aE λy M=>?_];lk;refine .inl %[%[_|SqL.of al]|M _ _ λF hF=>?_];refine bw (J:=Itl K E) (n:=wd.toNat) (D:=F) (λq ts j d=>(∃o,j=[o,some (.int v)])/\af H6 d/\d F=some (.lst ts)/\ts=(((cs.take q).map (λp=>sg (p.2.getD i 0) v)).map sgn).map V.str)
    %[%[none|rfl],af.upd hF,aa|rfl]
    (λq _ _ d b b=>%[_,V.int ((cs[q]'⋯).2.getD i 0),SqL.of (b.2.1 _ _ al)|by rw[L];simp[show q<cs.length by lia]]) (λ_ _ d b=>%[_,SqL.of (b.2.1 _ _ al)|by rw[L];simp[B]]) ?_ ?_
   .rintro q ts j d b ⟨⟨o,rfl⟩,I,a2,U⟩ x H2 ⟨e2,hx⟩;subst e2;have t:q<cs.length:=by lia
    have m:=hx _ (SqL.of (I _ _ al));rw[L,Zl,Zl,Z4 t]at m;obtain rfl:x=V.int (cs[q].2.getD i 0):=(Za m).symm;lk;refine%[_,_,rfl,s0|?_];refine CK.mk b a2 (by rw[U,Z6,Z6,Z6,Yo];exact aC ⋯) %[%[_|rfl],af.set I hF,aa|?_];rw[U,Xd,Zd,Zd,Zd,Z4 t];rfl
   rintro ts j H7 ⟨_,bm,b9,U⟩;rw[Zn ⋯]at U;lk;refine%[(cs.map λp=>sg (p.2.getD i 0) v).map sgn,by rw[<-U];exact SqL.of b9,?_,_,bm _ _ (C _ _ ag),by rw[Z6,Z6,Ym];exact aC ⋯|k8 _ _ %[_,_,rfl,af.set (bl.trans bm) hR|?_]]
   .rw[qr,Z6,Z6,show(Str.ofString "").length=0 from rfl]
    lia
   .rw[aa,Xc,Zd,Zd,show Txt.join (Str.ofString "") ((cs.map λp=>sg (p.2.getD i 0) v).map sgn)=Str.join (Str.ofString "") ((cs.map λp=>sg (p.2.getD i 0) v).map sgn)from StrLaws.glued_eq_join _ _,mQ];have e:fH (cs.map (·.2)) v i=⟨(cs.map λp=>sg (p.2.getD i 0) v).toArray⟩:=by
     unfold fH;rw[Yu];rfl
    rw[<-e];rfl
  .rintro j H5 ⟨o7,o8,rfl,g,ag⟩;refine k6 _ _ (am λD7 k7 _=>aE λy M=>?_);lk;refine%[by decide,by simp|M _ _ λF hF=>?_];refine bw (J:=Itr 0 8) (n:=8) (D:=F) (λq ts j d=>(∃o,j=[o,!D])/\af H5 d/\d F=some (.lst ts)/\ts=(((List.range q).filter λa:Nat=>(cs.map (·.2)).any λc=>decide ((a:Int)∈c)).map λa:Nat=>(a:Int)).map V.int)
    %[%[none|rfl],af.upd hF,aa|rfl] (λq _ _ d b _=>b) (λ_ _ d _=>Zi _) ?_ ?_
   .rintro q ts j d b ⟨⟨o,rfl⟩,I,a2,U⟩ x H2 ⟨e2,e3⟩;subst e2 e3;lk;refine aE λy M=>?_
    lk;have an:=I _ _ (g _ _ O);refine .inl %[%[_|SqL.of an]|M _ _ λG hG=>?_];refine bw (J:=Itl K D) (n:=wd.toNat) (D:=G) (λr zs j H3=>(∃o,j=[o,some (.int q)])/\af H2 H3/\H3 G=some (.lst zs)/\zs=(cs.take r).map (λp=>V.bl (decide ((q:Int)∈p.2))))
     %[%[none|rfl],af.upd hG,aa|rfl]
     (λr _ _ H3 br b=>%[_,V.ref (cs[r]'⋯).1,SqL.of (b.2.1 _ _ an)|by simp[show r<cs.length by lia]]) (λ_ _ H3 b=>%[_,SqL.of (b.2.1 _ _ an)|by simp[B]]) ?_ ?_
    .rintro r zs j H3 br ⟨⟨o,rfl⟩,s3,ca,L⟩ x ct ⟨e2,hx⟩;subst e2;have t:r<cs.length:=by lia
     have m:=hx _ (SqL.of (s3 _ _ an));rw[Zl,Z4 t]at m;obtain rfl:x=V.ref cs[r].1:=(Za m).symm;have hm:=Yf t;lk;refine%[_,.inl (SqL.of (s3 _ _ (I _ _ (g _ _ (ac _ hm))))),rfl,pK _|?_];rw[vF];refine CK.mk br ca (by rw[L,Z6,Yo];exact aC ⋯) %[%[_|rfl],af.set s3 hG,aa|?_];rw[L,Xd,Zd,Z4 t];rfl
    rintro zs j H3 ⟨_,s3,cb,L⟩;rw[Zn ⋯]at L;have bt:=s3 _ _ a2;lk;refine%[_,.inl (SqL.of cb),rfl,by rw[L];simp[eS]|?_];rw[L,pJ];have any:(cs.any λp=>decide ((q:Int)∈p.2))=(cs.map (·.2)).any λc=>decide ((q:Int)∈c):=by rw[any_map];rfl
    rw[any];have b0:ts.length<sizeLine:=by
     rw[U,Z6,Z6];have:=Yl (λa:Nat=>(cs.map (·.2)).any λc=>decide ((a:Int)∈c)) (List.range q);rw[Ym]at this;exact aC ⋯
    refine bI (λhb=>?_) λhb=>?_
    .refine CK.mk b bt b0 %[%[_|rfl],af.set (I.trans s3) hF,aa|?_];rw[U,Xc,Y4,Zd,Zd];rw[show List.filter (λa:Nat=>(cs.map (·.2)).any λc=>decide ((a:Int)∈c)) [q]=[q]from by rw[filter_cons,if_pos hb];rfl];rfl
    .refine CN.mk b %[%[_|rfl],I.trans s3,bt|?_];rw[U,Xc,Y4,Zd,Zd];rw[show List.filter (λa:Nat=>(cs.map (·.2)).any λc=>decide ((a:Int)∈c)) [q]=[]from by rw[filter_cons,if_neg hb];rfl];simp
   rintro ts j H6 ⟨_,C,b1,U⟩;refine k7 _ _ ?_;lk;have Y:∀c∈cs.map (·.2),c.length=hi.toNat/\iq u c:=λc hc=>by
    obtain⟨p,hp,rfl⟩:=Xr hc;exact(N p hp).2
   have as:bU (drawn (cs.map (·.2)) hi.toNat v):=np ⋯ ⋯ ⋯ ⋯ Y;have b2:H5 R=some (.lst ((drawn (cs.map (·.2)) hi.toNat v).map V.str)):=ag;refine%[drawn (cs.map (·.2)) hi.toNat v,SqL.of (C _ _ b2),?_,#[2]|λp hp=>?_]
   .have:=as.sum;have:=as.high;rw[show(Str.ofString "\n").length=1 from rfl]
    lia
   .refine kk p F _ (cs.map (·.2)) hi.toNat u ((a1.trans (g.trans C)).trans (af.upd hp)) ((a1.trans (g.trans C)).free hp) ((a1.trans g).free hF) (λe=>by rw[e,b1]at hp;cases hp) ?_ ?_ ⋯ ⋯ ⋯ ⋯ Y
    .rw[aa,show Txt.join (Str.ofString "\n") (drawn (cs.map (·.2)) hi.toNat v)=Str.join (Str.ofString "\n") (drawn (cs.map (·.2)) hi.toNat v)from StrLaws.glued_eq_join _ _];rfl
    .rw[af.upd hp F _ b1,U];rfl
def zM(K:ZA):Sp:=λvs H Q _=>∃(a:Addr) (xs:ZL) (f:Int),vs=[.ref a,.int f]/\SqL K H a (xs.map V.int)/\(∀d,af H d->SqL K d a (xs.map V.int))/\xs.length=43/\(∀x∈xs,0<=x/\x<9973)/\0<=f/\
 ∀(T e:Addr) d (b:List ZL) (hi:Nat),af H d->H T=none->H e=none->T≠e->d T=some (.tup [.str (Str.join nl (drawn b hi f)),.ref e])->d e=some (.lst ((there b).map V.int))->
  1<=hi->hi<=6->1<=b.length->b.length<=40->(∀c∈b,c.length=hi/\iq false c)->Q (.ref T) d
theorem sO(T:Txt K mg):↥2 "_law_broad" ["_law_row_here","_law_shift"] (zM K):=by
 refine T.bf.cal bW (λH vs Q E h=>?_)
 .obtain⟨a,xs,u,rfl,hs,keep,b4,hb,s0,kk⟩:=h;refine%[rfl|λf cl A outer s hr=>?_];have get:∀i:Int,0<=i->i<43->∃c,atI (xs.map V.int) i=some (V.int c)/\0<=c/\c<9973:=λi h0 h1=>by
   obtain⟨c,e,hm⟩:=iS xs h0 ⋯;exact%[c,e|hb c hm]
  obtain⟨c0,g0,l0,u0⟩:=get 0 (by decide) (by decide);refine%[_,(QSs.h (ah (aI 2 bW.nd rfl (opE cq ar (opE bi (↑0>>ar) ar)))
   (ah (wx 3 bW.nd rfl Z1 Z0 rfl (opE cq ar (opE bi (opE bG (↑0>>ar) ar) ar)))
   (ah (sj 4 bW.nd rfl Z1 Z0 rfl (eE (az.of (show bP (ai cI) ["_law_row_here","_law_shift","_law_wide","_law_high","_law_columns","_law_rows","_law_k","_law_signs","_law_there"] _ ["_law_number","_law_high"] [(1,3)]=true from by decide +kernel)) rfl rfl (cF (K:=K) rfl (slE (K:=K) rfl ↑0 (iG ar) (iG (opE cq ar ↑2)))) (λ_ _ _=>(aM 0 (show(["_law_number","_law_high"]:ZB).Nodup from by decide +kernel) rfl)) (λ_ _ _=>jf) (λ_ _ _=>(aD (ke T) hr rfl #[↑0,dU 1 rfl,eBl]))))
   (ah (aI 5 bW.nd rfl (cQ ak))
   (ah (cP PassesOwn.never rfl rfl (jn rfl T.ai rfl #[dU 3 rfl]) (mK 6 bW.nd rfl Z1 Z0)
   (ah (iJ 7 bW.nd rfl Z0 Z1 rfl (az.of (show bP (ai cI) ["_law_row_here","_law_shift","_law_wide","_law_high","_law_columns","_law_rows","_law_k","_law_signs","_law_there"] _ ["_law_column_here","_law_k"] [(1,6)]=true from by decide +kernel)) rfl rfl (cF (K:=K) rfl (dU 4 rfl)) (λ_ _ _=>(aM 0 (show(["_law_column_here","_law_k"]:ZB).Nodup from by decide +kernel) rfl)) (λ_ _ _=>jf) (λ_ _ _=>(↑0>>(dU 1 rfl))))
    (aq (bT rfl (bmO (K:=K) plainAttrs_list PySem.F.slot_list_append PySem.F.type_list_append aS rfl ↑5 #[(bmO (K:=K) plainAttrs_str slot_str_join type_str_join (mL (K:=K) rfl) rfl cm #[(eE (az.of (show bP (ai cI) ["_law_row_here","_law_shift","_law_wide","_law_high","_law_columns","_law_rows","_law_k","_law_signs","_law_there"] _ ["_law_at","_law_shift"] [(1,1)]=true from by decide +kernel)) rfl rfl (cF (K:=K) rfl ↑7) (λ_ _ _=>(aM 0 (show(["_law_at","_law_shift"]:ZB).Nodup from by decide +kernel) rfl)) (λ_ _ _=>jf) (λ_ _ _=>(aD (jE T) hr rfl #[↑0,dU 1 rfl])))])])))))
   (ah (iJ 8 bW.nd rfl Z0 Z1 rfl (az.of (show bP (ai cI) ["_law_row_here","_law_shift","_law_wide","_law_high","_law_columns","_law_rows","_law_k","_law_signs","_law_there"] _ ["_law_at","_law_columns"] [(1,4)]=true from by decide +kernel)) rfl rfl (jn rfl T.ai rfl #[ar]) (λ_ _ _=>(mK 0 (show(["_law_at","_law_columns"]:ZB).Nodup from by decide +kernel) rfl Z1 Z0)) (λ_ _ _=>(rE (bF (qg (K:=K) rfl) rfl eBl (eE (az.of (show bP _ ["_law_at","_law_columns"] _ ["_law_column_here","_law_at"] [(1,0)]=true from rfl)) rfl rfl (cF (K:=K) rfl (dU 1 rfl)) (λ_ _ _=>(aM 0 (show(["_law_column_here","_law_at"]:ZB).Nodup from by decide +kernel) rfl)) (λ_ _ _=>jf) (λ_ _ _=>(iF (qg (K:=K) rfl) rfl (dU 1 rfl) ↑0)))))) (λ_ _ _=>(dU 0 rfl)))
   (aq (aN (eV #[(bmO (K:=K) plainAttrs_str slot_str_join type_str_join (mL (K:=K) rfl) rfl cm #[↑5]),↑8]))))))))))|?_]
  show bv _ _ _ [!a,some (.int u),none,none,none,none,none,none,none] H;refine am λD1 k1 _=>?_
  lk;refine%[_,hs,_,g0,c0,rfl,by decide|k1 _ _ (am λD2 k2 _=>?_)];lk;refine%[_,hs,_,g0,c0,rfl,%[by decide|by decide],by decide|k2 _ _ (am λD4 k4 _=>?_)];have w1:1<=10+c0%31:=by lia
  have w5:10+c0%31<=40:=by lia
  have i1:1<=2+c0/31%5:=by lia
  have i6:2+c0/31%5<=6:=by lia
  generalize co:10+c0%31=wd at w1 w5
  generalize 2+c0/31%5=hi at i1 i6
  refine aE λv L=>?_
  lk;refine .inl %[_,hs|λp Y=> .inl %[%[_|SqL.of aa]|L _ _ λD hD=>?_]];rw[nB xs (by decide) ⋯ ⋯]at hD ⊢;have a3:((xs.drop (Int.toNat 1)).take ((1+wd).toNat-Int.toNat 1)).length=wd.toNat:=by
   rw[Yo,Yk,b4];rw[show(1+wd).toNat=wd.toNat+1 by lia];exact X2 ⋯
  have a4:∀x∈(xs.drop (Int.toNat 1)).take ((1+wd).toNat-Int.toNat 1),0<=x/\x<9973:=λx hx=>hb x (Yz (X1 hx))
  generalize (xs.drop (Int.toNat 1)).take ((1+wd).toNat-Int.toNat 1)=ys at a3 a4 hD ⊢
  have a5:af H (upd H p (.lst (ys.map V.int))):=af.upd Y;have ab:upd H p (.lst (ys.map V.int)) p=some (.lst (ys.map V.int)):=aa
  generalize upd H p (.lst (ys.map V.int))=b5 at a5 ab hD ⊢
  refine bw (J:=Itl K p) (n:=wd.toNat) (D:=D) (λi zs j d=>(∃o,j=[o,some (.int hi)])/\af b5 d/\d D=some (.lst zs)/\∃cs:List (Addr×ZL),zs=cs.map (λq=>V.ref q.1)/\cs.length=i/\nA d cs/\∀q∈cs,q.1≠D/\q.2.length=hi.toNat/\iq false q.2)
   %[%[none|rfl],af.upd hD,aa,[],rfl,rfl,λq b=>(nomatch b)|λq b=>(nomatch b)]
   (λi _ _ d a6 b=>%[_,V.int (ys[i]'⋯),SqL.of (b.2.1 _ _ ab)|by simp[show i<ys.length by lia]]) (λ_ _ d b=>%[_,SqL.of (b.2.1 _ _ ab)|by simp[a3]]) ?_ ?_
  .rintro i zs j d a6 ⟨⟨o,rfl⟩,C,a7,cs,rfl,y,ac,M⟩ x H2 ⟨e2,hx⟩;subst e2;have a8:i<ys.length:=by lia
   have m:=hx _ (SqL.of (C _ _ ab));rw[Zl,Z4 a8]at m;obtain rfl:x=V.int ys[i]:=(Za m).symm;lk;refine%[_,_,_,rfl,(a4 _ (Yf a8)).1,i1,i6|λl H3 col a0 a9 bb bc b6=>?_];have bf:l≠D:=λe=>by rw[e,a7]at a9;cases a9
   refine CK.mk a6 (a0 _ _ a7) (by rw[Z6,y];exact aC ⋯) %[%[_|rfl],af.set (C.trans a0) hD,aa,cs++[(l,col)],by rw[Zd];rfl,by rw[Z9,y];rfl,λq b=>?_|λq b=>?_]
   .rcases Xp b with z|z
    .rw[ap (M q z).1];exact a0 _ _ (ac q z)
    .rw[Xq z,ap bf];exact bb
   .rcases Xp b with z|z
    .exact M q z
    .rw[Xq z];exact%[bf,bc|b6]
  rintro zs j H4 ⟨_,b7,N,cs,rfl,y,ac,M⟩;have a1:af H H4:=a5.trans b7;refine k4 _ _ (am λD5 k5 _=>?_);lk;refine%[Xh _|λR hR=>k5 _ _ (am λD6 k6 _=>aw λv L=>?_)];lk;have ch:(cs.map (·.2)).length=wd.toNat:=by rw[Z6];exact y
  refine%[⋯,⋯|L _ _ (cJ (λi j d=>∃o7 o8,j=[!a,some (.int u),some (.int wd),some (.int hi),!D,!R,o7,o8,none]/\af H4 d/\d R=some (.lst (((List.range i).map (fH (cs.map (·.2)) u)).map V.str)))
   %[_,_,rfl,af.upd hR|aa] ?_ ?_)]
  .rintro i j H5 ct ⟨o7,o8,rfl,g,ag⟩;show bv _ _ _ [!a,some (.int u),some (.int wd),some (.int hi),!D,!R,some (.int (0+i)),o8,none] H5;rw[Int.zero_add];refine am λD7 k7 _=>aE λv L=>?_
   lk;refine .inl %[%[_|SqL.of (g _ _ N)]|L _ _ λE hE=>?_];refine bw (J:=Itl K D) (n:=wd.toNat) (D:=E) (λq zs j d=>(∃o,j=[o,some (.int i)])/\af H5 d/\d E=some (.lst zs)/\zs=((cs.take q).map (λp=>p.2.getD i 0)).map V.int)
    %[%[none|rfl],af.upd hE,aa|rfl]
    (λq _ _ d b b=>%[_,V.ref (cs[q]'⋯).1,SqL.of (b.2.1 _ _ (g _ _ N))|by simp[show q<cs.length by lia]]) (λ_ _ d b=>%[_,SqL.of (b.2.1 _ _ (g _ _ N))|by simp[y]]) ?_ ?_
   .rintro q zs j d b ⟨⟨o,rfl⟩,C,b9,I⟩ x H2 ⟨e2,hx⟩;subst e2;have t:q<cs.length:=by lia
    have m:=hx _ (SqL.of (C _ _ (g _ _ N)));rw[Zl,Z4 t]at m;obtain rfl:x=V.ref cs[q].1:=(Za m).symm;lk;have hm:=Yf t;refine%[_,SqL.of (C _ _ (g _ _ (ac _ hm))),V.int (cs[q].2.getD i 0),?_|?_]
    .refine cC ?_;rw[Zl,cW (M _ hm).2.1 ⋯];rfl
    .refine CK.mk b b9 (by rw[I,Z6,Z6,Yo];exact aC ⋯) %[%[_|rfl],af.set C hE,aa|?_];rw[I,Xd,Zd,Zd,Z4 t];rfl
   rintro zs j H6 ⟨_,B,al,I⟩;rw[Zn ⋯]at I;refine k7 _ _ (aA λD8 k8 _=>?_);have bl:=g.trans B;lk;refine%[.inl %[_|SqL.of (B _ _ ag)]|aE λv L=>?_];lk;refine .inl %[%[_|SqL.of al]|L _ _ λF hF=>?_];refine bw (J:=Itl K E) (n:=wd.toNat) (D:=F) (λq ts j d=>(∃o,j=[o,some (.int u)])/\af H6 d/\d F=some (.lst ts)/\ts=(((cs.take q).map (λp=>sg (p.2.getD i 0) u)).map sgn).map V.str)
    %[%[none|rfl],af.upd hF,aa|rfl]
    (λq _ _ d b b=>%[_,V.int ((cs[q]'⋯).2.getD i 0),SqL.of (b.2.1 _ _ al)|by rw[I];simp[show q<cs.length by lia]]) (λ_ _ d b=>%[_,SqL.of (b.2.1 _ _ al)|by rw[I];simp[y]]) ?_ ?_
   .rintro q ts j d b ⟨⟨o,rfl⟩,C,a2,O⟩ x H2 ⟨e2,hx⟩;subst e2;have t:q<cs.length:=by lia
    have m:=hx _ (SqL.of (C _ _ al));rw[I,Zl,Zl,Z4 t]at m;obtain rfl:x=V.int (cs[q].2.getD i 0):=(Za m).symm;lk;refine%[_,_,rfl,s0|?_];refine CK.mk b a2 (by rw[O,Z6,Z6,Z6,Yo];exact aC ⋯) %[%[_|rfl],af.set C hF,aa|?_];rw[O,Xd,Zd,Zd,Zd,Z4 t];rfl
   rintro ts j H7 ⟨_,bm,ca,O⟩;rw[Zn ⋯]at O;lk;refine%[(cs.map λp=>sg (p.2.getD i 0) u).map sgn,by rw[<-O];exact SqL.of ca,?_,_,bm _ _ (B _ _ ag),by rw[Z6,Z6,Ym];exact aC ⋯|k8 _ _ %[_,_,rfl,af.set (bl.trans bm) hR|?_]]
   .rw[qr,Z6,Z6,show(Str.ofString "").length=0 from rfl]
    lia
   .rw[aa,Xc,Zd,Zd,show Txt.join (Str.ofString "") ((cs.map λp=>sg (p.2.getD i 0) u).map sgn)=Str.join (Str.ofString "") ((cs.map λp=>sg (p.2.getD i 0) u).map sgn)from StrLaws.glued_eq_join _ _,mQ];have e:fH (cs.map (·.2)) u i=⟨(cs.map λp=>sg (p.2.getD i 0) u).toArray⟩:=by
     unfold fH;rw[Yu];rfl
    rw[<-e];rfl
  .rintro j H5 ⟨o7,o8,rfl,g,ag⟩;refine k6 _ _ (am λD7 k7 _=>aE λv L=>?_);lk;refine%[by decide,by decide|L _ _ λF hF=>?_];refine bw (J:=Itr 0 8) (n:=8) (D:=F) (λq ts j d=>(∃o,j=[o,!D])/\af H5 d/\d F=some (.lst ts)/\ts=(((List.range q).filter λa:Nat=>(cs.map (·.2)).any λc=>decide ((a:Int)∈c)).map λa:Nat=>(a:Int)).map V.int)
    %[%[none|rfl],af.upd hF,aa|rfl] (λq _ _ d b _=>b) (λ_ _ d _=>Zi _) ?_ ?_
   .rintro q ts j d b ⟨⟨o,rfl⟩,C,a2,O⟩ x H2 ⟨e2,e3⟩;subst e2 e3;lk;refine aE λv L=>?_
    lk;have an:=C _ _ (g _ _ N);refine .inl %[%[_|SqL.of an]|L _ _ λG hG=>?_];refine bw (J:=Itl K D) (n:=wd.toNat) (D:=G) (λr zs j H3=>(∃o,j=[o,some (.int q)])/\af H2 H3/\H3 G=some (.lst zs)/\zs=(cs.take r).map (λp=>V.bl (decide ((q:Int)∈p.2))))
     %[%[none|rfl],af.upd hG,aa|rfl]
     (λr _ _ H3 br b=>%[_,V.ref (cs[r]'⋯).1,SqL.of (b.2.1 _ _ an)|by simp[show r<cs.length by lia]]) (λ_ _ H3 b=>%[_,SqL.of (b.2.1 _ _ an)|by simp[y]]) ?_ ?_
    .rintro r zs j H3 br ⟨⟨o,rfl⟩,s3,cb,I⟩ x cM ⟨e2,hx⟩;subst e2;have t:r<cs.length:=by lia
     have m:=hx _ (SqL.of (s3 _ _ an));rw[Zl,Z4 t]at m;obtain rfl:x=V.ref cs[r].1:=(Za m).symm;have hm:=Yf t;lk;refine%[_,.inl (SqL.of (s3 _ _ (C _ _ (g _ _ (ac _ hm))))),rfl,pK _|?_];rw[vF];refine CK.mk br cb (by rw[I,Z6,Yo];exact aC ⋯) %[%[_|rfl],af.set s3 hG,aa|?_];rw[I,Xd,Zd,Z4 t];rfl
    rintro zs j H3 ⟨_,s3,cd,I⟩;rw[Zn ⋯]at I;have bt:=s3 _ _ a2;lk;refine%[_,.inl (SqL.of cd),rfl,by rw[I];simp[eS]|?_];rw[I,pJ];have any:(cs.any λp=>decide ((q:Int)∈p.2))=(cs.map (·.2)).any λc=>decide ((q:Int)∈c):=by rw[any_map];rfl
    rw[any];have b0:ts.length<sizeLine:=by
     rw[O,Z6,Z6];have:=Yl (λa:Nat=>(cs.map (·.2)).any λc=>decide ((a:Int)∈c)) (List.range q);rw[Ym]at this;exact aC ⋯
    refine bI (λhb=>?_) λhb=>?_
    .refine CK.mk b bt b0 %[%[_|rfl],af.set (C.trans s3) hF,aa|?_];rw[O,Xc,Y4,Zd,Zd];rw[show List.filter (λa:Nat=>(cs.map (·.2)).any λc=>decide ((a:Int)∈c)) [q]=[q]from by rw[filter_cons,if_pos hb];rfl];rfl
    .refine CN.mk b %[%[_|rfl],C.trans s3,bt|?_];rw[O,Xc,Y4,Zd,Zd];rw[show List.filter (λa:Nat=>(cs.map (·.2)).any λc=>decide ((a:Int)∈c)) [q]=[]from by rw[filter_cons,if_neg hb];rfl];simp
   rintro ts j H6 ⟨_,B,b1,O⟩;refine k7 _ _ ?_;lk;have U:∀c∈cs.map (·.2),c.length=hi.toNat/\iq false c:=λc hc=>by
    obtain⟨p,Y,rfl⟩:=Xr hc;exact(M p Y).2
   have as:bU (drawn (cs.map (·.2)) hi.toNat u):=np ⋯ ⋯ ⋯ ⋯ U;have b2:H5 R=some (.lst ((drawn (cs.map (·.2)) hi.toNat u).map V.str)):=ag;refine%[drawn (cs.map (·.2)) hi.toNat u,SqL.of (B _ _ b2),?_,#[2]|λp Y=>?_]
   .have:=as.sum;have:=as.high;rw[show(Str.ofString "\n").length=1 from rfl]
    lia
   .have b3:af H (upd H6 p (.tup [V.str (Txt.join (Str.ofString "\n") (drawn (cs.map (·.2)) hi.toNat u)),V.ref F])):=(a1.trans (g.trans B)).trans (af.upd Y);refine kk p F _ (cs.map (·.2)) hi.toNat b3 ((a1.trans (g.trans B)).free Y) ((a1.trans g).free hF) (λe=>by rw[e,b1]at Y;cases Y) ?_ ?_ ⋯ ⋯ ⋯ ⋯ U
    .rw[aa,show Txt.join (Str.ofString "\n") (drawn (cs.map (·.2)) hi.toNat u)=Str.join (Str.ofString "\n") (drawn (cs.map (·.2)) hi.toNat u)from StrLaws.glued_eq_join _ _];rfl
    .rw[af.upd Y F _ b1,O];rfl
def xq:Sp:=λvs H Q _=>∃z:Str,vs=[.str z]/\z.length<=1000/\∀a,af H a->Q (.bl (qq z)) a
def uN:Sp:=λvs H Q _=>∃row a:Str,vs=[.str row,.str a]/\row.length<=1000/\a.length<=1000/\∀b,af H b->Q (.bl (eX row a)) b
def oq(K:ZA):Sp:=λvs H Q _=>∃a rows,vs=[.ref a]/\SqL K H a (rows.map V.str)/\(rows.map (·.length)).sum<=3000/\(∀r∈rows,r.cps.toList.all okc=true)/\
 ∀l b ss,af H b->H l=none->b l=some (.lst (ss.map V.str))->ss.Perm (aK ((cV rows).map sgn))->PyProof.Rows.sortedS ss=true->Q (.ref l) b
def uO:Sp:=λvs H Q _=>∃rows:ZB,vs=[.str (Str.join nl rows)]/\bU rows/\∀l a,af H a->H l=none->a l=some (.lst (rows.map V.str))->Q (.ref l) a
theorem i8(z:Str)(i:Nat)(c:Nat)(h:z.cps[i]? =some c):(z.cps.toList.take i++[c])=z.cps.toList.take (i+1):=by
 have h':z.cps.toList[i]? =some c:=by simpa using h
 obtain⟨a,e⟩:=Xo h';rw[List.take_succ_eq_append_getElem a,e]
theorem zN(c d:Nat):((⟨([c].toArray)⟩:Str)=⟨([d].toArray)⟩)↔c=d:=by
 simp
theorem nC(c:Nat):((⟨([c].toArray)⟩)=Str.ofString ".")↔c=46:=zN c 46
theorem zO(T:Txt K mg):↥1 "is_row" ["row"] xq:=by
 refine T.aT.cal xj (λH vs Q E h=>?_)
 .obtain⟨z,rfl,N,k⟩:=h;refine%[rfl|λf v A outer s M=>?_];refine%[_,(QSs.h (aq (aN (nT (t7 wA wA rfl ar ↑↑0 (gvE T.ap rfl rfl)) (qe (cbO (yS (K:=K) rfl rfl) T.aa boot_all rfl #[(eE (az.of (show bP (ai j9) ["row"] _ ["sign"] []=true from by decide +kernel)) rfl rfl (cF (K:=K) rfl ↑0) (λ_ _ _=>(aM 0 (show(["sign"]:ZB).Nodup from by simp) rfl)) (λ_ _ _=>jf) (λ_ _ _=>(orV (iF cR rfl ↑0 (gvE T.aq rfl rfl)) (qe (iF (qg (K:=K) rfl) rfl ↑0 (gvE T.an rfl rfl))))))]))))))|?_];show jd _ _ [-z] H;lk;refine%[bE ⋯|bI (λl=>bI (λm=>?_) λm=>?_) λl=>?_]
  .refine aE λt y=>?_
   lk;refine y _ _ λD u=>?_
   refine bw (J:=Its z) (n:=z.cps.size) (D:=D) (λi ys d a=>(∃o,d=[o])/\af H a/\a D=some (.lst ys)/\ys=(z.cps.toList.take i).map (λc=>V.bl (okc c))) %[%[none|rfl],af.upd u,aa|rfl]
    (λi _ _ _ hi _=>hi) (λ_ _ _ _=>Zi _) ?_ ?_
   .rintro i ys d a hi ⟨⟨o,rfl⟩,p,q,g⟩ x B ⟨C,c,G,rfl⟩;subst C;have j:ys.length=i:=by
     rw[g,Z6,Yo];have:z.cps.toList.length=z.cps.size:=by simp
     lia
    have I:i<1000:=by
     have:z.length=z.cps.size:=rfl
     lia
    have put:∀b:Bool,b=okc c->CK D z.cps.size i (λi ys d a=>(∃o,d=[o])/\af H a/\a D=some (.lst ys)/\ys=(z.cps.toList.take i).map (λc=>V.bl (okc c))) ys [some (.str ⟨([c].toArray)⟩)] (.bl b) B:=λb L=>
     CK.mk hi q (j▸aC ⋯) %[%[_|rfl],af.set p u,aa|by rw[L,g,<-i8 z i c G,Zd];rfl]
    lk;refine bI (λr=>put true ?_) λr=>put _ ?_
    .have:=(nC c).mp (Zo r);unfold okc;rw[Zf this,Bool.true_or]
    .have: ¬ c=46:=λe=>(λe=>r (Zf e)) ((nC c).mpr e)
     unfold okc;rw[Zh this,Bool.false_or,yJ];rfl
   .rintro ys d a ⟨_,p,q,g⟩;lk;refine%[z.cps.toList.map okc,?_|?_]
    .have e:z.cps.toList.take z.cps.size=z.cps.toList:=by
      apply Zn;simp
     rw[e]at g;have:(z.cps.toList.map okc).map V.bl=ys:=by rw[g,Yu];rfl
     rw[this];exact SqL.of q
    .have e:qq z=(z.cps.toList.map okc).all id:=by
      unfold qq;rw[l,m,all_map]
      all_goals rfl
     exact e▸k a p
  .rw[Bool.not_eq_true]at m;have e:qq z=false:=by unfold qq;rw[m,Bool.and_false,Bool.false_and]
   rw[e]at k;exact k H (af.refl H)
  .rw[Bool.not_eq_true]at l;have e:qq z=false:=by unfold qq;rw[l,Bool.false_and,Bool.false_and]
   rw[e]at k;exact k H (af.refl H)
noncomputable def lH(p:Nat×Nat):Bool:=!decide (p.2=46)||decide (p.1=46)
theorem sP(x y:Str)(i c d:Nat)(b:x.cps[i]? =some c)(f:y.cps[i]? =some d):((List.zip x.cps.toList y.cps.toList).take i++[(c,d)])=(List.zip x.cps.toList y.cps.toList).take (i+1):=by
 have h:(List.zip x.cps.toList y.cps.toList)[i]? =some (c,d):=List.getElem?_zip_eq_some.mpr %[by simpa using b|by simpa using f];obtain⟨a,e⟩:=Xo h;rw[List.take_succ_eq_append_getElem a,e]
theorem nD(T:Txt K mg):↥1 "lies_beneath" ["row","above"] uN:=by
 refine T.aU.cal lS (λH vs Q E h=>?_)
 .obtain⟨row,a,rfl,I,L,k⟩:=h;refine%[rfl|λf G A outer s hr=>?_];refine%[_,(QSs.h (ah (ifS (bF eF rfl ↑↑0 ↑↑1)
   (aq (aN eBl))
   bh)
   (aq (aN (cbO (yS (K:=K) rfl rfl) T.aa boot_all rfl #[(eE (az.of (show bP (ai dm) ["row","above"] _ ["high","low"] []=true from by decide +kernel)) rfl rfl (BX rfl T.ae rfl rfl #[↑1,↑0]) (λ_ _ _=>(fD (K:=K) rfl rfl rfl (gsE rfl (aM 0 (show(["high","low"]:ZB).Nodup from by decide +kernel) rfl) (gsE rfl (aM 1 (show(["high","low"]:ZB).Nodup from by decide +kernel) rfl) cO)))) (λ_ _ _=>jf) (λ_ _ _=>(orV (iF eF rfl ↑1 (gvE T.aq rfl rfl)) (qe (iF cR rfl ↑0 (gvE T.aq rfl rfl))))))])))))|?_]
  show bv _ _ _ [-row,-a] H;refine am λD1 k1 M=>?_
  lk;refine%[bE ⋯,bE ⋯|bI (λj=>?_) λj=>?_]
  .have j: ¬ ((row.length:Int)=a.length):=by simpa using j
   have e:eX row a=false:=by
    unfold eX;rw[Zh ⋯,Bool.false_and]
   rw[e]at k;exact M _ _ (k H (af.refl H))
  .have j:row.length=a.length:=by
    have:(row.length:Int)=a.length:=by simpa using j
    lia
   refine k1 _ _ ?_;have t:row.cps.size=a.cps.size:=j;have u:(List.zip a.cps.toList row.cps.toList).length=a.cps.size:=by rw[length_zip];simp[t]
   lk;refine aE λz N=>?_
   lk;refine N _ _ λD B=>?_
   refine bw (J:=Itz a row) (n:=a.cps.size) (D:=D) (λi ys l g=>(∃q r,l=[q,r])/\af H g/\g D=some (.lst ys)/\ys=((List.zip a.cps.toList row.cps.toList).take i).map (λp=>V.bl (lH p))) %[%[none,none|rfl],af.upd B,aa|rfl]
    (λi _ _ _ hi _=>%[hi|⋯]) (λ_ _ _ _=>%[Zi _,⋯|.inl rfl]) ?_ ?_
   .rintro i ys l g hi ⟨⟨q,r,rfl⟩,v,y,m⟩ x H2 ⟨c,d,TT,O,U,C,rfl,rfl⟩;have o:ys.length=i:=by rw[m,Z6,Yo,u];lia
    have Y:i<1000:=by
     have:a.length=a.cps.size:=rfl
     lia
    have put:∀b:Bool,b=lH (c,d)->CK D a.cps.size i (λi ys l g=>(∃q r,l=[q,r])/\af H g/\g D=some (.lst ys)/\ys=((List.zip a.cps.toList row.cps.toList).take i).map (λp=>V.bl (lH p))) ys [some (.str ⟨([c].toArray)⟩),some (.str ⟨([d].toArray)⟩)] (.bl b) (upd g TT (.tup [.str ⟨([c].toArray)⟩,.str ⟨([d].toArray)⟩])):=λb eb=>
     CK.mk hi (af.upd C _ _ y) (o▸aC ⋯) %[%[_,_|rfl],af.set (v.trans (af.upd C)) B,aa|by rw[eb,m,<-sP a row i c d O U,Zd];rfl]
    lk;refine%[_,SqT.of aa,rfl,_,_,rfl,_,_,rfl,rfl,rfl|?_];simp only[V.str.injEq,nC];refine bI (λh=>put true ?_) λh=>%[rfl|put _ ?_]
    .unfold lH;rw[h,Bool.true_or]
    .unfold lH;rw[Bool.not_eq_true]at h;rw[h,Bool.false_or]
   .rintro ys l g ⟨_,v,y,m⟩;lk;refine%[(List.zip a.cps.toList row.cps.toList).map lH,?_|?_]
    .have e:(List.zip a.cps.toList row.cps.toList).take a.cps.size=List.zip a.cps.toList row.cps.toList:=Zn ⋯;rw[e]at m;have:((List.zip a.cps.toList row.cps.toList).map lH).map V.bl=ys:=by rw[m,Yu];rfl
     rw[this];exact SqL.of y
    .have e:eX row a=((List.zip a.cps.toList row.cps.toList).map lH).all id:=by
      unfold eX;rw[Zf j,all_map,Bool.true_and];rfl
     exact e▸k g v
theorem xt(h:(rows.map (·.length)).sum<=3000):(Str.join (Str.ofString "") rows).length<=3000:=by
 have:=StrLaws.join_length_le (Str.ofString "") rows;rw[show(Str.ofString "").length=0 from rfl]at this
 lia
theorem kf(T:Txt K mg):↥1 "letters_in" ["rows"] (oq K):=by
 refine T.aV.cal oj (λH vs Q E h=>?_)
 .obtain⟨a,rows,rfl,N,g,u,k⟩:=h;refine%[rfl|λf M A outer s hr=>?_];refine%[_,(QSs.h (aq (aN (cbO (wI (w:=w) rfl rfl) T.a7 boot_sorted rfl #[(ctO (yX (K:=K) (w:=w) rfl rfl rfl) T.a6 boot_set rfl #[(eE (az.of (show bP (ai eK) ["rows"] _ ["sign"] []=true from by decide +kernel)) rfl rfl (cF (K:=K) rfl (bmO (K:=K) plainAttrs_str slot_str_join type_str_join (mL (K:=K) rfl) rfl cm #[↑0])) (λ_ _ _=>(aM 0 (show(["sign"]:ZB).Nodup from by simp) rfl)) (λ_ _ _=>(rE (bF eF rfl ↑0 (gvE T.aq rfl rfl)))) (λ_ _ _=>↑0))])]))))|?_];show jd _ _ [!a] H;lk;refine aE λC O=>?_
  lk;refine%[rows,N,by rw[show(Str.ofString "").length=0 from rfl];lia|?_];rw[show Txt.join (Str.ofString "") rows=Str.join (Str.ofString "") rows from StrLaws.glued_eq_join _ _];have j:=xt g;have b:=kC u;unfold cV at b k
  generalize Str.join (Str.ofString "") rows=z at j b k ⊢
  refine O _ _ λD G=>?_
  refine bw (J:=Its z) (n:=z.cps.size) (D:=D) (λi ys v m=>(∃o,v=[o])/\af H m/\m D=some (.lst ys)/\ys=((z.cps.toList.take i).filter (λc=>decide (c≠46))).map (λc=>V.str (sgn c))) %[%[none|rfl],af.upd G,aa|rfl]
   (λi _ _ _ hi _=>hi) (λ_ _ _ _=>Zi _) ?_ ?_
  .rintro i ys v m hi ⟨⟨o,rfl⟩,r,t,d⟩ x H2 ⟨U,c,I,rfl⟩;subst U;have L:ys.length<=i:=by
    rw[d,Z6];have:=Yl (λc=>decide (c≠46)) (z.cps.toList.take i);rw[Yo]at this
    lia
   have Y:i<3000:=by
    have:z.length=z.cps.size:=rfl
    lia
   lk;simp only[nC];refine bI (λy=>?_) λy=>?_
   .refine CK.mk hi t (aC ⋯) %[%[_|rfl],af.set r G,aa|?_];rw[<-i8 z i c I,Y4,Zd,d];have:decide (c≠46)=true:=by simpa using y
    rw[filter_cons,this];rfl
   .refine CN.mk hi %[%[_|rfl],r,t|?_];rw[<-i8 z i c I,Y4,Zd,d];have:decide (c≠46)=false:=by simpa using y
    rw[filter_cons,this];simp
  .rintro ys v m ⟨_,r,t,d⟩;have e:z.cps.toList.take z.cps.size=z.cps.toList:=by
    apply Zn;simp
   rw[e]at d;lk;have ab:=Yl (λc=>decide (c≠46)) z.cps.toList;have ac:z.cps.toList.length=z.length:=by simp[Str.length]
   refine%[(z.cps.toList.filter (λc=>decide (c≠46))).map sgn,?_,by rw[Z6];lia|λS hS=>%[_,aa,?_|λl ss p hp B=>?_]]
   .rw[Yu];have:(z.cps.toList.filter (λc=>decide (c≠46))).map (V.str ∘ sgn)=ys:=by rw[d];rfl
    rw[this];exact SqL.of t
   .have:=mP b
    lia
   .have q:af H (upd m S (jv w S (aK ((z.cps.toList.filter (λc=>decide (c≠46))).map sgn)))):=r.trans (af.upd hS);exact k l _ ss (q.trans (af.upd p)) (q.free p) aa hp B
theorem kR(T:Txt K mg):↥2 "rows_of" ["text"] uO:=by
 refine T.aS.cal gZ (λH vs Q E h=>?_)
 .obtain⟨rows,rfl,a,k⟩:=h;refine%[rfl|λf a0 A outer s M=>?_];obtain⟨wd,w1,w2,hw⟩:=a.wide;have N:=a.text;have t:=a.split;refine%[_,(QSs.h (ah (ifS (je (~~~(cbO (iI (K:=K) rfl) T.ac boot_isinstance rfl #[↑0,(blE (v:= .ty "str") rfl T.ab boot_str rfl rfl rfl)])))
   (aq gK)
   bh)
   (ah (aI 1 gZ.nd rfl (bmO (K:=K) plainAttrs_str PySem.F.slot_str_split PySem.F.type_str_split vo rfl ↑0 #[cm]))
   (ah (cP PassesOwn.never rfl rfl (vp (K:=K) rfl rfl T.ad rfl #[↑1]) (fD (K:=K) rfl rfl rfl (gsE rfl (aM 2 gZ.nd rfl) (gsE rfl (aM 3 gZ.nd rfl) cO)))
   (ah (ifS (wT (orW (bF cR rfl ↑2 (gvE T.ao rfl rfl)) (mJ (je (~~~(aD (zO T) M rfl #[↑3]))))))
    (aq gK)
    bh)
    (aq (ifS (wT (kz (bF wB rfl ↑2 ar) (iH (je (~~~(aD (nD T) M rfl #[↑3,(↑1>>(opE oV ↑2 ar))]))))))
    (aq gK)
    bh))))
   (ah (ifS (bF cR rfl ↑(aD (kf T) M rfl #[↑1]) ar)
   (aq gK)
   bh)
   (aq (aN ↑1)))))))|?_]
  generalize Str.join nl rows=z at N t
  show bv _ _ _ [-z,none,none,none] H;refine am λD1 k1 _=>?_
  lk;refine%[.type "str",.str z,true,by rfl|CZ (k1 _ _ (am λD2 k2 _=>?_))];lk;refine%[by decide,Yj (by lia:z.length+2<=5000) (by decide)|λl hl=>k2 _ _ ?_];rw[show(Str.ofString "\n")=nl from rfl,t];refine am λD3 k3 _=>aw λal hK=>?_
  lk;have O:af H (upd H l (.lst (rows.map V.str))):=af.upd hl;refine%[_,SqL.of aa|hK _ _ (jS (λi J g=>∃U Y,J=[-z,!l,U,Y]/\af H g/\g l=some (.lst (rows.map V.str))) %[none,none,rfl,O|aa] (λi J g _ ⟨_,_,_,_,q⟩=>SqL.of q) ?_ ?_)]
  .rintro i x TT J g u ⟨U,Y,rfl,sm,j⟩ hT;obtain⟨r,m,rfl⟩:∃r,rows[i]? =some r/\x=V.str r:=by
    rw[Zl]at u;cases e:rows[i]? with
    | none=>rw[e]at u;cases u
    | some r=>rw[e]at u;exact%[r,rfl|(Za u).symm]
   have an:i<rows.length:=(Xo m).1;have as:=a.high;have y:af H (upd g TT (.tup [.int i,.str r])):=sm.trans (af.upd hT);have o:upd g TT (.tup [.int i,.str r]) l=some (.lst (rows.map V.str)):=af.upd hT _ _ j;have B:upd g TT (.tup [.int i,.str r]) TT=some (.tup [.int i,.str r]):=aa
   generalize upd g TT (.tup [.int i,.str r])=HT at y o B
   have C:r.length<=1000:=by
    have:r.length=wd:=hw r (Z8 m)
    lia
   refine%[_,SqT.of B,rfl,_,_,rfl,_,_,rfl,rfl|?_];show bv _ _ _ [-z,!l,some (.int i),-r] HT;refine am λD4 k4 _=>?_
   have go:∀p,af HT p->D4.nx [-z,!l,some (.int i),-r] p:=by
    intro p b;refine k4 _ _ (aA λD5 k5 _=>?_);have G:∀L,af HT L->D5.nx [-z,!l,some (.int i),-r] L:=λL n=>k5 _ _ %[_,_,rfl,y.trans n|n l _ o]
    lk;refine bI (λI=>?_) λ_=>G _ b
    have I:0<(i:Int):=Zo I;obtain⟨d,rfl⟩:∃d,i=d+1:=%[i-1|⋯]
    have ab:d<rows.length:=by lia
    have ac:rows[d]? =some rows[d]:=by simp
    have e1:(((d+1:Nat):Int) -1)=(d:Int):=by lia
    refine%[_,SqL.of (b l _ o),.str rows[d],e1▸cC ∅,r,rows[d],rfl,C,?_|λL n=>%[_,rfl|?_]]
    .have:rows[d].length=wd:=hw _ (Yf ab)
     lia
    .rw[a.beneath ac m];exact CZ (G _ (b.trans n))
   lk;rw[if_neg ⋯];refine%[r,rfl,C|λp b=>%[_,rfl|?_]];rw[a.row (Z8 m)];exact CZ (go p b)
  .rintro J g ⟨U,Y,rfl,sm,j⟩;refine k3 _ _ ?_;lk;refine%[l,rows,rfl,SqL.of j,by have:=a.sum;lia,a.sign|λl2 p ss b a1 ag I a2=>%[_,.inl %[_,SqL.of ag|rfl]|?_]];rw[if_neg]
   .exact k l p (sm.trans b) hl (b l _ j)
   .intro h0;have h0:=Zo h0;rw[Z6]at h0;have:ss=[]:=length_eq_zero_iff.mp ⋯;rw[this]at I;have hm:=I.symm.eq_nil;obtain⟨c,hc⟩:=List.exists_mem_of_ne_nil _ a.signs_ne;have:sgn c∈aK ((cV rows).map sgn):=bx.mpr (Xs %[c,hc|rfl]);rw[hm]at this;cases this
noncomputable def pL(p:Nat×Nat):Option ZB:=if p.1≠46/\p.1≠p.2 then some [sgn p.1,sgn p.2]else none
noncomputable def kS(u r:Str):List ZB:=(List.zip u.cps.toList r.cps.toList).filterMap pL
theorem iT(H:Hp):ba H []:=λp a=>by cases a
theorem aV(h:ba H ps)(s:∀b z,H b=some (.tup z)->c b=some (.tup z)):ba c ps:=λp a=>%[(h p a).1|s _ _ (h p a).2]
theorem i9(h:ba H ps)(a:q.2≠[])(b:H q.1=some (.tup (q.2.map V.str))):ba H (ps++[q]):=λp c=>by
 rcases Xp c with z|z
 .exact h p z
 .rw[Xq z];exact%[a|b]
theorem sQ(a:ba H ps)(b:ba H qs):ba H (ps++qs):=λp c=>(Xp c).elim (a p) (b p)
def E3:Sp:=λvs H Q _=>∃u r:Str,vs=[.str u,.str r]/\u.length<=40/\r.length=u.length/\∀l a ps,af H a->H l=none->a l=some (.lst (ps.map λp=>V.ref p.1))->ba a ps->ps.map (·.2)=kS u r->Q (.ref l) a
def Bv:Sp:=λvs H Q _=>∃rows:ZB,vs=[.str (Str.join nl rows)]/\bU rows/\∀l a ss,af H a->H l=none->a l=some (.lst (ss.map V.str))->ss.Perm (aK ((cV rows).map sgn))->PyProof.Rows.sortedS ss=true->Q (.ref l) a
theorem xu(T:Txt K mg):↥3 "letters" ["text"] Bv:=by
 refine T.aW.cal uK (λH vs Q E h=>?_)
 .obtain⟨rows,rfl,a,e⟩:=h;refine%[rfl|λf d A outer s b=>?_];refine%[_,(QSs.h (aq (aN (aD (kf T) b rfl #[aD (kR T) b rfl #[↑0]])))),rows,rfl,a|λl r c t g=>%[l,rows,rfl,SqL.of g,by have:=a.sum;lia,a.sign|λi j ss m n o p q=>e i j ss (c.trans m) (c.free n) o p q]]
theorem jF(T:Txt K mg):↥1 "meetings_between" ["above","row"] E3:=by
 refine T.aY.cal jj (λH vs Q E h=>?_)
 .obtain⟨u,r,rfl,hu,ag,kk⟩:=h;refine%[rfl|λf ac A outer s hr=>?_];have al:u.length=u.cps.size:=rfl;have an:r.length=r.cps.size:=rfl;refine%[_,(QSs.h (aq (aN (eE (az.of (show bP (ai cu) ["above","row"] _ ["high","low"] []=true from by decide +kernel)) rfl rfl (BX rfl T.ae rfl rfl #[↑0,↑1]) (λ_ _ _=>(fD (K:=K) rfl rfl rfl (gsE rfl (aM 0 (show(["high","low"]:ZB).Nodup from by decide +kernel) rfl) (gsE rfl (aM 1 (show(["high","low"]:ZB).Nodup from by decide +kernel) rfl) cO)))) (λ_ _ _=>(rE (wT (kz (bF eF rfl ↑0 (gvE T.aq rfl rfl)) (iH (bF eF rfl ↑0 ↑1)))))) (λ_ _ _=>(eV #[↑0,↑1]))))))|?_];show jd _ _ [-u,-r] H;lk;refine aE λab hK=>?_
  lk;refine hK _ _ λD N=>?_
  refine bw (J:=Itz u r) (n:=u.cps.size) (D:=D) (λi ys O l=>(∃o1 o2,O=[o1,o2])/\af H l/\l D=some (.lst ys)/\ys.length<=i/\∃ps:ZG,ys=ps.map (λp=>V.ref p.1)/\ba l ps/\ps.map (·.2)=((List.zip u.cps.toList r.cps.toList).take i).filterMap pL)
   %[%[none,none|rfl],af.upd N,aa,Zi _,[],rfl,iT _|rfl] (λi _ _ _ hi _=>%[hi|⋯]) (λ_ _ _ _=>%[Zi _,⋯|.inl rfl]) ?_ ?_
  .rintro i ys O l hi ⟨⟨o1,o2,rfl⟩,U,Y,G,ps,I,m,j⟩ x H2 ⟨c,d,TT,hc,hd,hT,rfl,rfl⟩;have t:=af.upd (o:= .tup [.str ⟨([c].toArray)⟩,.str ⟨([d].toArray)⟩]) hT;have nx:=sP u r i c d hc hd;have a:=t _ _ Y;have B:upd l TT (.tup [.str ⟨([c].toArray)⟩,.str ⟨([d].toArray)⟩]) TT=some (.tup [.str ⟨([c].toArray)⟩,.str ⟨([d].toArray)⟩]):=aa;have g:ba (upd l TT (.tup [.str ⟨([c].toArray)⟩,.str ⟨([d].toArray)⟩])) ps:=λp C=>%[(m p C).1|t _ _ (m p C).2]
   have v:=U.trans t
   generalize upd l TT (.tup [.str ⟨([c].toArray)⟩,.str ⟨([d].toArray)⟩])=HT at t a B g v
   refine%[_,SqT.of B,rfl,_,_,rfl,_,_,rfl,rfl|?_];show Al _ _ [some (.str ⟨([c].toArray)⟩),some (.str ⟨([d].toArray)⟩)] HT _;lk;simp only[nC,zN];have as:D≠TT:=λe=>by rw[e,B]at a;cases a
   refine bI (λL=>bI (λM=>?_) λM=>?_) λL=>?_
   .have L:c≠46:=by simpa using L
    have M:c≠d:=by simpa using M
    refine%[show 2<=sizeLine from by decide|λp C=>?_];have y:=af.upd (o:= .tup [V.str ⟨([c].toArray)⟩,V.str ⟨([d].toArray)⟩]) C;have a0:p≠D:=λe=>by rw[e,a]at C;cases C
    refine CK.mk hi (y _ _ a) (aC ⋯) %[%[_,_|rfl],af.set (v.trans y) N,aa,by rw[Z9,Yn];lia,ps++[(p,[sgn c,sgn d])],by rw[I,Zd];rfl,?_|?_]
    .have keep:∀b z,upd HT p _ b=some (.tup z)->upd _ D (.lst (ys++[V.ref p])) b=some (.tup z):=λb z e=>by
      have:b≠D:=λe2=>by rw[e2,y _ _ a]at e;cases e
      rw[ap this];exact e
     exact aV (i9 (aV g λb z e=>y _ _ e) ∅ (by rw[aa];rfl)) keep
    .rw[Zd,j,<-nx,List.filterMap_append];have:pL (c,d)=some [sgn c,sgn d]:=if_pos %[L|M];rw[Y3,this];rfl
   .refine CN.mk hi %[%[_,_|rfl],v,a,⋯,ps,I,g|?_];rw[j,<-nx,List.filterMap_append];have:pL (c,d)=none:=if_neg λq=>q.2 (by simpa using M)
    rw[Y3,this];simp
   .refine CN.mk hi %[%[_,_|rfl],v,a,⋯,ps,I,g|?_];rw[j,<-nx,List.filterMap_append];have:pL (c,d)=none:=if_neg λq=>q.1 (by simpa using L)
    rw[Y3,this];simp
  .rintro ys O l ⟨_,U,Y,G,ps,I,m,j⟩;rw[Zn (by rw[length_zip];simp;lia)]at j;exact kk D l ps U N (by rw[Y,I]) m j
theorem zP{K:ZA}{xs ys:ZM}{g:TG}{q:TS}{D:lK}(Pv:Nat->St->Hp->Prop)(s:Pv 0 c H)(t:ys.length<=xs.length)(u:∀i c H,i<=ys.length->Pv i c H->SqL K H a xs/\SqL K H b ys)
 (z:∀i x y T c H,xs[i]? =some x->ys[i]? =some y->Pv i c H->H T=none->g (.ref T) c (upd H T (.tup [x,y])) λd j=>q {D with nx:=Pv (i+1),ct:=Pv (i+1),bk:=D.nx} d j) (A:∀c H,Pv ys.length c H->D.nx c H):
 ∃W:Nat->Nat->St->Hp->Prop,(∃m,W 0 m c H)/\∀i m c H,W i m c H->
  ((wS K a b).stop i H/\D.nx c H)\/((wS K a b).go i H/\∃N:St->Hp->Prop,(∀f h,N f h->∃r,r<m/\W (i+1) r f h)/\∀x h,(wS K a b).yld i H x h->g x c h λd j=>q {D with nx:=N,ct:=N,bk:=D.nx} d j):=by
 refine%[λi m c H=>m=ys.length-i/\i<=ys.length/\Pv i c H,%[ys.length,by simp,Xh _|s]|?_];rintro i m c H ⟨rfl,hi,p⟩;obtain⟨l,n⟩:=u i c H hi p;by_cases o:i<ys.length
 .have B:xs[i]? =some xs[i]:=by simp[show i<xs.length by lia]
  have C:ys[i]? =some ys[i]:=by simp
  refine .inr %[%[xs,ys,_,_,l,n,B|C],Pv _,λf h E=>%[ys.length-(i+1),⋯,rfl,o|E]|λv h y=>?_];obtain⟨T,G,I,J,rfl,rfl,L,M⟩:=y;exact z i G I T c H (L xs l) (M ys n) p J
 .have e:i=ys.length:=by lia
  subst e;exact .inl %[%[xs,ys,l,n,⋯,Zi _|.inr rfl]|A c H p]
noncomputable def dR(rows:ZB)(i:Nat):List ZB:=(List.range i).flatMap λj=>kS (rows.getD j ⟨([].toArray)⟩) (rows.getD (j+1) ⟨([].toArray)⟩)
theorem qL(rows:ZB)(i:Nat):dR rows (i+1)=dR rows i++kS (rows.getD i ⟨([].toArray)⟩) (rows.getD (i+1) ⟨([].toArray)⟩):=by
 unfold dR;rw[Xc,flatMap_append];simp
theorem uP(u r:Str):(kS u r).length<=u.length:=by
 refine Yj (List.length_filterMap_le _ _) ?_;rw[length_zip];have:u.cps.toList.length=u.length:=by simp[Str.length]
 lia
theorem xv(h:k∈dR rows (rows.length-1)):∃a b,k=[sgn a,sgn b]/\Bs rows a b:=by
 obtain⟨j,d,g⟩:=mem_flatMap.mp h;have f:∀j h,rows.getD j ⟨([].toArray)⟩=rows[j]:=λj h=>by simp[h]
 have d:=mem_range.mp d;obtain⟨⟨a,b⟩,i,e⟩:=mem_filterMap.mp g;unfold pL at e
 split at e
 .rename_i h
  obtain⟨q,c⟩:=Xi i;rw[List.getElem?_zip_eq_some,f j ⋯,f _ ⋯]at c;exact%[a,b,(Za e).symm,h.1,h.2,j,q,rows[j],rows[j+1],Z4 _,Z4 _,by simpa using c.1|by simpa using c.2]
 .lia
theorem xw(l:bU rows)(h:Bs rows a b):Let rows a/\Let rows b:=by
 obtain⟨c,m,i,j,r,d,f,g,g1,g2⟩:=h;refine%[%[c,r,Z8 f|Z8 (by simpa using g1)],λe=>c (l.fall i r d f g j a b g1 g2 e),d,Z8 g|Z8 (by simpa using g2)]
theorem xx(rows:ZB)(h:rows≠[]):rh (rows.map V.str) (some 1) none=(rows.drop 1).map V.str:=by
 unfold rh;rw[HT.sIx_none,show(some (1))=some ((1:Nat):Int)from rfl,HT.sIx_nat,Z6,X2 (length_pos_iff.mpr h),<-List.map_drop,<-List.map_take];rw[Zn (Yk▸Zi _)]
def Bw:Sp:=λvs H Q _=>∃rows:ZB,vs=[.str (Str.join nl rows)]/\bU rows/\sK rows/\∀l c ss,af H c->H l=none->c l=some (.lst (ss.map λp=>V.ref p.1))->ba c ss->ss.length<=26->
 (∀t∈ss,∃a b,t.2=[sgn a,sgn b]/\Let rows a/\Let rows b)->(∀k,k∈ss.map (·.2)↔k∈dR rows (rows.length-1))->Q (.ref l) c
theorem uQ(T:Txt K mg):↥3 "meetings" ["text"] Bw:=by
 refine T.aX.cal dZ (λH vs Q E h=>?_)
 .obtain⟨rows,rfl,c,⟨mm,ml,a7⟩,kk⟩:=h;refine%[rfl|λf bt A outer s hr=>?_];obtain⟨wd,w1,w2,Y⟩:=c.wide;have hp:1<=rows.length:=c.pos;have bl:=c.high;have a8:rows≠[]:=length_pos_iff.mp hp;refine%[_,(QSs.h (ah (aI 1 dZ.nd rfl (aD (kR T) hr rfl #[↑0]))
   (ah (aI 2 dZ.nd rfl (cQ ak))
   (ah (cP PassesOwn.never rfl rfl (ET (K:=K) rfl rfl T.ae rfl rfl #[↑1,(slE (K:=K) rfl ↑1 (iG ar) noO)]) (fD (K:=K) rfl rfl rfl (gsE rfl (aM 3 dZ.nd rfl) (gsE rfl (aM 4 dZ.nd rfl) cO)))
   (aq (bT rfl (bmO (K:=K) plainAttrs_list PySem.F.slot_list_extend PySem.F.type_list_extend rF rfl ↑2 #[aD (jF T) hr rfl #[↑3,↑4]]))))
   (aq (aN (cbO (pC (P:=P) (w:=w) rfl rfl rfl) T.a7 boot_sorted rfl #[(ctO (zj (K:=K) (P:=P) (w:=w) rfl rfl rfl rfl hr) T.a6 boot_set rfl #[↑2])])))))))|?_]
  show bv _ _ _ [some (.str (Str.join nl rows)),none,none,none,none] H;refine am λD1 k1 r1=>?_
  lk;refine%[rows,rfl,c|λR H1 s1 f1 hR=>k1 _ _ (am λD2 k2 r2=>?_)];lk;refine%[Xh _|λL hL=>k2 _ _ (am λD3 k3 r3=>aw λbm hK=>?_)];have s2:=af.upd (o:= .lst []) hL;have C:=s2 _ _ hR;have G:upd H1 L (.lst []) L=some (.lst []):=aa;have fL:H L=none:=s1.free hL;have ab:=s1.trans s2
  generalize upd H1 L (.lst [])=H2 at s2 C G ab
  lk;refine .inl %[_,SqL.of C|λp hp=>?_];rw[xx rows a8];have s3:=af.upd (o:= .lst ((rows.drop 1).map V.str)) hp;have I:=s3 _ _ C;have ac:=s3 _ _ G;have J:upd H2 p (.lst ((rows.drop 1).map V.str)) p=some (.lst ((rows.drop 1).map V.str)):=aa;have ag:=ab.trans s3;have a9:L≠R:=λe=>by rw[e,hR]at hL;cases hL
  have bb:p≠L:=λe=>by rw[e,G]at hp;cases hp
  generalize upd H2 p (.lst ((rows.drop 1).map V.str))=H3 at s3 I ac J ag
  refine%[%[_|SqL.of I],%[_|SqL.of J]|hK _ _ (zP (xs:=rows.map V.str) (ys:=(rows.drop 1).map V.str) (λi σ l=>(∃o3 o4,σ=[some (.str (Str.join nl rows)),!R,!L,o3,o4])/\af H l/\l R=some (.lst (rows.map V.str))/\l p=some (.lst ((rows.drop 1).map V.str))/\
   ∃ps:ZG,l L=some (.lst (ps.map λq=>V.ref q.1))/\ba l ps/\ps.map (·.2)=dR rows i/\ps.length<=40*i) %[%[none,none|rfl],ag,I,J,[],ac,iT _,rfl|Xh _] (by rw[Z6,Z6,Yk];lia) (λi σ l _ q=>%[SqL.of q.2.2.1|SqL.of q.2.2.2.1]) ?_ ?_)]
  .rintro i x y TT σ l hx hy ⟨⟨o3,o4,rfl⟩,sm,al,an,ps,M,g,n,as⟩ hT;rw[Zl]at hx hy;obtain⟨u,hu,rfl⟩:=map_eq_some_iff.mp hx;obtain⟨r,v,rfl⟩:=map_eq_some_iff.mp hy;rw[Yc,Nat.add_comm]at v;have b0:i+1<rows.length:=(Xo v).1;have ul:u.length=wd:=Y u (Z8 hu);have rl:r.length=wd:=Y r (Z8 v);have j:=af.upd (o:= .tup [V.str u,V.str r]) hT;have a0:upd l TT (.tup [V.str u,V.str r]) TT=some (.tup [V.str u,V.str r]):=aa;have a1:=j _ _ al;have a2:=j _ _ an;have t:=j _ _ M;have B:ba (upd l TT (.tup [V.str u,V.str r])) ps:=aV g λb z e=>j _ _ e
   have a3:=sm.trans j
   generalize upd l TT (.tup [V.str u,V.str r])=HT at j a0 a1 a2 t B a3
   refine%[_,SqT.of a0,rfl,_,_,rfl,_,_,rfl,rfl|?_];refine aA λD4 k4 r4=>?_
   lk;refine%[.inl %[_|SqL.of t],u,r,rfl,⋯,⋯|λl4 H4 ps4 U f4 h4 a4 e4=>?_];have b1:l4≠L:=λe=>by rw[e,t]at f4;cases f4
   have br:ps4.length<=40:=by
    have:(ps4.map (·.2)).length=(kS u r).length:=by rw[e4]
    rw[Z6]at this;have:=uP u r
    lia
   refine%[_,rfl,_,U _ _ t,_,h4,by rw[Z6,Z6];exact bE ⋯|k4 _ _ ?_];have N:∀b z,H4 b=some (.tup z)->upd H4 L (.lst ((ps.map λq=>V.ref q.1) ++ps4.map λq=>V.ref q.1)) b=some (.tup z):=λb z e=>by
    have:b≠L:=λe2=>by rw[e2,U _ _ t]at e;cases e
    rw[ap this];exact e
   have bc:R≠L:=Ne.symm a9;refine%[%[_,_|rfl],λb u' e=>?_,(ap bc)▸U _ _ a1,(ap bb)▸U _ _ a2,ps++ps4,by rw[aa,Zd],aV (sQ (aV B λb z e=>U _ _ e) a4) N,?_|by rw[Z9];lia]
   .rw[ap (av e fL)];exact U _ _ (a3 _ _ e)
   .rw[Zd,n,e4,qL];have g1:rows.getD i ⟨([].toArray)⟩=u:=by rw[Zc,hu];rfl
    have g2:rows.getD (i+1) ⟨([].toArray)⟩=r:=by rw[Zc,v];rfl
    rw[g1,g2]
  .rintro σ l ⟨⟨o3,o4,rfl⟩,sm,al,an,ps,M,g,n,as⟩;rw[Z6,Yk]at n;refine k3 _ _ ?_;lk;have O:∀q∈ps,∃a b,q.2=[sgn a,sgn b]/\Bs rows a b:=λq d=>xv (n▸Xs %[q,d|rfl])
   have a5:∀q∈ps,q.2∈mm:=λq d=>by
    obtain⟨a,b,e,h⟩:=O q d;rw[e];exact a7 a b h
   refine%[ps,SqL.of M,g,%[mm,⋯|a5]|λl5 bf=>?_];have s5:=af.upd (o:=m9 P w l5 (bg ps)) bf;have few:(bg ps).length<=26:=by
    have:=STab.nodup_sub (dP ps) (m:=mm) λk hk=>by
     obtain⟨q,d,rfl⟩:=Xr hk;exact a5 q (bu ps q d)
    rw[Z6]at this
    lia
   refine%[bg ps,aa,λq d=>%[(g q (bu ps q d)).1|s5 _ _ (g q (bu ps q d)).2],2,λq d=>?_,by decide,⋯|λl6 ss a6 pm so=>?_]
   .obtain⟨a,b,e,_⟩:=O q (bu ps q d);rw[e];rfl
   have s6:=af.upd (o:= .lst (ss.map λq=>V.ref q.1)) a6;refine kk l6 _ ss ((sm.trans s5).trans s6) ((sm.trans s5).free a6) aa (λq d=>?_) (pm.length_eq▸few) (λq d=>?_) λk=>?_
   .have:=g q (bu ps q (pm.mem_iff.mp d));exact%[this.1|s6 _ _ (s5 _ _ this.2)]
   .obtain⟨a,b,e,h⟩:=O q (bu ps q (pm.mem_iff.mp d));exact%[a,b,e|xw c h]
   .rw[(pm.map _).mem_iff,gT,n]
noncomputable def d5(z:Str):Bool:=(decide (1<=(z.length:Int))&&decide ((z.length:Int)<=8))&&z.cps.toList.all iL
def uR:Sp:=λvs H Q _=>∃z:Str,vs=[.str z]/\d5 z=true/\∀a,af H a->Q (.bl true) a
def zQ(K:ZA):Sp:=λvs H Q _=>∃(z:Str) (p:Addr) (ts:ZB),vs=[.str z,.ref p]/\(SqL K H p (ts.map V.str)\/SqT K H p (ts.map V.str))/\Q (.bl (decide (z∈ts))) H
def uS:Sp:=λvs H Q _=>∃i:Int,vs=[.int i]/\ -9999<=i/\i<=9999/\Q (.bl true) H
def pM(c:ZB)(vs:ZM):Prop:=
 (∃w a b:Str,vs=[.str w,.str a,.str b]/\(w="later"\/w="same")/\a∈c/\b∈c/\a≠b)\/
 ∃w a y,vs=[.str w,.str a,.int y]/\(w="since"\/w="by")/\a∈c/\ -9999<=y/\y<=9999
def qM(K:ZA):Sp:=λvs H Q _=>∃t p xs a,vs=[.ref t,.ref p]/\H t=some (.tup xs)/\SqL K H p (a.map V.str)/\pM a xs/\Q (.bl true) H
noncomputable def lnS(n z:Str):Str:=Str.empty++n++Str.ofString "."++z
def ot:Sp:=λvs H Q _=>∃n z:Str,vs=[.str n,.str z]/\n.length<=100/\z.length<=100/\Q (.str (lnS n z)) H
theorem vG(z:Str)(ts:ZB):inV (V.str z) (ts.map V.str)=decide (z∈ts):=by
 unfold inV
 induction ts with
 | nil=>rfl
 | cons c r a=>
   show((c==z)||_)=_
   grind
theorem xy(ts:ZB):(ts.map V.str).all eS=true:=by simp[eS]
theorem xz(T:Txt K mg):↥1 "is_name" ["thing"] uR:=by
 refine T.aR.cal uJ (λH vs Q E h=>?_)
 .obtain⟨z,rfl,y,k⟩:=h;refine%[rfl|λf u A outer s M=>?_];refine%[_,(QSs.h (ah (ifS (je (~~~(cbO (iI (K:=K) rfl) T.ac boot_isinstance rfl #[↑0,(blE (v:= .ty "str") rfl T.ab boot_str rfl rfl rfl)])))
   (aq (aN eBl))
   bh)
   (aq (aN (nT (t7 wA wA rfl ar ↑↑0 (gvE T.am rfl rfl)) (qe (cbO (yS (K:=K) rfl rfl) T.aa boot_all rfl #[(eE (az.of (show bP (ai i7) ["thing"] _ ["sign"] []=true from by decide +kernel)) rfl rfl (cF (K:=K) rfl ↑0) (λ_ _ _=>(aM 0 (show(["sign"]:ZB).Nodup from by decide +kernel) rfl)) (λ_ _ _=>jf) (λ_ _ _=>(iF (qg (K:=K) rfl) rfl ↑0 (gvE T.an rfl rfl))))])))))))|?_]
  show bv _ _ _ [-z] H;have a:=y;unfold d5 at a;rw[Zx,Zx]at a;obtain⟨⟨B,q⟩,b⟩:=a;have N:z.length<=8:=by have:=Zo q;lia
  lk;refine%[.type "str",.str z,true,by rfl|?_];lk;refine%[bE ⋯|?_];rw[if_pos B,if_pos q];refine aE λr C=>?_
  lk;refine C _ _ λD t=>?_
  refine bw (J:=Its z) (n:=z.cps.size) (D:=D) (λi ys l d=>(∃o,l=[o])/\af H d/\d D=some (.lst ys)/\ys=(z.cps.toList.take i).map (λc=>V.bl (iL c))) %[%[none|rfl],af.upd t,aa|rfl]
   (λi _ _ _ hi _=>hi) (λ_ _ _ _=>Zi _) ?_ ?_
  .rintro i ys l d hi ⟨⟨o,rfl⟩,m,p,g⟩ x O ⟨G,c,I,rfl⟩;subst G;lk;have j:ys.length=i:=by
    rw[g,Z6,Yo];have:z.cps.toList.length=z.cps.size:=by simp
    lia
   have L:i<1000:=by
    have:z.length=z.cps.size:=rfl
    lia
   refine CK.mk hi p (j▸aC ⋯) %[%[_|rfl],af.set m t,aa|?_];rw[yJ,g,<-i8 z i c I,Zd]
   all_goals rfl
  .rintro ys l d ⟨_,m,p,g⟩;refine%[D,rfl,(z.cps.toList.map iL),?_|?_]
   .have e:z.cps.toList.take z.cps.size=z.cps.toList:=by
     apply Zn;simp
    rw[e]at g;have:(z.cps.toList.map iL).map V.bl=ys:=by rw[g,Yu];rfl
    rw[this];exact SqL.of p
   .have e:(z.cps.toList.map iL).all id=true:=by
     rw[all_map];exact b
    rw[e];exact k d m
theorem cA(T:Txt K mg):↥1 "is_text_among" ["thing","texts"] (zQ K):=by
 refine T.b4.cal kN (λH vs Q E h=>?_)
 .obtain⟨z,p,ts,rfl,b,k⟩:=h;refine%[rfl|λf a A outer s c=>?_];refine%[_,(QSs.h (aq (aN (nT (cbO (iI (K:=K) rfl) T.ac boot_isinstance rfl #[↑0,(blE (v:= .ty "str") rfl T.ab boot_str rfl rfl rfl)]) (qe (iF (qg (K:=K) rfl) rfl ↑0 ↑1))))))|?_];show jd _ _ [some _,some _] H;lk;refine%[.type _,.str z,true,by rfl|?_];rw[<-vG]at k;exact%[_,b,rfl,xy ts|k]
theorem xA(T:Txt K mg):↥1 "is_year" ["thing"] uS:=by
 refine T.b5.cal uL (λH vs Q E h=>?_)
 .obtain⟨i,rfl,b,c,k⟩:=h;refine%[rfl|λf a A outer s d=>?_];refine%[_,(QSs.h (ah (ifS (wT (orW (je (~~~(cbO (iI (K:=K) rfl) T.ac boot_isinstance rfl #[↑0,(blE (v:= .ty "int") rfl T.ag boot_int rfl rfl rfl)]))) (mJ (~~~(cbO (iI (K:=K) rfl) T.ac boot_isinstance rfl #[↑0,(blE (v:= .ty "bool") rfl T.ah PyProof.Rows.boot_bool rfl rfl rfl)])))))
   (aq (aN eBl))
   bh)
   (aq (aN (t7 wA wA rfl (gvE T.av rfl rfl) ↑0 (gvE T.aw rfl rfl))))))|?_]
  show bv _ _ _ [some (.int i)] H;lk;refine%[.type _,.int i,true,by rfl,.type _,.int i,false,by rfl|?_];rw[if_pos (Zf b),Zf c];exact k
theorem h9(T:Txt K mg):↥1 "layer_name" ["name","letter"] ot:=by
 refine T.b6.cal om (λH vs Q E h=>?_)
 .obtain⟨n,z,rfl,j,l,k⟩:=h;refine%[rfl|λf c A outer s i=>?_];refine%[_,(QSs.h (aq (aN (BZ (pjE (Df ↑0) (pjE cm (pjE (Df ↑1) BY)))))))|?_];show jd _ _ [-n,some _] H;lk;have e:∀a b:Str,(a++b).length=a.length+b.length:=λa b=>size_append
  have d:Str.empty.length=0:=rfl;have g:(Str.ofString ".").length=1:=rfl;have le:∀k,k<=1000->k<=sizeLine:=λk m=>bE ⋯
  refine%[le _ ⋯,le _ ?_,le _ ?_,le _ ⋯,le _ ?_,le _ ?_|k]<;> simp only[e,d,g]<;> lia
theorem sR(T:Txt K mg):↥2 "is_saying" ["thing","layers"] (qM K):=by
 refine T.b3.cal qK (λH vs Q E h=>?_)
 .obtain⟨t,p,xs,e,rfl,m,g,ok,k⟩:=h;refine%[rfl|λf n A outer s c=>?_];refine%[_,(QSs.h (ah (ifS (wT (orW (je (~~~(cbO (iI (K:=K) rfl) T.ac boot_isinstance rfl #[↑0,(blE (v:= .ty "tuple") rfl T.af boot_tuple rfl rfl rfl)]))) (mJ (bF eF rfl ↑↑0 ar))))
   (aq (aN eBl))
   bh)
   (ah (ifS (~~~(aD (cA T) c rfl #[(↑0*>ar),(EV (K:=K) rfl T.bC rfl rfl)]))
   (aq (aN (nT (aD (cA T) c rfl #[(↑0*>ar),↑1]) (nT (aD (cA T) c rfl #[(↑0*>ar),↑1]) (qe (iF eF rfl (↑0*>ar) (↑0*>ar)))))))
   bh)
   (ah (ifS (~~~(aD (cA T) c rfl #[(↑0*>ar),(EV (K:=K) rfl T.bB rfl rfl)]))
   (aq (aN (nT (aD (cA T) c rfl #[(↑0*>ar),↑1]) (qe (aD (xA T) c rfl #[(↑0*>ar)])))))
   bh)
   (aq (aN eBl))))))|?_]
  show bv _ _ _ [!t,!p] H;lk;refine%[.type "tuple",.tup m,true,by rfl|?_];have st:=SqT.of (K:=K) m;rcases ok with⟨wd,a,b,rfl,hw,i,o,j⟩|⟨wd,a,y,rfl,hw,i,r,u⟩
  .have l:decide (wd∈([Str.ofString "later",Str.ofString "same"]:ZB))=true:=by rcases hw with rfl|rfl<;> decide
   lk;refine%[3,.inr %[_,st|rfl]|?_];rw[if_neg (by decide)];refine%[_,st,_,rfl|λq d=>%[wd,q,[Str.ofString "later",Str.ofString "same"],rfl,.inr (d H),_,rfl|?_]];rw[l];lk;refine%[_,st,_,rfl,a,p,e,rfl,.inl g,_,rfl|?_];rw[Zf i];lk;refine%[_,st,_,rfl,b,p,e,rfl,.inl g,_,rfl|?_];rw[Zf o];lk;refine%[_,st,_,rfl,_,st,_,rfl,rfl|?_];rw[show(!decide (V.str a=V.str b))=true from by simp[j]];exact k
  .have l:decide (wd∈([Str.ofString "later",Str.ofString "same"]:ZB))=false:=by rcases hw with rfl|rfl<;> decide
   have z:decide (wd∈([Str.ofString "since",Str.ofString "by"]:ZB))=true:=by rcases hw with rfl|rfl<;> decide
   lk;refine%[3,.inr %[_,st|rfl]|?_];rw[if_neg (by decide)];refine%[_,st,_,rfl|λq d=>%[wd,q,[Str.ofString "later",Str.ofString "same"],rfl,.inr (d H),_,rfl|?_]];rw[l];lk;refine%[_,st,_,rfl|λq d=>%[wd,q,[Str.ofString "since",Str.ofString "by"],rfl,.inr (d H),_,rfl|?_]];rw[z];lk;refine%[_,st,_,rfl,a,p,e,rfl,.inl g,_,rfl|?_];rw[Zf i];lk;exact%[_,st,_,rfl,y,rfl,r,u|k]
def bZ(H:Hp)(cs:ZH):Prop:=∀p∈cs,H p.1=some (.tup [.str p.2.1,.str (Str.join nl p.2.2)])/\d5 p.2.1=true/\bU p.2.2
theorem bZ.up(h:bZ H cs)(s:af H b):bZ b cs:=λp a=>%[s _ _ (h p a).1|(h p a).2]
def xB:Sp:=λvs H Q _=>∃rows:ZB,vs=[.str (Str.join nl rows)]/\bU rows/\∀a,af H a->Q (.bl true) a
def zR:Sp:=λvs H Q _=>∃p:Addr×Str×ZB,vs=[.ref p.1]/\bZ H [p]/\∀a,af H a->Q (.bl true) a
noncomputable def ci(cs:ZH):ZM:=cs.map λp=>V.ref p.1
def ou:Sp:=λvs H Q _=>∃l cs,vs=[.ref l]/\H l=some (.lst (ci cs))/\bZ H cs/\(cs.map λp=>p.2.1).Nodup/\1<=cs.length/\cs.length<=8/\∀a,af H a->Q .non a
def db(H:Hp)(a:ZB)(qs:ZN):Prop:=∀q∈qs,H q.1=some (.tup q.2)/\pM a q.2
theorem db.up(h:db H b qs)(s:af H c):db c b qs:=λp a=>%[s _ _ (h p a).1|(h p a).2]
def kT(K:ZA):Sp:=λvs H Q _=>∃l r a qs,vs=[.ref l,.ref r]/\H l=some (.lst (qs.map λq=>V.ref q.1))/\H r=some (.lst (a.map V.str))/\db H a qs/\qs.length<=60/\∀b,af H b->Q .non b
theorem zS(T:Txt K mg):↥3 "is_cut" ["thing"] xB:=by
 refine T.b1.cal xk (λH vs Q E h=>?_)
 .obtain⟨rows,rfl,a,k⟩:=h;refine%[rfl|λf b A outer s c=>?_];refine%[_,(QSs.h (ah (tryN (λ_ _ h=>h) (aq (bT rfl (aD (kR T) c rfl #[↑0]))))
   (aq (aN eBl))))|?_]
  show bv _ _ _ [some (.str (Str.join nl rows))] H;lk;exact%[rows,rfl,a|λl d e g i=>k d e]
theorem nE(T:Txt K mg):↥4 "is_named_cut" ["thing"] zR:=by
 refine T.b0.cal lT (λH vs Q E h=>?_)
 .obtain⟨p,rfl,g,k⟩:=h;refine%[rfl|λf e A outer s c=>?_];obtain⟨b,i,a⟩:=g p (mem_singleton.mpr rfl);refine%[_,(QSs.h (aq (aN (nT (cbO (iI (K:=K) rfl) T.ac boot_isinstance rfl #[↑0,(blE (v:= .ty "tuple") rfl T.af boot_tuple rfl rfl rfl)]) (nT (iF cR rfl ↑↑0 ar) (nT (aD (xz T) c rfl #[(↑0*>ar)]) (qe (aD (zS T) c rfl #[(↑0*>ar)]))))))))|?_];show jd _ _ [some _] H;lk;refine%[.type _,.tup b,true,by rfl|?_];have st:=SqT.of (K:=K) b;refine%[2,.inr %[_,st|rfl],_,st,_,rfl,p.2.1,rfl,i|λm d=>?_];lk;exact%[_,SqT.of (d _ _ b),_,rfl,p.2.2,rfl,a|λj l=>k j (d.trans l)]
theorem qN(T:Txt K mg):↥5 "check_cuts" ["cuts"] ou:=by
 refine T.aZ.cal dQ (λH vs Q E h=>?_)
 .obtain⟨l,cs,rfl,B,J,L,h1,h8,k⟩:=h;refine%[rfl|λf an A outer s I=>?_];have t:(ci cs).length=cs.length:=Z6 _;refine%[_,(QSs.h (ah (ifS (wT (orW (je (~~~(cbO (iI (K:=K) rfl) T.ac boot_isinstance rfl #[↑0,(blE (v:= .ty "list") rfl T.a5 boot_list rfl rfl rfl)]))) (mJ (bF cR rfl ↑↑0 ar))))
   (aq gK)
   bh)
   (ah (aI 1 dQ.nd rfl mI)
   (aq (cP PassesOwn.never rfl rfl (vp (K:=K) rfl rfl T.ad rfl #[↑0]) (fD (K:=K) rfl rfl rfl (gsE rfl (aM 2 dQ.nd rfl) (gsE rfl (aM 3 dQ.nd rfl) cO)))
   (ah (ifS (wT (orW (bF cR rfl ↑2 (gvE T.ar rfl rfl)) (orW (je (~~~(aD (nE T) I rfl #[↑3]))) (mJ (dinT I rfl (↑3*>ar) ↑1)))))
    (aq gK)
    bh)
    (aq (lF I rfl eBl ↑1 (↑3*>ar)))))))))|?_]
  show bv _ _ _ [!l,none,none,none] H;refine am λD1 k1 _=>?_
  lk;refine%[.type "list",.lst B,true,by rfl|?_];lk;refine%[cs.length,.inl %[_,SqL.of B|t.symm]|?_];rw[if_neg (by simp only[decide_eq_true_eq];lia)];refine k1 _ _ (am λD2 k2 _=>?_);lk;refine λd M=>k2 _ _ (aA λD3 k3 _=>aw λal hK=>?_)
  lk;refine%[_,SqL.of (af.upd M _ _ B)|hK _ _ (jS (λi C c=>∃N O a,C=[!l,!d,N,O]/\af H c/\c d=some (.dK a)/\a.map (·.1)=(cs.take i).map λp=>Sum.inr p.2.1) %[none,none,[],rfl,af.upd M,aa|rfl] (λi C c _ ⟨_,_,_,_,q,_⟩=>SqL.of (q _ _ B)) ?_ ?_)]
  .rintro i x TT C c G ⟨N,O,a,rfl,U,u,g⟩ hT;have hi:i<cs.length:=t▸(Xo G).1;obtain⟨q,Y,rfl⟩:∃q,cs[i]? =some q/\x=V.ref q.1:=by
    unfold ci at G;rw[Zl,Z4 hi]at G;exact%[cs[i],Z4 hi|(Za G).symm]
   have b:af H (upd c TT (.tup [.int i,.ref q.1])):=U.trans (af.upd hT);have y:upd c TT (.tup [.int i,.ref q.1]) TT=some (.tup [.int i,.ref q.1]):=aa;have r:=af.upd (o:= .tup [.int i,.ref q.1]) hT _ _ u
   generalize upd c TT (.tup [.int i,.ref q.1])=HT at b r y
   have m:=J q (Z8 Y);refine%[_,SqT.of y,rfl,_,_,rfl,_,_,rfl,rfl|?_];show bv _ _ _ [!l,!d,some (.int i),some (.ref q.1)] HT;refine am λD4 k4 _=>?_
   lk;rw[if_neg (by simp only[decide_eq_true_eq];lia)];refine%[q,rfl,λp hp=>(Xq hp)▸%[b _ _ m.1|m.2]|λH2 z=>%[true,rfl|?_]];rw[if_neg ∅];have n:(Sum.inr q.2.1:Key)∉a.map (·.1):=by
    rw[g];intro hm;obtain⟨q',ab,e⟩:=Xr hm;have e:q'.2.1=q.2.1:=Sum.inr.inj e;obtain⟨j,hj⟩:=Xi ab;have ac:j<i:=by
     have:=(Xo hj).1;rw[Yo]at this
     lia
    rw[List.getElem?_take_of_lt ac]at hj;have n1:(cs.map λp=>p.2.1)[j]? =some q.2.1:=by rw[Zl,hj,<-e];rfl
    have:=mr L n1 (by rw[Zl,Y];rfl)
    lia
   refine%[_,SqT.of (z _ _ (b _ _ m.1)),_,rfl,_,dC.k (k:=Sum.inr q.2.1) (z _ _ r)|?_];have hv:cE a (Sum.inr q.2.1:Key)=none:=by
    cases e:cE a (Sum.inr q.2.1:Key)with
    | none=>rfl
    | some v=>exact absurd (AT e) n
   rw[hv,if_neg ∅];refine k4 _ _ (aA λD5 k5 _=>?_);lk;have ag:a.length=i:=by
    have:=congrArg List.length g;rw[Z6,Z6,Yo]at this
    lia
   refine%[_,SqT.of (z _ _ (b _ _ m.1)),_,rfl,_,lN.k (k:=Sum.inr q.2.1) (z _ _ r) (ag▸aC ⋯)|k5 _ _ %[_,_,_,rfl,af.set (b.trans z) M,aa|?_]];rw[wV,if_neg n,g,Xd,Zd,Y];rfl
  .rintro C c ⟨N,O,a,rfl,U,u,g⟩;exact k3 _ _ (k c U)
theorem lU(T:Txt K mg):↥3 "check_sayings" ["sayings","layers"] (kT K):=by
 refine T.b2.cal dI (λH vs Q E h=>?_)
 .obtain⟨l,r,u,qs,rfl,g,j,m,C,k⟩:=h;refine%[rfl|λf z A outer s B=>?_];refine%[_,(QSs.h (ah (ifS (je (~~~(cbO (iI (K:=K) rfl) T.ac boot_isinstance rfl #[↑0,(blE (v:= .ty "list") rfl T.a5 boot_list rfl rfl rfl)])))
   (aq gK)
   bh)
   (aq (cP PassesOwn.never rfl rfl (vp (K:=K) rfl rfl T.ad rfl #[↑0]) (fD (K:=K) rfl rfl rfl (gsE rfl (aM 2 dI.nd rfl) (gsE rfl (aM 3 dI.nd rfl) cO)))
   (aq (ifS (wT (orW (bF cR rfl ↑2 (gvE T.au rfl rfl)) (mJ (je (~~~(aD (sR T) B rfl #[↑3,↑1]))))))
    (aq gK)
    bh))))))|?_]
  show bv _ _ _ [!l,!r,none,none] H;refine am λN k1 _=>?_
  lk;refine%[.type "list",.lst g,true,by rfl|?_];lk;refine k1 _ _ (aA λO G _=>aw λy I=>?_);lk;refine%[_,SqL.of g|I _ _ (jS (λi e b=>∃n o,e=[!l,!r,n,o]/\af H b) %[none,none,rfl|af.refl H] (λi e b _ ⟨_,_,_,q⟩=>SqL.of (q _ _ g)) ?_ ?_)]
  .rintro i x TT e b p ⟨n,o,rfl,t⟩ J;have hi:i<qs.length:=(Z6 _)▸(Xo p).1;obtain⟨q,L,rfl⟩:∃q,qs[i]? =some q/\x=V.ref q.1:=by
    rw[Zl,Z4 hi]at p;exact%[qs[i],Z4 hi|(Za p).symm]
   have a:af H (upd b TT (.tup [.int i,.ref q.1])):=t.trans (af.upd J);have c:upd b TT (.tup [.int i,.ref q.1]) TT=some (.tup [.int i,.ref q.1]):=aa
   generalize upd b TT (.tup [.int i,.ref q.1])=HT at a c
   have d:=m q (Z8 L);refine%[_,SqT.of c,rfl,_,_,rfl,_,_,rfl,rfl|?_];show lL _ _ _ _ [!l,!r,some (.int i),some (.ref q.1)] HT;refine aA λU M _=>?_
   lk;rw[if_neg ⋯];refine%[q.1,r,q.2,u,rfl,a _ _ d.1,SqL.of (a _ _ j),d.2,true,rfl|?_];rw[if_neg ∅];exact M _ _ %[_,_,rfl|a]
  .rintro e b ⟨n,o,rfl,t⟩;exact G _ _ (k b t)
noncomputable def lyr(p:Addr×Str×ZB):ZB:=(aK ((cV p.2.2).map sgn)).map (lnS p.2.1)
def qO:Sp:=λvs H Q _=>∃l cs,vs=[.ref l]/\H l=some (.lst (ci cs))/\bZ H cs/\cs.length<=3/\(cs.flatMap lyr).length<=80/\∀r c (d:ZB),af H c->H r=none->c r=some (.lst (d.map V.str))->d.Perm (cs.flatMap lyr)->d.Pairwise (λa b=>aX b a=false)->Q (.ref r) c
def fz(c:ZB)(k:ZB):Prop:=∃a b z,k=[a,b,z]/\a∈c/\b∈c
def Sml(z:Str):Prop:=z.length<=30/\∀c∈z.cps.toList,c<16^8
def xC(a:ZB)(k:ZB):Prop:=fz a k/\∀z∈k,Sml z
theorem sS(h:d5 z=true):Sml z:=by
 unfold d5 at h;rw[Zx,Zx]at h;refine%[⋯|λc a=>?_];have:=(kB.mp (all_eq_true.mp h.2 c a)).2
 lia
theorem Sml.app{a b:Str}(f:∀c∈a.cps.toList,c<16^8)(g:∀c∈b.cps.toList,c<16^8):∀c∈(a++b).cps.toList,c<16^8:=λc d=>by
 have e:(a++b).cps.toList=a.cps.toList++b.cps.toList:=Xg;rw[e]at d;exact(Xp d).elim (f c) (g c)
theorem Bx(h:c<1000):∀x∈(sgn c).cps.toList,x<16^8:=λx a=>by
 have e:=by simpa [sgn]using a
 lia
theorem kU{c:Nat}(h:d5 n=true)(d:c<1000):Sml (lnS n (sgn c)):=by
 have e:∀a b:Str,(a++b).length=a.length+b.length:=λa b=>size_append
 have l:n.length<=8:=by
  unfold d5 at h
  grind
 refine%[?_|Sml.app (Sml.app (Sml.app (λc d=>(nomatch d)) (sS h).2) (by decide +kernel)) (Bx d)];unfold lnS;rw[e,e,e,show Str.empty.length=0 from rfl,show(Str.ofString ".").length=1 from rfl,show(sgn c).length=1 from rfl]
 lia
theorem uT(h:bU rows)(l:Let rows c):c<1000:=by
 have:=(kB.mp (kC h.sign c (gC.mpr l))).2
 lia
theorem By(b:d5 p.2.1=true)(d:bU p.2.2):∀z∈lyr p,Sml z:=λz e=>by
 obtain⟨y,f,rfl⟩:=Xr e;obtain⟨c,a,rfl⟩:=Xr (bx.mp f);exact kU b (uT d (gC.mp a))
theorem DN(e:Sml a)(f:Sml b)(g:Sml c):∀z∈[a,b,c],Sml z:=λz d=>by
 simp only[Yy,X9,or_false]at d;rcases d with rfl|rfl|rfl
 .exact e
 .exact f
 .exact g
theorem Bz(i:Nat)(h:i<=100):Sml (Str.empty++Str.ofString "#"++Str.ofString (toString (i:Int))):=by
 have all:∀j:Fin 101,Sml (Str.empty++Str.ofString "#"++Str.ofString (toString ((j.1)))):=by
  unfold Sml;decide +kernel
 exact all %[i|⋯]
theorem fz.three(h:fz c k):k.length=3:=by
 obtain⟨a,b,z,rfl,_⟩:=h;rfl
theorem fz.mono(h:fz c k)(s:∀x∈c,x∈d):fz d k:=by
 obtain⟨a,b,z,e,f,g⟩:=h;exact%[a,b,z,e,s a f|s b g]
theorem vH(h:Let p.2.2 a):lnS p.2.1 (sgn a)∈lyr p:=
 Xs %[_,bx.mpr (Xs %[a,gC.mpr h|rfl])|rfl]
noncomputable def sT(n:Str)(k:ZB):ZB:=k.map (lnS n) ++[n]
noncomputable def DO(i:Nat):Str:=Str.empty++Str.ofString "#"++Str.ofString (toString (i:Int))
noncomputable def fM(cs:ZH):List ZB:=cs.flatMap λp=>(dR p.2.2 (p.2.2.length-1)).map (sT p.2.1)
noncomputable def nF(i:Nat):ZM->Option ZB
 |[.str w,.str a,.str b]=>if w=Str.ofString "later" then some [a,b,DO i]else none
 | _=>none
noncomputable def ic(qs:ZN)(n:Nat):List ZB:=(List.range n).filterMap λj=>qs[j]?.bind λq=>nF j q.2
theorem qP{cs:List _}{i:Nat}{q:Addr×Str×ZB}(a:cs[i]? =some q):fM (cs.take (i+1))=fM (cs.take i) ++(dR q.2.2 (q.2.2.length-1)).map (sT q.2.1):=by
 unfold fM;rw[Xd,a,flatMap_append];show _++([q].flatMap _)=_;rw[List.flatMap_singleton]
theorem ig(a:qs[i]? =some q):ic qs (i+1)=ic qs i++(nF i q.2).toList:=by
 unfold ic;rw[Xc,List.filterMap_append];refine congrArg _ ?_;rw[Y3,a];rw[Option.bind_some];cases nF i q.2<;> rfl
def qQ:Sp:=λvs H Q _=>∃l cs,vs=[.ref l]/\H l=some (.lst (ci cs))/\bZ H cs/\(∀p∈cs,sK p.2.2)/\cs.length<=3/\∀r a ts,af H a->H r=none->a r=some (.lst (ts.map λt=>V.ref t.1))->ba a ts->(∀t∈ts,xC (cs.flatMap lyr) t.2)->ts.length<=78->(∀k,k∈ts.map (·.2)↔k∈fM cs)->Q (.ref r) a
def qR:Sp:=λvs H Q _=>∃l b qs,vs=[.ref l]/\H l=some (.lst (qs.map λq=>V.ref q.1))/\db H b qs/\(∀z∈b,Sml z)/\qs.length<=80/\∀r a ts,af H a->H r=none->a r=some (.lst (ts.map λt=>V.ref t.1))->ba a ts->(∀t∈ts,xC b t.2)->ts.length<=qs.length->ts.map (·.2)=ic qs qs.length->Q (.ref r) a
theorem kg{z:Str}(h:d5 z=true):z.length<=8:=by
 unfold d5 at h;rw[Zx,Zx]at h;have:=Zo h.1.2
 lia
theorem ii{cs:List Nat}{z:Str}(h:z∈aK (cs.map sgn)):∃c∈cs,z=sgn c:=by
 have:=bx.mp h;obtain⟨c,a,rfl⟩:=Xr this;exact%[c,a|rfl]
theorem sU(T:Txt K mg):↥4 "layers_of" ["cuts"] qO:=by
 refine T.b7.cal eL (λH vs Q E h=>?_)
 .obtain⟨l,cs,rfl,hl,O,h8,an,k⟩:=h;refine%[rfl|λf al A outer s hr=>?_];have t:(ci cs).length=cs.length:=Z6 _;refine%[_,(QSs.h (ah (aI 1 eL.nd rfl (cQ ak))
   (ah (cP PassesOwn.never rfl rfl (cF (K:=K) rfl ↑0) (fD (K:=K) rfl rfl rfl (gsE rfl (mK 2 eL.nd rfl Z1 Z0) (gsE rfl (aM 3 eL.nd rfl) cO)))
   (aq (bT rfl (bmO (K:=K) plainAttrs_list PySem.F.slot_list_extend PySem.F.type_list_extend rF rfl ↑1 #[(eE (az.of (show bP (ai fJ) ["cuts","layers","name","text"] _ ["letter","name"] [(1,2)]=true from by decide +kernel)) rfl rfl (cF (K:=K) rfl (aD (xu T) hr rfl #[↑3])) (λ_ _ _=>(aM 0 (show(["letter","name"]:ZB).Nodup from by decide +kernel) rfl)) (λ_ _ _=>jf) (λ_ _ _=>(aD (h9 T) hr rfl #[dU 1 rfl,↑0])))]))))
   (aq (aN (cbO (wX (K:=K) rfl) T.a7 boot_sorted rfl #[↑1]))))))|?_]
  show bv _ _ _ [!l,none,none,none] H;refine am λD1 k1 _=>?_
  lk;refine%[Xh _|λL U=>k1 _ _ (am λD2 k2 _=>aw λu Y=>?_)];lk;refine .inl %[%[_|SqL.of (af.upd U _ _ hl)]|Y _ _ (bj (λi d a=>∃o2 o3,d=[!l,!L,o2,o3]/\af H a/\∃e:ZB,a L=some (.lst (e.map V.str))/\e.Perm ((cs.take i).flatMap lyr)/\e.length<=26*i)
   %[none,none,rfl,af.upd U,[],aa,List.Perm.refl _|Xh _] (λi d a _ ⟨_,_,_,q,_⟩=>SqL.of (q _ _ hl)) ?_ ?_)]
  .rintro i x d a g ⟨o2,o3,rfl,v,e,M,y,ab⟩;have hi:i<cs.length:=t▸(Xo g).1;obtain⟨q,m,rfl⟩:∃q,cs[i]? =some q/\x=V.ref q.1:=by
    unfold ci at g;rw[Zl,Z4 hi]at g;exact%[cs[i],Z4 hi|(Za g).symm]
   have b:=O q (Z8 m);refine%[_,SqT.of (v _ _ b.1),rfl,_,_,rfl,_,_,rfl,rfl|aA λD3 k3 _=>?_];show jJ _ _ [!l,!L,some (.str q.2.1),some (.str (Str.join nl q.2.2))] a;lk;refine%[.inl %[_|SqL.of M]|aE λu Y=>?_];lk;refine%[q.2.2,rfl,b.2.2|λl2 H2 ss s2 f2 N p2 q2=>?_];lk;refine .inl %[%[_|SqL.of N]|Y _ _ λF hF=>?_];have few:ss.length<=26:=p2.length_eq▸mP λc hc=>kC b.2.2.sign c hc
   have one:∀z∈ss,z.length=1:=λz hz=>by
    obtain⟨c,_,rfl⟩:=ii (p2.mem_iff.mp hz);rfl
   refine bw (J:=Itl K l2) (n:=ss.length) (D:=F) (λj ts d a=>(∃o,d=[o,some (.str q.2.1)])/\af H2 a/\a F=some (.lst ts)/\ts=((ss.take j).map (lnS q.2.1)).map V.str)
    %[%[none|rfl],af.upd hF,aa|rfl]
    (λj _ _ a B m=>%[_,V.str ss[j],SqL.of (m.2.1 _ _ N)|by simp]) (λ_ _ a m=>%[_,SqL.of (m.2.1 _ _ N)|by simp]) ?_ ?_
   .rintro j ts d H3 B ⟨⟨o,rfl⟩,C,ac,p⟩ x H4 ⟨e2,g⟩;subst e2;have G:=g _ (SqL.of (C _ _ N));rw[Zl,Z4 B]at G;obtain rfl:x=V.str ss[j]:=(Za G).symm;lk;refine%[_,_,rfl,by have:=kg b.2.1;lia,by rw[one _ (Yf B)];decide|CK.mk B ac (by rw[p,Z6,Z6,Yo];exact aC ⋯) %[%[_|rfl],af.set C hF,aa|?_]];rw[p,Xd,Zd,Zd,Z4 B];rfl
   rintro ts d H3 ⟨_,C,ag,p⟩;rw[Zn (Zi _)]at p;lk;refine%[_,C _ _ (s2 _ _ M),_,ag,(by rw[p,Z6,Z6,Z6];exact bE ⋯)|k3 _ _ %[_,_,rfl,af.set (v.trans (s2.trans C)) U,e++ss.map (lnS q.2.1),?_,?_|?_]]
   .rw[aa,p,Zd]
   .rw[Xd,m,flatMap_append];refine y.append ?_;show List.Perm _ ([q].flatMap lyr);rw[List.flatMap_singleton];exact p2.map _
   .rw[Z9,Z6]
    lia
  .rintro d a ⟨o2,o3,rfl,v,e,M,y,ab⟩;refine k2 _ _ ?_;lk;rw[t,Zn (Zi _)]at y;exact%[e,SqL.of M,by rw[y.length_eq];lia|λr ss I p' q'=>k r _ ss (v.trans (af.upd I)) (v.free I) aa (p'.trans y) q']
theorem nG(T:Txt K mg):↥4 "ties_of_cuts" ["cuts"] qQ:=by
 refine T.b8.cal bS (λH vs Q E h=>?_)
 .obtain⟨l,cs,rfl,hl,a4,a5,h8,k⟩:=h;refine%[rfl|λf a7 A outer s hr=>?_];have ac:(ci cs).length=cs.length:=Z6 _;refine%[_,(QSs.h (ah (aI 1 bS.nd rfl (cQ ak))
   (ah (cP PassesOwn.never rfl rfl (cF (K:=K) rfl ↑0) (fD (K:=K) rfl rfl rfl (gsE rfl (aM 2 bS.nd rfl) (gsE rfl (aM 3 bS.nd rfl) cO)))
   (aq (cP PassesOwn.never rfl rfl (cF (K:=K) rfl (aD (uQ T) hr rfl #[↑3])) (fD (K:=K) rfl rfl rfl (gsE rfl (aM 4 bS.nd rfl) (gsE rfl (aM 5 bS.nd rfl) cO)))
    (aq (bT rfl (bmO (K:=K) plainAttrs_list PySem.F.slot_list_append PySem.F.type_list_append aS rfl ↑1 #[eV #[aD (h9 T) hr rfl #[↑2,↑4],aD (h9 T) hr rfl #[↑2,↑5],↑2]]))))))
   (aq (aN ↑1)))))|?_]
  show bv _ _ _ [!l,none,none,none,none,none] H;refine am λD1 k1 _=>?_
  lk;refine%[Xh _|λL hL=>k1 _ _ (am λD2 k2 _=>aw λag hK=>?_)];lk;refine .inl %[%[_|SqL.of (af.upd hL _ _ hl)]|hK _ _ (bj (λi B G=>∃o2 o3 o4 I,B=[!l,!L,o2,o3,o4,I]/\af H G/\∃ts:ZG,G L=some (.lst (ts.map λt=>V.ref t.1))/\ba G ts/\(∀t∈ts,xC (cs.flatMap lyr) t.2)/\ts.length<=26*i/\∀k,k∈ts.map (·.2)↔k∈fM (cs.take i))
   %[none,none,none,none,rfl,af.upd hL,[],aa,iT _,λt ht=>(nomatch ht),Xh _|λk=>Iff.rfl] (λi B G _ ⟨_,_,_,_,_,q,_⟩=>SqL.of (q _ _ hl)) ?_ ?_)]
  .rintro i x B G J ⟨o2,o3,o4,I,rfl,sm,ts,hm,O,U,al,d⟩;have hi:i<cs.length:=by rw[<-ac];exact(Xo J).1
   obtain⟨q,hq,rfl⟩:∃q,cs[i]? =some q/\x=V.ref q.1:=by
    unfold ci at J;rw[Zl,Z4 hi]at J;exact%[cs[i],Z4 hi|(Za J).symm]
   have g:=a4 q (Z8 hq);refine%[_,SqT.of (sm _ _ g.1),rfl,_,_,rfl,_,_,rfl,rfl|?_];refine aA λD3 k3 _=>?_
   show vW _ _ _ _ [!l,!L,some (.str q.2.1),some (.str (Str.join nl q.2.2)),o4,I] G;refine aw λag hK=>?_
   lk;have qm:=Z8 hq;refine%[q.2.2,rfl,g.2.2,a5 q qm|?_];intro l2 H2 ss s2 f2 h2 t2 few an all2;have a6:=kg g.2.1;have as:l2≠L:=λe=>by rw[e,hm]at f2;cases f2
   have a0:(ss.map λp=>V.ref p.1).length=ss.length:=Z6 _;refine .inl %[l2,rfl,%[_|SqL.of h2]|hK _ _ (bj (xs:=ss.map λp=>V.ref p.1) (λj B n=>∃o4 I,B=[!l,!L,some (.str q.2.1),some (.str (Str.join nl q.2.2)),o4,I]/\af H n/\n l2=some (.lst (ss.map λp=>V.ref p.1))/\ba n ss/\∃c:ZG,n L=some (.lst (c.map λt=>V.ref t.1))/\ba n c/\(∀t∈c,xC (cs.flatMap lyr) t.2)/\c.length<=26*i+j/\c.map (·.2)=ts.map (·.2) ++((ss.take j).map (·.2)).map (sT q.2.1))
    %[_,_,rfl,sm.trans s2,h2,t2,ts,s2 _ _ hm,aV O λb z e=>s2 _ _ e,U,⋯|(Zz _).symm] (λj B n _ ⟨_,_,_,_,q,_⟩=>SqL.of q) ?_ ?_)]
   .rintro j x B n J ⟨o4,I,rfl,Y,a1,r,c,C,u,ab,v,m⟩;have hj:j<ss.length:=a0▸(Xo J).1;rw[Zl,Z4 hj]at J;obtain rfl:x=V.ref ss[j].1:=(Za J).symm;have M:=Yf hj;obtain⟨a,b,a2,la,lb⟩:=an _ M;have N:=(r _ M).2;rw[a2]at N;refine%[_,SqT.of N,rfl,_,_,rfl,_,_,rfl,rfl|aA λD4 k4 _=>?_];show jJ _ _ [!l,!L,some (.str q.2.1),some (.str (Str.join nl q.2.2)),some (.str (sgn a)),some (.str (sgn b))] n;lk;refine%[.inl %[_|SqL.of C],q.2.1,sgn a,rfl,⋯,(show 1<=100 by decide)|?_];lk;refine%[q.2.1,sgn b,rfl,⋯,(show 1<=100 by decide)|?_];lk;refine%[#[3]|λp hp=>?_];have sp:=af.upd (o:= .tup [V.str (lnS q.2.1 (sgn a)),V.str (lnS q.2.1 (sgn b)),V.str q.2.1]) hp;have gp:upd n p (.tup [V.str (lnS q.2.1 (sgn a)),V.str (lnS q.2.1 (sgn b)),V.str q.2.1]) p=_:=aa
    generalize upd n p _=H4 at sp gp
    have a3:=sp _ _ C;have y:∀b z,H4 b=some (.tup z)->upd H4 L (.lst (c.map (λt=>V.ref t.1) ++[V.ref p])) b=some (.tup z):=λb z e=>by
     have:b≠L:=λe2=>by rw[e2,a3]at e;cases e
     rw[ap this];exact e
    refine%[_,a3,by rw[Z6];exact Nat.lt_of_le_of_lt (show c.length<=10000 by lia) (by decide)|k4 _ _ %[_,_,rfl,af.set (Y.trans sp) hL,(ap as)▸sp _ _ a1,aV (aV r λb z e=>sp _ _ e) y,c++[(p,[lnS q.2.1 (sgn a),lnS q.2.1 (sgn b),q.2.1])],?_,?_,?_,?_|?_]]
    .rw[aa,Zd];rfl
    .exact aV (i9 (aV u λb z e=>sp _ _ e) ∅ gp) y
    .intro t ht;rcases Xp ht with z|z
     .exact ab t z
     .rw[Xq z];exact%[%[_,_,_,rfl,mem_flatMap.mpr %[q,qm|vH la]|mem_flatMap.mpr %[q,qm|vH lb]]|DN (kU g.2.1 (uT g.2.2 la)) (kU g.2.1 (uT g.2.2 lb)) (sS g.2.1)]
    .rw[Z9,Yn];lia
    .rw[Zd,m,Ze,Xd,Z4 hj,Zd,Zd];show _++(_++[_])=_++(_++[sT q.2.1 ss[j].2]);rw[a2];rfl
   .rintro B n ⟨o4,I,rfl,Y,a1,r,c,C,u,ab,v,m⟩;rw[a0]at v m;rw[Zn (Zi _)]at m;refine k3 _ _ %[_,_,_,_,rfl,Y,c,C,u,ab,⋯|λk=>?_];rw[m,qP hq,Yv,Yv,d,mem_map,mem_map];exact or_congr Iff.rfl (exists_congr λz=>and_congr_left λ_=>all2 z)
  .rintro B G ⟨o2,o3,o4,I,rfl,sm,ts,hm,O,U,al,d⟩;refine k2 _ _ ?_;lk;rw[ac]at al d;rw[Zn (Zi _)]at d;exact k L G ts sm hL hm O U ⋯ d
theorem kh(T:Txt K mg):↥1 "ties_of_sayings" ["sayings"] qR:=by
 refine T.b9.cal cv (λH vs Q E h=>?_)
 .obtain⟨l,N,qs,rfl,hl,ab,r,as,k⟩:=h;refine%[rfl|λf an A outer s hr=>?_];have G:(qs.map λq=>V.ref q.1).length=qs.length:=Z6 _;refine%[_,(QSs.h (ah (aI 1 cv.nd rfl (cQ ak))
   (ah (cP PassesOwn.never rfl rfl (vp (K:=K) rfl rfl T.ad rfl #[↑0]) (fD (K:=K) rfl rfl rfl (gsE rfl (aM 2 cv.nd rfl) (gsE rfl (aM 3 cv.nd rfl) cO)))
   (aq (ifS (bF cR rfl (↑3*>ar) cm)
    (aq (bT rfl (bmO (K:=K) plainAttrs_list PySem.F.slot_list_append PySem.F.type_list_append aS rfl ↑1 #[(eV #[(↑3*>ar),(↑3*>ar),BZ (pjE cm (pjE (Df ↑2) BY))])])))
    bh)))
   (aq (aN ↑1)))))|?_]
  show bv _ _ _ [!l,none,none,none] H;refine am λD1 k1 _=>?_
  lk;refine%[Xh _|λL O=>k1 _ _ (am λD2 k2 _=>aw λag hK=>?_)];lk;refine%[_,SqL.of (af.upd O _ _ hl)|hK _ _ (jS (λi U n=>∃o2 o3,U=[!l,!L,o2,o3]/\af H n/\∃ts:ZG,n L=some (.lst (ts.map λt=>V.ref t.1))/\ba n ts/\(∀t∈ts,xC N t.2)/\ts.length<=i/\ts.map (·.2)=ic qs i)
   %[none,none,rfl,af.upd O,[],aa,iT _,λt ht=>(nomatch ht),Xh _|rfl] (λi U n _ ⟨_,_,_,q,_⟩=>SqL.of (q _ _ hl)) ?_ ?_)]
  .rintro i x TT U n hx ⟨o2,o3,rfl,sm,ts,hm,u,g,v,d⟩ hT;have hi:i<qs.length:=by rw[<-G];exact(Xo hx).1
   obtain⟨q,Y,rfl⟩:∃q,qs[i]? =some q/\x=V.ref q.1:=by
    rw[Zl,Z4 hi]at hx;exact%[qs[i],Z4 hi|(Za hx).symm]
   have s0:=af.upd (o:= .tup [.int i,.ref q.1]) hT;have j:af H (upd n TT (.tup [.int i,.ref q.1])):=sm.trans s0;have I:upd n TT (.tup [.int i,.ref q.1]) TT=some (.tup [.int i,.ref q.1]):=aa;have m:=s0 _ _ hm;have c:=aV u λb z e=>s0 _ _ e
   generalize upd n TT (.tup [.int i,.ref q.1])=HT at j I m c
   have J:=ab q (Z8 Y);refine%[_,SqT.of I,rfl,_,_,rfl,_,_,rfl,rfl|?_];show lL _ _ _ _ [!l,!L,some (.int i),some (.ref q.1)] HT;refine aA λD4 k4 _=>?_
   lk;have st:=SqT.of (K:=K) (j _ _ J.1);have al:(Str.ofString (toString (i:Int))).length<=21:=by
    have e:=PySem.int_text_length_le10 (a:=(i:Int)) (k:=20) (by decide) (by have:(i:Int).natAbs=i:=rfl;lia);rw[PySem.ofString_length];lia
   have e1:(Str.empty++Str.ofString "#").length=1:=by decide +kernel
   have ea:∀a b:Str,(a++b).length=a.length+b.length:=λa b=>size_append
   have add:∀a b:Str,a∈N->b∈N->nF i q.2=some [a,b,DO i]->∀p,HT p=none->∃x,upd HT p (.tup [.str a,.str b,V.str (Str.empty++Str.ofString "#"++Str.ofString (toString (i:Int)))]) L=some (.lst x)/\x.length<sizeLine/\D4.nx [!l,!L,some (.int i),some (.ref q.1)] (upd (upd HT p (.tup [.str a,.str b,V.str (Str.empty++Str.ofString "#"++Str.ofString (toString (i:Int)))])) L (.lst (x++[V.ref p]))):=by
    intro a b ma mb ac p hp;have tn:=ig Y;rw[ac,<-d]at tn;unfold DO at tn
    generalize hz:Str.empty++Str.ofString "#"++Str.ofString (toString (i:Int))=z at tn ⊢
    have sp:=af.upd (o:= .tup [V.str a,V.str b,V.str z]) hp;have gp:upd HT p (.tup [V.str a,V.str b,V.str z]) p=_:=aa
    generalize upd HT p (.tup [V.str a,V.str b,V.str z])=H4 at sp gp
    have M:=sp _ _ m;have B:∀b z,H4 b=some (.tup z)->upd H4 L (.lst (ts.map (λt=>V.ref t.1) ++[V.ref p])) b=some (.tup z):=λb z e=>by
     have:b≠L:=λe2=>by rw[e2,M]at e;cases e
     rw[ap this];exact e
    refine%[_,M,by rw[Z6];exact aC ⋯|k4 _ _ %[_,_,rfl,af.set (j.trans sp) O,ts++[(p,[a,b,z])],?_,?_,?_,?_|?_]]
    .rw[aa,Zd];rfl
    .exact aV (i9 (aV c λb z e=>sp _ _ e) ∅ gp) B
    .intro t ht;rcases Xp ht with z|z
     .exact g t z
     .rw[Xq z];exact%[%[_,_,_,rfl,ma|mb]|DN (r a ma) (r b mb) (hz▸Bz i ⋯)]
    .rw[Z9,Yn];lia
    .rw[tn,Zd];rfl
   rcases J.2 with⟨wd,a,b,e,hw,ma,mb,_⟩|⟨wd,a,y,e,hw,_⟩
   .rw[e]at st;refine%[_,st,_,rfl,rfl|bI (λC=>?_) λC=>?_]
    .refine%[.inl %[_|SqL.of m],_,st,_,rfl,_,st,_,rfl,bE ⋯,?_,bE (by rw[ea];lia),bE (by rw[ea];lia),#[3]|add a b ma mb (e▸if_pos (V.str.inj (Zo C)))];have:(i:Int).natAbs=i:=rfl
     lia
    .refine k4 _ _ %[_,_,rfl,j,ts,m,c,g,⋯|?_];rw[ig Y,e,show nF i [V.str wd,V.str a,V.str b]=none from if_neg λz=>C (Zf (by rw[z])),d];exact(Zz _).symm
   .rw[e]at st;refine%[_,st,_,rfl,rfl|?_];rw[if_neg (by rcases hw with rfl|rfl<;> decide)];refine k4 _ _ %[_,_,rfl,j,ts,m,c,g,⋯|?_];rw[ig Y,e,d];exact(Zz _).symm
  .rintro U n ⟨o2,o3,rfl,sm,ts,hm,u,g,v,d⟩;refine k2 _ _ ?_;lk;rw[G]at v d;exact k L n ts sm O hm u g v d
structure GrF (mg:ZC) (H:Hp) (g c2 c3 c4:Addr) (qs:ZN) (ls:ZB) (ts:ZG):Prop where
 at_:∃dx c1,H g=some (.ins (cG mg "Ground") dx [("kept_cuts",.ref c1),("kept_sayings",.ref c2),("kept_layers",.ref c3),("kept_ties",.ref c4)])
 a2:H c2=some (.lst (qs.map λq=>V.ref q.1))
 a3:H c3=some (.lst (ls.map V.str))
 a4:H c4=some (.lst (ts.map λt=>V.ref t.1))
 sa:db H ls qs
 tu:ba H ts
theorem GrF.up(h:GrF mg H g a c d qs f ts)(s:af H i):GrF mg i g a c d qs f ts:=by
 obtain⟨j,l,m⟩:=h.at_;exact%[%[j,l|s _ _ m],s _ _ h.a2,s _ _ h.a3,s _ _ h.a4,h.sa.up s|aV h.tu λb z e=>s _ _ e]
def xD(mg:ZC):Sp:=λvs H Q _=>∃g b c d qs a ts,vs=[.ref g]/\GrF mg H g b c d qs a ts/\∀l,H l=none->Q (.ref l) (upd H l (.lst (a.map V.str)))
def uU(mg:ZC):Sp:=λvs H Q _=>∃g a b c qs d ts,vs=[.ref g]/\GrF mg H g a b c qs d ts/\∀l,H l=none->Q (.ref l) (upd H l (.lst (qs.map λq=>V.ref q.1)))
def BA(mg:ZC):Sp:=λvs H Q _=>∃g a b c qs d ts,vs=[.ref g]/\GrF mg H g a b c qs d ts/\∀l,H l=none->Q (.ref l) (upd H l (.lst (ts.map λt=>V.ref t.1)))
def vI(mg:ZC):Sp:=λvs H Q _=>∃g l m e cs qs,vs=[.ref g,.ref l,.ref m]/\H g=some (.ins (cG mg "Ground") e [])/\H l=some (.lst (ci cs))/\H m=some (.lst (qs.map λq=>V.ref q.1))/\
 bZ H cs/\(cs.map λp=>p.2.1).Nodup/\1<=cs.length/\cs.length<=3/\(∀p∈cs,sK p.2.2)/\(cs.flatMap lyr).length<=80/\(∀c,c.Perm (cs.flatMap lyr)->db H c qs)/\qs.length<=20/\
 ∀d c ts f h i,(∀b o,b≠g->H b=some o->d b=some o)->GrF mg d g f h i qs c ts->(∀t∈ts,xC c t.2)->(∀z∈c,Sml z)->(∀k,k∈ts.map (·.2)↔k∈fM cs\/k∈ic qs qs.length)->ts.length<=98->c.Perm (cs.flatMap lyr)->c.Pairwise (λa b=>aX b a=false)->Q .non d
theorem zT(T:Txt K mg):Bg P w K mg base 6 "Ground" ["self","cuts","sayings"] (vI mg):=by
 refine T.bw.cal fo (λH vs Q E h=>?_)
 .obtain⟨g,l,m,d,cs,qs,rfl,N,hl,hm,j,a0,h1,h8,a1,a2,B,bm,k⟩:=h;refine%[rfl|λf bl A outer s hr=>?_];refine%[_,(QSs.h (ah (bT rfl (aD (qN T) hr rfl #[↑1]))
   (ah (aI 3 fo.nd rfl (aD (sU T) hr rfl #[↑1]))
   (ah (bT rfl (aD (lU T) hr rfl #[↑2,↑3]))
   (ah (Bh (K:=K) rfl rfl ↑0 ↥↑1)
   (ah (Bh (K:=K) rfl rfl ↑0 ↥↑2)
   (ah (Bh (K:=K) rfl rfl ↑0 ↑3)
   (aq (Bh (K:=K) rfl rfl ↑0 (cbO (wY (K:=K) rfl) T.a7 boot_sorted rfl #[opE cn (aD (nG T) hr rfl #[↑1]) (aD (kh T) hr rfl #[↑2])]))))))))))|?_]
  show bv _ _ _ [!g,!l,!m,none] H;refine am λD1 k1 _=>?_
  lk;refine%[l,cs,rfl,hl,j,a0,h1,⋯|λH1 s1=>k1 _ _ (am λD2 k2 _=>?_)];lk;refine%[l,cs,rfl,s1 _ _ hl,j.up s1,h8,a2|λr H2 C s2 f2 h2 O q2=>k2 _ _ (am λD3 k3 _=>?_)];have U:=s1.trans s2;lk;refine%[m,r,C,qs,rfl,U _ _ hm,h2,(B C O).up U,⋯|λH3 s3=>k3 _ _ (am λD4 k4 _=>?_)];have u:=U.trans s3;have OC:=T.bq.cls;have ag:∀z∈C,Sml z:=λz hz=>by
   obtain⟨p,v,hz⟩:=mem_flatMap.mp (O.mem_iff.mp hz);exact By (j p v).2.1 (j p v).2.2 z hz
  have gl:l≠g:=λe=>by rw[e,N]at hl;cases hl
  have gm:m≠g:=λe=>by rw[e,N]at hm;cases hm
  have gr:r≠g:=λe=>by rw[e,s1 _ _ N]at f2;cases f2
  lk;refine%[_,.inl (SqL.of (u _ _ hl))|λa G=>%[_,_,_,af.upd G _ _ (u _ _ N),OC,T.br,(by show 0<1000;decide)|k4 _ _ (am λD5 k5 _=>?_)]];have a3:a≠g:=λe=>by rw[e,u _ _ N]at G;cases G
  have a6:=af.upd (o:= .lst (ci cs)) G;have b4:∀b o,b≠g->H3 b=some o->upd (upd H3 a (.lst (ci cs))) g (.ins (cG mg "Ground") d (dz (Str.ofString "kept_cuts") (V.ref a) [])) b=some o:=λb o c e=>by rw[ap c];exact a6 _ _ e
  have g4:upd (upd H3 a (.lst (ci cs))) g (.ins (cG mg "Ground") d (dz (Str.ofString "kept_cuts") (V.ref a) [])) g=some (.ins (cG mg "Ground") d [("kept_cuts",V.ref a)]):=aa;have a4:upd (upd H3 a (.lst (ci cs))) g (.ins (cG mg "Ground") d (dz (Str.ofString "kept_cuts") (V.ref a) [])) a=some (.lst (ci cs)):=by rw[ap a3];exact aa
  generalize upd (upd H3 a (.lst (ci cs))) g (.ins (cG mg "Ground") d (dz (Str.ofString "kept_cuts") (V.ref a) []))=H4 at b4 g4 a4
  have n4:∀b,H4 b=none->b≠g:=λb c e=>by rw[e,g4]at c;cases c
  lk;refine%[_,.inl (SqL.of (b4 _ _ gm (u _ _ hm)))|λi Y=>%[_,_,_,af.upd Y _ _ g4,OC,T.bt,(by show 1<1000;decide)|k5 _ _ (am λD6 k6 _=>?_)]];have ab:=n4 i Y;have a7:=af.upd (o:= .lst (qs.map λq=>V.ref q.1)) Y;have b5:∀b o,b≠g->H4 b=some o->upd (upd H4 i (.lst (qs.map λq=>V.ref q.1))) g (.ins (cG mg "Ground") d (dz (Str.ofString "kept_sayings") (V.ref i) [("kept_cuts",V.ref a)])) b=some o:=λb o c e=>(ap c)▸a7 _ _ e
  have g5:upd (upd H4 i (.lst (qs.map λq=>V.ref q.1))) g (.ins (cG mg "Ground") d (dz (Str.ofString "kept_sayings") (V.ref i) [("kept_cuts",V.ref a)])) g=some (.ins (cG mg "Ground") d [("kept_cuts",V.ref a),("kept_sayings",V.ref i)]):=by rw[aa];rfl
  have a5:upd (upd H4 i (.lst (qs.map λq=>V.ref q.1))) g (.ins (cG mg "Ground") d (dz (Str.ofString "kept_sayings") (V.ref i) [("kept_cuts",V.ref a)])) i=some (.lst (qs.map λq=>V.ref q.1)):=(ap ab)▸aa
  generalize upd (upd H4 i (.lst (qs.map λq=>V.ref q.1))) g (.ins (cG mg "Ground") d (dz (Str.ofString "kept_sayings") (V.ref i) [("kept_cuts",V.ref a)]))=H5 at b5 g5 a5
  lk;refine%[_,_,_,g5,OC,T.bu,(by show 2<1000;decide)|k6 _ _ (aA λD7 k7 _=>?_)];have b6:∀b o,b≠g->H5 b=some o->upd H5 g (.ins (cG mg "Ground") d (dz (Str.ofString "kept_layers") (V.ref r) [("kept_cuts",V.ref a),("kept_sayings",V.ref i)])) b=some o:=λb o c e=>(ap c)▸e
  have g6:upd H5 g (.ins (cG mg "Ground") d (dz (Str.ofString "kept_layers") (V.ref r) [("kept_cuts",V.ref a),("kept_sayings",V.ref i)])) g=some (.ins (cG mg "Ground") d [("kept_cuts",V.ref a),("kept_sayings",V.ref i),("kept_layers",V.ref r)]):=by rw[aa];rfl
  generalize upd H5 g (.ins (cG mg "Ground") d (dz (Str.ofString "kept_layers") (V.ref r) [("kept_cuts",V.ref a),("kept_sayings",V.ref i)]))=H6 at b6 g6
  have al:∀b o,b≠g->H3 b=some o->H6 b=some o:=λb o c e=>b6 b o c (b5 b o c (b4 b o c e))
  have y:∀b o,b≠g->H b=some o->H6 b=some o:=λb o c e=>al b o c (u _ _ e)
  have an:bZ H6 cs:=λp v=>⟨y _ _ (λe=>by have:=(j p v).1;rw[e,N]at this;cases this) (j p v).1,(j p v).2⟩
  have n:db H6 C qs:=λq hq=>⟨y _ _ (λe=>by have:=(B C O q hq).1;rw[e,N]at this;cases this) (B C O q hq).1,(B C O q hq).2⟩
  lk;refine%[l,cs,rfl,y _ _ gl hl,an,a1,h8|λt1 H7 ts s7 f7 h7 a8 ac br a9=>?_];lk;refine%[m,C,qs,rfl,s7 _ _ (y _ _ gm hm),n.up s7,ag,⋯|λt2 H8 us s8 f8 bb bc as bt bf=>?_];lk;have M:ba H8 (ts++us):=sQ (aV a8 λb z e=>s8 _ _ e) bc;have g8:=s8 _ _ (s7 _ _ g6);refine%[_,s8 _ _ h7,_,bb,by rw[Z6,Z6,PySem.sizeLine_eq];lia|λp v=>%[ts++us,Zd▸SqL.of aa,aV M λb z e=>af.upd v _ _ e,3,?_,by decide,by rw[Z9];lia|λc4 ss I J b0=>%[_,_,_,af.upd I _ _ (af.upd v _ _ g8),OC,T.bv,(by show 3<1000;decide)|k7 _ _ ?_]]]
  .intro t ht;rcases Xp ht with z|z
   .exact(ac t z).1.three
   .exact(as t z).1.three
  .have b9:∀b o,b≠g->H8 b=some o->upd (upd (upd H8 p (.lst (ts.map (λp=>V.ref p.1) ++us.map λp=>V.ref p.1))) c4 (.lst (ss.map λp=>V.ref p.1))) g (.ins (cG mg "Ground") d (dz (Str.ofString "kept_ties") (V.ref c4) [("kept_cuts",V.ref a),("kept_sayings",V.ref i),("kept_layers",V.ref r)])) b=some o:=λb o c e=>(ap c)▸((af.upd (o:= .lst (ts.map (λp=>V.ref p.1) ++us.map λp=>V.ref p.1)) v).trans (af.upd (o:= .lst (ss.map λp=>V.ref p.1)) I)) _ _ e
   have L:∀b o,b≠g->H6 b=some o->_:=λb o c e=>b9 b o c (s8 _ _ (s7 _ _ e))
   refine k _ C ss i r c4 (λb o c e=>L b o c (y b o c e)) %[%[d,a|?_],?_,?_,?_,?_|?_] (λt ht=>?_) ag (λk=>by rw[(J.map _).mem_iff,Zd,Yv,a9,bf]) (by rw[J.length_eq,Z9];lia) O q2
   .rw[aa];rfl
   .exact L _ _ ab (b6 _ _ ab a5)
   .exact L _ _ gr (al _ _ gr (s3 _ _ h2))
   .rw[ap (λe=>by rw[e,af.upd v _ _ g8]at I;cases I)];exact aa
   .exact λq hq=>⟨L _ _ (λe=>by have:=(n q hq).1;rw[e,g6]at this;cases this) (n q hq).1,(n q hq).2⟩
   .intro t ht;have:=M t (J.mem_iff.mp ht);exact%[this.1|b9 _ _ (λe=>by have q:=this.2;rw[e,g8]at q;cases q) this.2]
   .rcases Xp (J.mem_iff.mp ht)with z|z
    .exact%[(ac t z).1.mono λx=>O.mem_iff.mpr|(ac t z).2]
    .exact as t z
theorem eD(T:Txt K mg):wW P w K mg base 1 "Ground" "layers" ["self"] (xD mg):=by
 refine T.bz.cal kQ (λH vs Q E h=>?_)
 .obtain⟨g,c,d,e,qs,i,ts,rfl,a,k⟩:=h;refine%[rfl|λf b A outer s n=>?_];obtain⟨o,p,j⟩:=a.at_;refine%[_,(QSs.h (aq (aN ↥((Ds (K:=K) rfl rfl ↑0)))))|?_];show jd _ _ [some _] H;lk;exact%[_,_,_,j,T.bq.cls,T.bu,_,rfl,_,rfl,_,.inl (SqL.of a.a3)|λl m=>k l m]
theorem gF(T:Txt K mg):wW P w K mg base 1 "Ground" "sayings" ["self"] (uU mg):=by
 refine T.bx.cal kc (λH vs Q E h=>?_)
 .obtain⟨g,c,d,e,qs,i,ts,rfl,a,k⟩:=h;refine%[rfl|λf b A outer s n=>?_];obtain⟨o,p,j⟩:=a.at_;refine%[_,(QSs.h (aq (aN ↥((Ds (K:=K) rfl rfl ↑0)))))|?_];show jd _ _ [some _] H;lk;exact%[_,_,_,j,T.bq.cls,T.bt,_,rfl,_,rfl,_,.inl (SqL.of a.a2)|λl m=>k l m]
theorem oz(T:Txt K mg):wW P w K mg base 1 "Ground" "ties" ["self"] (BA mg):=by
 refine T.bA.cal nv (λH vs Q E h=>?_)
 .obtain⟨g,c,d,e,qs,i,ts,rfl,a,k⟩:=h;refine%[rfl|λf b A outer s n=>?_];obtain⟨o,p,j⟩:=a.at_;refine%[_,(QSs.h (aq (aN ↥((Ds (K:=K) rfl rfl ↑0)))))|?_];show jd _ _ [some _] H;lk;exact%[_,_,_,j,T.bq.cls,T.bv,_,rfl,_,rfl,_,.inl (SqL.of a.a4)|λl m=>k l m]
def dL(H:Hp)(ys:List (Addr×Str×Int)):Prop:=∀p∈ys,H p.1=some (.tup [.str p.2.1,.int p.2.2])/\0<=p.2.2/\p.2.2<=7
theorem dL.up(h:dL H ys)(s:af H b):dL b ys:=λp a=>%[s _ _ (h p a).1|(h p a).2]
def xE:Sp:=λvs H Q _=>∃one a l ys,vs=[.int one,.int a,.ref l]/\H l=some (.lst (ys.map λp=>V.ref p.1))/\dL H ys/\1<=ys.length/\ys.length<=100/\0<=one/\0<=a/\
 ∀t b xs,af H b->H t=none->b t=some (.tup xs)->pM (ys.map λp=>p.2.1) xs->Q (.ref t) b
theorem qS(T:Txt K mg):↥1 "_law_saying" ["_law_one","_law_two","_law_layers"] xE:=by
 refine T.bg.cal bM (λH vs Q E h=>?_)
 .obtain⟨one,d,l,ys,rfl,O,G,y1,al,o0,t0,k⟩:=h;refine%[rfl|λf an A outer s hr=>?_];have get:∀n:Int,0<=n->∃q,atI (ys.map λp=>V.ref p.1) (n%(ys.length:Int))=some (V.ref q.1)/\q∈ys:=λn hn=>by
   have h0:=Int.emod_nonneg n (show(ys.length:Int)≠0 by lia);have h1:=Int.emod_lt_of_pos n (show(0:Int)<(ys.length:Int) by lia)
   generalize n%(ys.length:Int)=i at h0 h1
   obtain⟨j,rfl⟩:=Xk h0;have hj:j<ys.length:=by lia
   exact%[ys[j],cC (by simp[hj])|Yf hj]
  obtain⟨p,gp,mp⟩:=get one o0;obtain⟨q,gq,mq⟩:=get d t0;have I:(ys.map λp=>V.ref p.1).length=ys.length:=Z6 _;have y:(0:Int)<(ys.length:Int):=by lia
  have pa:=G p mp;have qa:=G q mq;refine%[_,(QSs.h (ah (yR rfl rfl rfl (↑2>>(opE bi ↑0 ↑↑2)) (fD (K:=K) rfl rfl rfl (gsE rfl (aM 3 bM.nd rfl) (gsE rfl (aM 4 bM.nd rfl) cO))))
   (ah (yR rfl rfl rfl (↑2>>(opE bi ↑1 ↑↑2)) (fD (K:=K) rfl rfl rfl (gsE rfl (aM 5 bM.nd rfl) (gsE rfl (aM 6 bM.nd rfl) cO))))
   (ah (aI 7 bM.nd rfl (opE bi (opE bG ↑0 ar) ar))
   (ah (aI 8 bM.nd rfl (iF cR rfl (opE bi (opE bG ↑1 ar) ar) ar))
   (ah (ifS (wT (kz (bF wz rfl ↑7 ar) (kz (bF eF rfl ↑3 ↑5) (iH (wT (orW (bF eF rfl ↑4 ↑6) (mJ (~~~↑8))))))))
   (ah (ifS (wT (kz (bF wB rfl ↑4 ↑6) (iH (je (~~~↑8)))))
    (aq (aN (eV #[cm,↑5,↑3])))
    bh)
    (aq (aN (eV #[cm,↑3,↑5]))))
   bh)
   (ah (ifS (wT (kz (bF (qg (K:=K) rfl) rfl ↑7 (eV #[ar,ar])) (kz (bF eF rfl ↑3 ↑5) (iH (wT (orW (bF cR rfl ↑4 ↑6) (mJ (~~~↑8))))))))
   (aq (aN (eV #[cm,↑3,↑5])))
   bh)
   (ah (aI 9 bM.nd rfl (opE cq (opE oV ar (opE fP ar ↑4)) ((cQ #[ar,t8 ar,t8 ar,ar,ar,t8 ar,ar,ar])>>(opE bi ↑1 ar))))
   (aq (aN (eV #[((cQ #[cm,cm])>>(opE bi ↑7 ar)),↑3,↑9])))))))))))|?_]
  show bv _ _ _ [some (.int one),some (.int d),!l,none,none,none,none,none,none,none] H;refine am λD1 k1 _=>?_
  lk;refine%[ys.length,.inl %[_,SqL.of O|I.symm],y,_,SqL.of O,_,gp,_,rfl,_,SqT.of pa.1,rfl,_,_,rfl,_,_,rfl,rfl|k1 _ _ (am λD2 k2 _=>?_)];lk;refine%[ys.length,.inl %[_,SqL.of O|I.symm],y,_,SqL.of O,_,gq,_,rfl,_,SqT.of qa.1,rfl,_,_,rfl,_,_,rfl,rfl|k2 _ _ (am λD3 k3 _=>?_)];lk;refine%[%[by decide|by decide],by decide|k3 _ _ (am λD4 k4 _=>?_)];lk;refine%[%[by decide|by decide],by decide|k4 _ _ (am λD5 k5 r5=>?_)];have b1:0<=one/64%8:=by lia
  have b2:one/64%8<8:=by lia
  generalize one/64%8=kind at b1 b2
  generalize decide (d/64%16=0)=J
  obtain⟨as,pn,pi⟩:=p;obtain⟨a0,m,qi⟩:=q;dsimp only at pa qa gp gq;have mem:∀{r:Addr×Str×Int},r∈ys->r.2.1∈ys.map λp=>p.2.1:=λ{r} hr=>Xs %[r,hr|rfl]
  have B:∀(z:Hp) (a b:Str),af H z->a∈(ys.map λp=>p.2.1)->b∈(ys.map λp=>p.2.1)->a≠b->∀w:Str,w="later"\/w="same"->∀t,z t=none->Q (.ref t) (upd z t (.tup [.str w,.str a,.str b])):=λz a b M ha hb ab w hw t u=>
   k t _ _ (M.trans (af.upd u)) (M.free u) aa (.inl %[w,a,b,rfl,hw,ha,hb|ab])
  have U:pn∈ys.map λp=>p.2.1:=mem mp
  have m2:m∈ys.map λp=>p.2.1:=mem mq
  have v:3<=sizeLine:=by decide
  have rest:D5.nx [some (.int one),some (.int d),!l,-pn,some (.int pi),-m,some (.int qi),some (.int kind),some (.bl J),none] H:=by
   refine k5 _ _ (am λD6 k6 r6=>?_);have C:∀z,af H z->D6.nx [some (.int one),some (.int d),!l,-pn,some (.int pi),-m,some (.int qi),some (.int kind),some (.bl J),none] z:=by
    intro z M;refine k6 _ _ (am λD7 k7 _=>?_);lk;refine%[.inl %[by decide|by decide],#[8]|λp Y=>%[by decide,_,SqL.of aa|?_]];obtain⟨c,hc,ac⟩:=iS [0,-20,-60,10,60,-200,110,0] (i:=d%8) ⋯ (by show d%8<8;lia);have a1: -200<=c/\c<=110:=by
     simp only[Yy,X9,or_false]at ac
     lia
    refine%[_,hc,c,rfl|k7 _ _ ?_];lk;obtain⟨wd,ag,hw⟩:∃wd:Str,atI [V.str (Str.ofString "since"),V.str (Str.ofString "by")] (kind%2)=some (V.str wd)/\(wd="since"\/wd="by"):=by
     rcases(show kind%2=0\/kind%2=1 by lia)with e|e<;> rw[e]
     .exact%[_,rfl|.inl rfl]
     .exact%[_,rfl|.inr rfl]
    refine%[#[2]|λp1 N=>%[by simp,_,SqL.of aa,_,ag,v|λt u=>?_]];exact k t _ _ (M.trans ((af.upd Y).trans ((af.upd N).trans (af.upd u)))) (M.free ((af.upd Y).free ((af.upd N).free u))) aa (.inr %[wd,pn,_,rfl,hw,U,⋯|⋯])
   lk;refine%[#[2]|λp Y=>%[_,.inr (SqT.of aa),rfl,rfl|?_]];have sp:=af.upd (o:= .tup [V.int 2,V.int 3]) Y
   generalize upd H p (.tup [V.int 2,V.int 3])=H6 at sp
   have R:=C H6 sp;refine bI (λ_=>bI (λg=>?_) λ_=>R) λ_=>R
   have g:pn≠m:=by simpa using g
   have L:3<=sizeLine/\∀p,H6 p=none->D6.rt (.ref p) (upd H6 p (.tup [V.str (Str.ofString "same"),V.str pn,V.str m])):=%[v|λt u=>r6 _ _ (B H6 pn m sp U m2 g _ (.inr rfl) t u)]
   exact bI (λ_=>L) λ_=>bI (λ_=>L) λ_=>R
  lk;refine bI (λ_=>bI (λg=>?_) λ_=>rest) λ_=>rest
  have g:pn≠m:=by simpa using g
  have L1:3<=sizeLine/\∀p,H p=none->D5.rt (.ref p) (upd H p (.tup [V.str (Str.ofString "later"),V.str m,V.str pn])):=%[v|λt u=>r5 _ _ (B H m pn (af.refl H) m2 U (Ne.symm g) _ (.inl rfl) t u)]
  have L2:3<=sizeLine/\∀p,H p=none->D5.rt (.ref p) (upd H p (.tup [V.str (Str.ofString "later"),V.str pn,V.str m])):=%[v|λt u=>r5 _ _ (B H pn m (af.refl H) U m2 g _ (.inl rfl) t u)]
  exact bI (λ_=>bI (λ_=>bI (λ_=>L1) λ_=>L2) λ_=>L2) λ_=>bI (λ_=>bI (λ_=>bI (λ_=>L1) λ_=>L2) λ_=>L2) λ_=>rest
structure Drn where
 name:Str
 cols:List ZL
 hi:Nat
 sh:Int
 wd:Bool
noncomputable def Drn.rows(d:Drn):ZB:=drawn d.cols d.hi d.sh
def lI(d:Drn):Prop:=d5 d.name=true/\1<=d.hi/\d.hi<=6/\1<=d.cols.length/\d.cols.length<=40/\∀c∈d.cols,c.length=d.hi/\iq d.wd c
theorem lI.cut{d:Drn}(h:lI d):bU d.rows:=np h.2.1 (by have:=h.2.2.1;lia) h.2.2.2.1 (by have:=h.2.2.2.2.1;lia) h.2.2.2.2.2
noncomputable def iw(d:Drn):List (Str×Int):=(there d.cols).map λa=>(bK d.name (sg a d.sh),a)
noncomputable def dcs(ds:List (Addr×Drn)):ZH:=ds.map λp=>(p.1,p.2.name,p.2.rows)
noncomputable def nmK(k:Int):Str:=if k=0 then "north" else if k=1 then "a" else if k=2 then "wallwest" else "zz"
def xF(K:ZA):Sp:=λvs H Q _=>∃(a:Addr) (xs:ZL) (f:Bool),vs=[.ref a,.bl f]/\SqL K H a (xs.map V.int)/\(∀b,af H b->SqL K b a (xs.map V.int))/\xs.length=43/\(∀x∈xs,0<=x/\x<9973)/\
 ∀(t c d e:Addr) b (ds:List (Addr×Drn)) (qs:ZN),af H b->H t=none->H c=none->H d=none->H e=none->c≠d->c≠e->d≠e->
  b t=some (.tup [.ref c,.ref d,.ref e])->b c=some (.lst (ci (dcs ds)))->b d=some (.lst (qs.map λq=>V.ref q.1))->b e=some (.lst ((ds.flatMap λp=>(iw p.2).map (·.1)).map V.str))->
  1<=ds.length->ds.length<=3->(∀p∈ds,lI p.2)->(ds.map λp=>p.2.name).Nodup->bZ b (dcs ds)->db b (ds.flatMap λp=>(iw p.2).map (·.1)) qs->qs.length<=12->(∀p∈ds,∃k:Int,p.2.name=nmK k)->1<=(ds.flatMap λp=>(iw p.2).map (·.1)).length/\(ds.flatMap λp=>(iw p.2).map (·.1)).length<=24->Q (.ref t) b
theorem ki{H:Hp}{M:Addr}{xs ys:ZM}(h:H M=some (.lst xs)):∀b z,H b=some (.tup z)->upd H M (.lst ys) b=some (.tup z):=λb z e=>by
 rw[ap (λa=>by rw[a,h]at e;cases e)];exact e
theorem dL.keep{H a:Hp}{ys:List (Addr×Str×Int)}(h:dL H ys)(t:∀b z,H b=some (.tup z)->a b=some (.tup z)):dL a ys:=λp c=>%[t _ _ (h p c).1|(h p c).2]
theorem bZ.keep{H a:Hp}{cs:ZH}(h:bZ H cs)(t:∀b z,H b=some (.tup z)->a b=some (.tup z)):bZ a cs:=λp c=>%[t _ _ (h p c).1|(h p c).2]
theorem db.keep{H a:Hp}{c:ZB}{qs:ZN}(h:db H c qs)(t:∀b z,H b=some (.tup z)->a b=some (.tup z)):db a c qs:=λp d=>%[t _ _ (h p d).1|(h p d).2]
theorem bZ.snoc{H:Hp}{cs:ZH}{q:Addr×Str×ZB}(h:bZ H cs)(a:H q.1=some (.tup [.str q.2.1,.str (Str.join nl q.2.2)])/\d5 q.2.1=true/\bU q.2.2):bZ H (cs++[q]):=λp b=>by
 rcases Xp b with z|z
 .exact h p z
 .rw[Xq z];exact a
theorem dL.snoc{H:Hp}{ys:List (Addr×Str×Int)}{q:Addr×Str×Int}(h:dL H ys)(a:H q.1=some (.tup [.str q.2.1,.int q.2.2])/\0<=q.2.2/\q.2.2<=7):dL H (ys++[q]):=λp b=>by
 rcases Xp b with z|z
 .exact h p z
 .rw[Xq z];exact a
theorem kW(n:Str)(c:Nat):n++Str.ofString "."++sgn c=bK n c:=by
 refine dO ?_;show(n.cps++ ([46].toArray) ++ ([c].toArray)).toList=(n.cps.toList++[46,c]).toArray.toList;simp
theorem DP(k:Int):d5 (nmK k)=true:=by
 unfold nmK
 split
 .decide +kernel
 .split
  .decide +kernel
  .split<;> decide +kernel
theorem BB{j k:Int}(c:0<=j)(e:j<4)(d:0<=k)(f:k<4)(h:nmK j=nmK k):j=k:=by
 have all:∀a b:Fin 4,nmK (a.1:Int)=nmK (b.1:Int)->a=b:=by decide +kernel
 obtain⟨a,rfl⟩:=Xk c;obtain⟨b,rfl⟩:=Xk d;have:=all %[a|⋯] %[b|⋯] h;have:=congrArg Fin.val this;dsimp only at this
 lia
theorem qT(T:Txt K mg):↥3 "_law_ground" ["_law_row_here","_law_broad_here"] (xF K):=by
 refine T.bh.cal aJ (λH vs Q E h=>?_)
 .obtain⟨a,xs,br,rfl,hs,keep,bl,hb,kk⟩:=h;refine%[rfl|λf ex A outer s hr=>?_];have get:∀i:Int,0<=i->i<43->∃c,atI (xs.map V.int) i=some (V.int c)/\0<=c/\c<9973:=λi h0 h1=>by
   obtain⟨c,e,hm⟩:=iS xs h0 ⋯;exact%[c,e|hb c hm]
  obtain⟨c0,g0,l0,u0⟩:=get 0 (by decide) (by decide);refine%[_,(QSs.h (ah (aI 2 aJ.nd rfl (cQ ak))
   (ah (aI 3 aJ.nd rfl (cQ ak))
   (ah (cP PassesOwn.never rfl rfl (jn rfl T.ai rfl #[(opE cq ar (opE bi (↑0>>ar) ar))]) (aM 4 aJ.nd rfl)
   (ah (aI 5 aJ.nd rfl ((cQ #[cm,cm,cm,cm])>>(opE bi (opE cq ↑4 (opE bG (↑0>>ar) ar)) ar)))
    (ah (aI 6 aJ.nd rfl (opE cq (opE bG (↑0>>ar) ar) (opE fP ar ↑4)))
    (ah (yR rfl rfl rfl (aD (xp T) hr rfl #[(slE (K:=K) rfl ↑0 (iG (opE cq ar (opE fP ar ↑4))) (iG (opE cq ar (opE fP ar ↑4)))),↑6]) (fD (K:=K) rfl rfl rfl (gsE rfl (aM 7 aJ.nd rfl) (gsE rfl (aM 8 aJ.nd rfl) cO))))
    (ah (ifS (wT (kz (~~~↑1) (iH (bF cR rfl ↑4 ar))))
    (aq (yR rfl rfl rfl (aD (sO T) hr rfl #[↑0,↑6]) (fD (K:=K) rfl rfl rfl (gsE rfl (aM 7 aJ.nd rfl) (gsE rfl (aM 8 aJ.nd rfl) cO)))))
    bh)
    (ah (bT rfl (bmO (K:=K) plainAttrs_list PySem.F.slot_list_append PySem.F.type_list_append aS rfl ↑2 #[eV #[↑5,↑7]]))
    (aq (cP PassesOwn.never rfl rfl (cF (K:=K) rfl ↑8) (aM 9 aJ.nd rfl)
    (aq (bT rfl (bmO (K:=K) plainAttrs_list PySem.F.slot_list_append PySem.F.type_list_append aS rfl ↑3 #[eV #[opE cn (opE cn ↑5 cm) (aD (jE T) hr rfl #[↑9,↑6]),↑9]])))))))))))
   (ah (aI 10 aJ.nd rfl (opE bi (opE bG (↑0>>ar) ar) ar))
   (ah (aI 11 aJ.nd rfl (cQ ak))
   (ah (cP PassesOwn.never rfl rfl (jn rfl T.ai rfl #[↑10]) (aM 4 aJ.nd rfl)
   (aq (bT rfl (bmO (K:=K) plainAttrs_list PySem.F.slot_list_append PySem.F.type_list_append aS rfl ↑11 #[(aD (qS T) hr rfl #[(↑0>>(opE cq ar (opE fP ar ↑4))),(↑0>>(opE cq ar (opE fP ar ↑4))),↑3])]))))
   (aq (aN (eV #[↑2,↑11,(eE (az.of (show bP (ai eM) ["_law_row_here","_law_broad_here","_law_cuts","_law_layers","_law_k","_law_name","_law_shift","_law_text","_law_there","_law_at","_law_many","_law_sayings"] _ ["_law_layer","_law_at"] []=true from by decide +kernel)) rfl rfl (cF (K:=K) rfl ↑3) (λ_ _ _=>(fD (K:=K) rfl rfl rfl (gsE rfl (aM 0 (show(["_law_layer","_law_at"]:ZB).Nodup from by decide +kernel) rfl) (gsE rfl (aM 1 (show(["_law_layer","_law_at"]:ZB).Nodup from by decide +kernel) rfl) cO)))) (λ_ _ _=>jf) (λ_ _ _=>↑0))]))))))))))|?_]
  show bv _ _ _ [!a,some (.bl br),none,none,none,none,none,none,none,none,none,none] H;refine am λD1 k1 _=>?_
  lk;refine%[Xh _|λu b2=>k1 _ _ (am λD2 k2 _=>?_)];have s1:=af.upd (o:= .lst []) b2;lk;refine%[Xh _|λL3 a5=>k2 _ _ (am λD3 k3 _=>aw λa2 hK=>?_)];have s2:=s1.trans (af.upd (o:= .lst []) a5);have b3:u≠L3:=λe=>by rw[<-e,aa]at a5;cases a5
  lk;refine%[_,keep _ s2,_,g0,c0,rfl,by decide|?_];refine%[⋯,⋯|hK _ _ (cJ (λi U m=>∃o3 o4 o5 o6 o7 o8,U=[!a,some (.bl br),!u,!L3,o3,o4,o5,o6,o7,o8,none,none]/\af H m/\∃(ds:List (Addr×Drn)) (ys:List (Addr×Str×Int)),ds.length=i/\m u=some (.lst (ci (dcs ds)))/\m L3=some (.lst (ys.map λp=>V.ref p.1))/\dL m ys/\(ys.map (·.2))=(ds.flatMap λp=>iw p.2)/\
   bZ m (dcs ds)/\(∀p∈ds,lI p.2)/\ds.map (λp=>p.2.name)=(List.range i).map λk:Nat=>nmK (((k:Int) +c0/3)%4))
   %[_,_,_,_,_,_,rfl,s2,[],[],rfl,by rw[ap b3];exact aa,aa,λp hp=>(nomatch hp),rfl,λp hp=>(nomatch hp),λp hp=>(nomatch hp)|rfl] ?_ ?_)]
  .rintro i U H3 hi ⟨o3,o4,o5,o6,o7,o8,rfl,s3,ds,ys,b4,C,G,a6,ab,b5,a7,a8⟩;have hi3:i<3:=by lia
   show bv _ _ _ [!a,some (.bl br),!u,!L3,some (.int (0+i)),o4,o5,o6,o7,o8,none,none] H3;rw[Int.zero_add];refine am λD4 k4 _=>?_
   lk;obtain⟨r,co,cs⟩:∃r:Str,atI [V.str (Str.ofString "north"),V.str (Str.ofString "a"),V.str (Str.ofString "wallwest"),V.str (Str.ofString "zz")] (((i:Int) +c0/3)%4)=some (V.str r)/\r=nmK (((i:Int) +c0/3)%4):=by
    rcases(show((i:Int) +c0/3)%4=0\/((i:Int) +c0/3)%4=1\/((i:Int) +c0/3)%4=2\/((i:Int) +c0/3)%4=3 by lia)with e|e|e|e<;> rw[e]<;> exact%[_,rfl|rfl]
   have a9:d5 r=true:=by rw[cs];exact DP _
   refine%[#[4]|λp hp=>%[_,keep _ (s3.trans (af.upd hp)),_,g0,c0,rfl,%[by decide|by decide],by decide,_,SqL.of aa,_,co|k4 _ _ (am λD5 k5 _=>?_)]];have sp:=af.upd (o:= .lst [V.str (Str.ofString "north"),V.str (Str.ofString "a"),V.str (Str.ofString "wallwest"),V.str (Str.ofString "zz")]) hp
   generalize upd H3 p (.lst [V.str (Str.ofString "north"),V.str (Str.ofString "a"),V.str (Str.ofString "wallwest"),V.str (Str.ofString "zz")])=H4 at sp
   have Y:=s3.trans sp;lk;refine%[_,keep _ Y,_,g0,c0,rfl,%[by decide|by decide],.inl %[by decide|by decide]|k5 _ _ (am λD6 k6 _=>?_)];have bb:0<=c0/12+3*(i:Int):=by lia
   generalize c0/12+3*(i:Int)=l at bb
   lk;refine%[.inl %[by decide|by decide],.inl %[by decide|by decide]|.inl %[_,keep _ Y|λp2 ct=>?_]];rw[nB xs ⋯ ⋯ ⋯];have cM:((xs.drop (1+6*(i:Int)).toNat).take ((7+6*(i:Int)).toNat-(1+6*(i:Int)).toNat)).length=6:=by
    rw[Yo,Yk,bl];exact(by decide:∀i:Nat,i<3->min ((7+6*(i:Int)).toNat-(1+6*(i:Int)).toNat) (43-(1+6*(i:Int)).toNat)=6) i ⋯
   have c1:∀x∈(xs.drop (1+6*(i:Int)).toNat).take ((7+6*(i:Int)).toNat-(1+6*(i:Int)).toNat),0<=x/\x<9973:=λx hx=>hb x (Yz (X1 hx))
   generalize (xs.drop (1+6*(i:Int)).toNat).take ((7+6*(i:Int)).toNat-(1+6*(i:Int)).toNat)=ws at cM c1
   refine%[p2,ws,l,rfl,SqL.of aa,λm sm=>SqL.of (sm _ _ aa),cM,c1,bb|λT5 th H5 d g v s5 f5 dB n5 dK b6 b7 b9 ca dT ac=>%[T5,rfl,_,SqT.of dK,rfl,_,_,rfl,_,_,rfl,rfl|k6 _ _ (am λdV dX _=>?_)]];have rest:∀(th:Addr) (H5:Hp) (d:List ZL) (g:Nat) (v:Bool),af H3 H5->H5 th=some (.lst ((there d).map V.int))->H3 th=none->lI %[r,d,g,l|v]->dV.nx [!a,some (.bl br),!u,!L3,some (.int i),-r,some (.int l),some (.str (nl.join (drawn d g l))),!th,o8,none,none] H5:=by
    intro th H5 d g v I b6 al bm;refine dX _ _ (am λD7 k7 _=>?_);have dY:th≠u:=λe=>by rw[e,C]at al;cases al
    have d0:th≠L3:=λe=>by rw[e,G]at al;cases al
    lk;refine%[.inl %[_|SqL.of (I _ _ C)],#[2]|λM d1=>?_];have s6:=af.upd (o:= .tup [V.str r,V.str (nl.join (drawn d g l))]) d1;have g6:upd H5 M (.tup [V.str r,V.str (nl.join (drawn d g l))]) M=_:=aa;have a1:=s6 _ _ (I _ _ C)
    generalize upd H5 M (.tup [V.str r,V.str (nl.join (drawn d g l))])=H6 at s6 g6 a1
    have bc:=I.trans s6;refine%[_,a1,by rw[show(ci (dcs ds)).length=ds.length by unfold ci dcs;rw[Z6,Z6],b4];exact aC ⋯|k7 _ _ (aA λD8 k8 _=>aw λa2 hK=>?_)];have tk:=ki (ys:=ci (dcs ds) ++[V.ref M]) a1;have c2:af H (upd H6 u (.lst (ci (dcs ds) ++[V.ref M]))):=af.set (s3.trans bc) b2;have c3:upd H6 u (.lst (ci (dcs ds) ++[V.ref M])) u=some (.lst (ci (dcs (ds++[(M,%[r,d,g,l|v])])))):=by
     rw[aa];unfold ci dcs;rw[Zd,Zd];rfl
    have c4:upd H6 u (.lst (ci (dcs ds) ++[V.ref M])) L3=some (.lst (ys.map λp=>V.ref p.1)):=by rw[ap (Ne.symm b3)];exact bc _ _ G
    have cb:upd H6 u (.lst (ci (dcs ds) ++[V.ref M])) th=some (.lst ((there d).map V.int)):=by rw[ap dY];exact s6 _ _ b6
    have c5:bZ (upd H6 u (.lst (ci (dcs ds) ++[V.ref M]))) (dcs (ds++[(M,%[r,d,g,l|v])])):=by
     rw[show dcs (ds++[(M,%[r,d,g,l|v])])=dcs ds++[(M,r,drawn d g l)] by unfold dcs;rw[Zd];rfl];exact((b5.up bc).snoc %[g6,a9|bm.cut]).keep tk
    have c7:dL (upd H6 u (.lst (ci (dcs ds) ++[V.ref M]))) ys:=(a6.up bc).keep tk
    generalize upd H6 u (.lst (ci (dcs ds) ++[V.ref M]))=H7 at c2 c3 c4 cb c5 c7
    have an:ys.length<=8*i:=by
     have e:=congrArg List.length ab;rw[Z6,List.length_flatMap]at e;have:=qp (f:=λp:Addr×Drn=>(iw p.2).length) (B:=8) (xs:=ds) λp _=>by
      unfold iw;rw[Z6];exact kI _
     lia
    lk;refine .inl %[%[_|SqL.of cb]|hK _ _ (bj (xs:=(there d).map V.int) (λj U m=>∃o8,U=[!a,some (.bl br),!u,!L3,some (.int i),-r,some (.int l),some (.str (nl.join (drawn d g l))),!th,o8,none,none]/\af H m/\m u=some (.lst (ci (dcs (ds++[(M,%[r,d,g,l|v])]))))/\m th=some (.lst ((there d).map V.int))/\bZ m (dcs (ds++[(M,%[r,d,g,l|v])]))/\
     ∃zs:List (Addr×Str×Int),m L3=some (.lst ((ys++zs).map λp=>V.ref p.1))/\dL m (ys++zs)/\zs.map (·.2)=((there d).take j).map λa=>(bK r (sg a l),a))
     %[_,rfl,c2,c3,cb,c5,[],by rw[Zz];exact c4,by rw[Zz];exact c7|rfl] (λj U m _ ⟨_,_,_,_,q,_⟩=>SqL.of q) ?_ ?_)]
    .rintro j x U H8 hx ⟨o8,rfl,s8,a3,bt,cd,zs,as,ch,a4⟩;have hj:j<(there d).length:=by have:=(Xo hx).1;rwa[Z6]at this
     rw[Zl,Z4 hj]at hx;obtain rfl:x=V.int (there d)[j]:=(Za hx).symm;have da:=eQ.mp (Yf hj);show jJ _ _ [!a,some (.bl br),!u,!L3,some (.int i),-r,some (.int l),some (.str (nl.join (drawn d g l))),!th,some (.int (there d)[j]),none,none] H8;refine aA λD9 k9 _=>?_
     lk;have ew:=kg a9;have ea:∀a b:Str,(a++b).length=a.length+b.length:=λa b=>size_append
     have e1:(Str.ofString ".").length=1:=rfl;have zl:zs.length<=j:=by
      have:=congrArg List.length a4;rw[Z6,Z6,Yo]at this
      lia
     have tl:=kI d;refine%[.inl %[_|SqL.of as],bE ⋯,_,_,rfl,bb,_,rfl,bE (by rw[ea,show(sgn (sg (there d)[j] l)).length=1 from rfl];lia),#[2]|λp hp=>?_];rw[kW];have s9:=af.upd (o:= .tup [V.str (bK r (sg (there d)[j] l)),V.int (there d)[j]]) hp;have g9:upd H8 p (.tup [V.str (bK r (sg (there d)[j] l)),V.int (there d)[j]]) p=_:=aa
     generalize upd H8 p (.tup [V.str (bK r (sg (there d)[j] l)),V.int (there d)[j]])=H9 at s9 g9
     have dc:=s9 _ _ as;have dd:=ki (ys:=(ys++zs).map (λp=>V.ref p.1) ++[V.ref p]) dc;refine%[_,dc,by rw[Z6,Z9];exact aC ⋯|k9 _ _ %[_,rfl,af.set (s8.trans s9) (s1.free a5),by rw[ap b3];exact s9 _ _ a3,by rw[ap d0];exact s9 _ _ bt,(cd.up s9).keep dd,zs++[(p,bK r (sg (there d)[j] l),(there d)[j])],?_,?_|?_]]
     .rw[aa,<-Ze,Zd (l₂:=[(p,bK r (sg (there d)[j] l),(there d)[j])])];rfl
     .rw[<-Ze];exact((ch.up s9).snoc %[g9,da.1|da.2.1]).keep dd
     .rw[Zd,a4,Xd,Z4 hj,Zd];rfl
    .rintro U H8 ⟨o8,rfl,s8,a3,bt,cd,zs,as,ch,a4⟩;rw[Z6,Zn (Zi _)]at a4;refine k8 _ _ %[_,_,_,_,_,_,rfl,s8,ds++[(M,%[r,d,g,l|v])],ys++zs,by rw[Z9,b4];rfl,a3,as,ch,?_,cd,λp hp=>?_|?_]
     .rw[Zd,ab,a4,flatMap_append]
      congr 1
      rw[List.flatMap_singleton];rfl
     .rcases Xp hp with z|z
      .exact a7 p z
      .rw[Xq z];exact bm
     .rw[Zd,a8,Xc,Zd];rw[cs];rfl
   have I:af H3 H5:=sp.trans ((af.upd ct).trans s5);have go:=rest th H5 d g v I b6 (sp.free ((af.upd ct).free dB)) %[a9,b7,b9,ca,Yj dT (by decide)|ac];lk;refine bI (λ_=>bI (λ_=>?_) λ_=>go) λ_=>go
   exact%[a,xs,l,rfl,keep _ (s3.trans I),λm sm=>keep _ (s3.trans (I.trans sm)),bl,hb,bb|λT6 d2 H6 cl d3 s6 f6 d4 n6 d7 de b7 b9 ca eb ac=>%[T6,rfl,_,SqT.of d7,rfl,_,_,rfl,_,_,rfl,rfl|rest d2 H6 cl d3 false (I.trans s6) de (I.free d4) %[a9,b7,b9,ca,eb|ac]]]
  .rintro U H3 ⟨o3,o4,o5,o6,o7,o8,rfl,s3,ds,ys,b4,C,G,a6,ab,b5,a7,a8⟩;refine k3 _ _ (am λD4 k4 _=>?_);lk;refine%[_,keep _ s3,_,g0,c0,rfl,%[by decide|by decide],by decide|k4 _ _ (am λD5 k5 _=>?_)];have m0:0<=c0/100%13:=by lia
   have ec:c0/100%13<=12:=by lia
   generalize c0/100%13=b0 at m0 ec
   lk;refine%[Xh _|λL2 ag=>k5 _ _ (am λD6 k6 _=>aw λa2 hK=>?_)];have ed:L2≠u:=λe=>by rw[e,C]at ag;cases ag
   have ey:L2≠L3:=λe=>by rw[e,G]at ag;cases ag
   have ee:=af.upd (o:= .lst []) ag;have eg:1<=ds.length:=by lia
   have eh:ds.length<=3:=by lia
   have an:ys.length<=24/\1<=ys.length:=by
    have e:=congrArg List.length ab;rw[Z6,List.length_flatMap]at e;have:=qp (f:=λp:Addr×Drn=>(iw p.2).length) (B:=8) (xs:=ds) λp _=>by
     unfold iw;rw[Z6];exact kI _
    refine%[⋯|Nat.pos_of_ne_zero λz=>?_];have ej:ys=[]:=length_eq_zero_iff.mp z;rw[ej]at ab;have dk:0<ds.length:=by lia
    have hq:=a7 ds[0] (Yf dk);have dn:=zJ hq.2.1 hq.2.2.2.1 hq.2.2.2.2.2;obtain⟨a',ek⟩:=List.exists_mem_of_ne_nil _ dn;have:(bK ds[0].2.name (sg a' ds[0].2.sh),a')∈ds.flatMap λp=>iw p.2:=mem_flatMap.mpr %[ds[0],Yf dk|Xs %[a',ek|rfl]]
    rw[<-ab]at this;cases this
   have L:(ys.map λp=>p.2.1)=ds.flatMap λp=>(iw p.2).map (·.1):=by
    have e:=congrArg (List.map (·.1)) ab;rw[Yu,List.map_flatMap]at e;exact e
   lk;refine%[⋯,⋯|hK _ _ (cJ (λi U m=>∃o3,U=[!a,some (.bl br),!u,!L3,o3,o4,o5,o6,o7,o8,some (.int b0),!L2]/\af H3 m/\∃qs:ZN,m L2=some (.lst (qs.map λq=>V.ref q.1))/\qs.length=i/\db m (ys.map λp=>p.2.1) qs)
    %[_,rfl,ee,[],aa,rfl|λq hq=>(nomatch hq)] ?_ ?_)]
   .rintro i U H4 ez ⟨o3,rfl,Y,qs,O,dp,bf⟩;show jJ _ _ [!a,some (.bl br),!u,!L3,some (.int (0+i)),o4,o5,o6,o7,o8,some (.int b0),!L2] H4;rw[Int.zero_add];obtain⟨x1,el,eo,eH⟩:=get (19+2*(i:Int)) ⋯ ⋯;obtain⟨x2,ep,eq,e0⟩:=get (20+2*(i:Int)) ⋯ ⋯;refine aA λD7 k7 _=>?_
    lk;refine%[.inl %[_|SqL.of O],.inl %[by decide|by decide],_,keep _ (s3.trans Y),_,el,.inl %[by decide|by decide],_,keep _ (s3.trans Y),_,ep|?_];refine%[x1,x2,L3,ys,rfl,Y _ _ G,a6.up Y,an.2,⋯,eo,eq|λt H5 er s5 f5 h5 es=>?_];have a1:=s5 _ _ O;have dr:=ki (ys:=qs.map (λq=>V.ref q.1) ++[V.ref t]) a1;lk;refine%[_,a1,by rw[Z6];exact aC ⋯|k7 _ _ %[_,rfl,af.set (Y.trans s5) ag,qs++[(t,er)],by rw[aa,Zd];rfl,by rw[Z9,dp];rfl|λq hq=>?_]];rcases Xp hq with z|z
    .exact(((bf.up s5).keep dr) q z)
    .rw[Xq z];exact%[dr _ _ h5|es]
   .rintro U H4 ⟨o3,rfl,Y,qs,O,dp,bf⟩;refine k6 _ _ ?_;lk;refine aE λa2 hK=>?_
    lk;have a0:=Y _ _ G;refine .inl %[%[_|SqL.of a0]|hK _ _ λN hN=>?_];refine bw (J:=Itl K L3) (n:=ys.length) (D:=N) (λj ts U m=>(∃o1 o2,U=[o1,o2])/\af H4 m/\m N=some (.lst ts)/\ts=((ys.take j).map λp=>p.2.1).map V.str)
     %[%[none,none|rfl],af.upd hN,aa|rfl]
     (λj _ _ m hj hq=>%[_,V.ref ys[j].1,SqL.of (hq.2.1 _ _ a0)|by simp[hj]]) (λ_ _ m hq=>%[_,SqL.of (hq.2.1 _ _ a0)|by simp]) ?_ ?_
    .rintro j ts U H5 hj ⟨⟨o1,o2,rfl⟩,s5,et,ht⟩ x H6 ⟨e2,hx⟩;subst e2;have dx:=hx _ (SqL.of (s5 _ _ a0));rw[Zl,Z4 hj]at dx;obtain rfl:x=V.ref ys[j].1:=(Za dx).symm;have eu:=(a6 ys[j] (Yf hj)).1;refine%[_,SqT.of (s5 _ _ (Y _ _ eu)),rfl,_,_,rfl,_,_,rfl,rfl|?_];show yG [some (.str ys[j].2.1),some (.int ys[j].2.2)] _ _;lk;refine CK.mk hj et (by rw[ht,Z6,Z6,Yo];exact aC ⋯) %[%[_,_|rfl],af.set s5 hN,aa|?_];rw[ht,Xd,Zd,Zd,Z4 hj];rfl
    rintro ts U H5 ⟨_,s5,ev,ht⟩;rw[Zn (Zi _),L]at ht;refine%[#[3]|λt dy=>?_];have st:=af.upd (o:= .tup [V.ref u,V.ref L2,V.ref N]) dy;have dA:=s3.trans (Y.trans (s5.trans st));rw[L]at bf;have b1:=Y _ _ C;refine kk t u L2 N _ ds qs dA ((s3.trans (Y.trans s5)).free dy) b2 (s3.free ag) ((s3.trans Y).free hN) (Ne.symm ed) (λe=>by rw[<-e,b1]at hN;cases hN) (λe=>by rw[<-e,O]at hN;cases hN) aa (st _ _ (s5 _ _ b1)) (st _ _ (s5 _ _ O)) ?_ eg eh a7 ?_ (b5.up (Y.trans (s5.trans st))) (bf.up (s5.trans st)) ⋯ (λp hp=>?_) (by rw[<-L,Z6];exact%[an.2|an.1])
    .rw[st _ _ ev,ht]
    .rw[a8,X6,Xb];refine Xj (λ{x y} hx hy dn he=>?_) (nodup_iff_pairwise_ne.mp (nodup_range (n:=(1+c0%3).toNat)));rw[mem_range]at hx hy;have:=BB ⋯ ⋯ ⋯ ⋯ he
     lia
    .have:p.2.name∈ds.map λp=>p.2.name:=Xs %[p,hp|rfl]
     rw[a8]at this;obtain⟨k,_,e⟩:=Xr this;exact%[_|e.symm]
noncomputable def NmD(a:ZB)(f:Str->Str):List (Key×V):=a.map λz=>(Sum.inr z,V.str (f z))
theorem kX:∀{a:ZB},z∈a->cE (NmD a f) (Sum.inr z)=some (.str (f z))
 |[],h=>(nomatch h)
 | x::a,h=>by
   by_cases e:x=z
   .subst e;exact eT rfl
   .rw[show NmD _ f=(Sum.inr x,V.str _)::NmD a f from rfl,di (λq=>e (Sum.inr.inj q))];exact kX (by rcases mem_cons.mp h with q|q;exact(e q.symm).elim;exact q)
theorem zU:((NmD b f).any λa=>decide (a.1=(Sum.inr z:Key)))=true↔z∈b:=by
 rw[any_eq_true]
 constructor
 .rintro⟨a,c,d⟩;obtain⟨x,e,rfl⟩:=Xr c
  simp_all
 .intro h;exact%[_,Xs %[z,h|rfl]|Zf rfl]
theorem zV(h:z∈a):d8 (NmD a f) (Sum.inr z) (.str v)=NmD a (λx=>if x=z then v else f x):=by
 unfold d8;rw[if_pos (zU.mpr h)];unfold NmD;rw[Yu];refine Ys λx _=>?_
 show(if(Sum.inr x)=Sum.inr z then((Sum.inr x),V.str v)else(Sum.inr x,V.str _))=(Sum.inr x,V.str (if x=z then v else f x))
 by_cases e:x=z
 .rw[if_pos (congrArg _ e),if_pos e]
 .rw[if_neg (λq=>e (Sum.inr.inj q)),if_neg e]
theorem DQ(h:z∉a):d8 (NmD a id) (Sum.inr z) (.str z)=NmD (a++[z]) id:=by
 unfold d8;rw[if_neg (λq=>h (zU.mp q))];unfold NmD;rw[Zd];rfl
noncomputable def zW(a:ZB)(z:Str):Nat:=gA (a.map λu=>[u]) [z]
theorem zX(b:x∈a)(h:aX x y=true):zW a x<zW a y:=by
 have:=jY (ks:=a.map λu=>[u]) (y:=[y]) (Xs %[x,b|rfl]);rw[ng,h]at this;exact Zo this.symm
def cj(qs:ZN)(a b:Str):Prop:=∃q∈qs,q.2=[.str "same",.str a,.str b]
theorem ja{S R:Str->Str->Prop}(F:bJ c f r S)(h:∀a b,S a b↔R a b):bJ c f r R:=by
 rw[funext λa=>funext λb=>(propext (h a b)).symm];exact F
def DR:Sp:=λvs H Q _=>∃d z a f r S,vs=[.ref d,.str z]/\H d=some (.dK (NmD a f))/\bJ a f r S/\z∈a/\Q (.str (r z)) H
def BC:Sp:=λvs H Q _=>∃d a b c f r S,vs=[.ref d,.str a,.str b]/\H d=some (.dK (NmD c f))/\bJ c f r S/\a∈c/\b∈c/\c.length<=5000/\
 ∀e g,bJ c e g (λx y=>S x y\/(x=a/\y=b))->Q .non (upd H d (.dK (NmD c e)))
theorem fA(T:Txt K mg):↥1 "least_pointed_to" ["names","layer"] DR:=by
 refine T.az.cal eG (λH vs Q E h=>?_)
 .obtain⟨d,z,e,p,r,S,rfl,q,F,t,j⟩:=h;refine%[rfl|λf o A outer s i=>?_];refine%[_,(QSs.h (ah (nh PassesOwn.never (bF eF rfl (e7 i (λ_ _=>rfl) ↑0 ↑1) ↑1)
   (aq (aI 1 eG.nd rfl (e7 i (λ_ _=>rfl) ↑0 ↑1))))
   (aq (aN ↑1))))|am λu k1 _=>⟨λm l g=>∃y,l=[some _,-y]/\g=H/\y∈e/\r y=r z/\m=zW e y,%[_,z,rfl,rfl,t,rfl|rfl],?_⟩]
  rintro m l g ⟨y,rfl,rfl,a,b,rfl⟩;lk;have g1:=by
   have:=dC.k (k:=Sum.inr y) q;rw[kX a]at this;exact this
  refine%[_,g1,rfl|bI (λh=>?_) λh=>?_]
  .have h:=by simpa using h
   refine%[λc n=>c=[some _,some _]/\n=g,?_,_,g1,rfl|rfl];rintro c n ⟨rfl,rfl⟩;exact%[_,zX (F.fin y a) (F.dec y a h),p y,rfl,rfl,F.fin y a,(F.rf y a).trans b|rfl]
  .refine k1 _ _ ?_;rw[<-b,F.fix y a (by simpa using h)]at j;exact j
theorem lV(T:Txt K mg):↥2 "join_deposits" ["names","one","other"] BC:=by
 refine T.ay.cal dG (λH vs Q E h=>?_)
 .obtain⟨d,a,b,c,p,r,S,rfl,g,F,i,j,n,o⟩:=h;refine%[rfl|λf m A outer s e=>?_];refine%[_,(QSs.h (ah (aI 3 dG.nd rfl (aD (fA T) e rfl #[↑0,↑1]))
   (ah (aI 4 dG.nd rfl (aD (fA T) e rfl #[↑0,↑2]))
   (aq (lF e rfl (cbO (Du rfl) T.a0 boot_min rfl #[↑3,↑4]) ↑0 (cbO (Dt rfl) T.a1 boot_max rfl #[↑3,↑4]))))))|?_]
  show bv _ _ _ [!d,-a,-b,none,none] H;refine am λt k1 _=>?_
  lk;refine%[d,a,c,p,r,S,rfl,g,F,i|k1 _ _ (am λu k2 _=>?_)];lk;refine%[d,b,c,p,r,S,rfl,g,F,j|k2 _ _ (aA λv q _=>?_)];lk;have J:=F.join i j rfl rfl;have l:(if aX (r a) (r b)=true then r b else r a)∈c:=by
   split
   .exact F.rin b j
   .exact F.rin a i
  generalize (if aX (r a) (r b)=true then r b else r a)=M at J l
  refine%[_,lN.k (k:=Sum.inr M) g (by unfold NmD;rw[Z6,PySem.sizeLine_eq];lia)|q _ _ ?_];rw[zV l];exact o _ _ J
theorem uV{qs:ZN}{q:Addr×ZM}(c:qs[i]? =some q)(a b:Str):cj (qs.take (i+1)) a b↔cj (qs.take i) a b\/q.2=[.str "same",.str a,.str b]:=by
 unfold cj;rw[Xd,c]
 simp_all
theorem ik{c:ZB}(d:c.Pairwise (λa b=>aX b a=false)){i:Nat}{z w:Str}(f:c[i]? =some z)(hw:w∈c)(h:aX w z=true):w∈c.take i:=by
 rw[<-Xe i c]at hw;rcases Xp hw with e|e
 .exact e
 .obtain⟨hi,g⟩:=Xo f;obtain⟨j,l,rfl⟩:=Yg e;rw[List.getElem_drop]at h;rw[Yk]at l;by_cases m:j=0
  .subst m;rw[<-g]at h;simp only[add_zero]at h;rw[fG]at h;cases h
  .have:=List.pairwise_iff_getElem.mp d i (i+j) hi ⋯ ⋯
   grind
def zY(mg:ZC):Sp:=λvs H Q _=>∃g f h i qs c ts,vs=[.ref g]/\GrF mg H g f h i qs c ts/\c.Nodup/\c.Pairwise (λa b=>aX b a=false)/\c.length<=5000/\
 ∀d e r,af H e->H d=none->e d=some (.dK (NmD c r))->(∀z∈c,r z∈c/\cD (cj qs) z (r z))->Q (.ref d) e
theorem kY{H:Hp}{g b c d:Addr}{qs:List _}{e:ZB}{ts:List _}{m:Str}{R:Prop}(h:GrF mg H g b c d qs e ts)(f:m="layers"\/m="sayings"\/m="ties")(k:R):∃a fs,H g=some (.ins (cG mg "Ground") a fs)/\List.lookup m fs=none/\R:=by
 obtain⟨a,j,i⟩:=h.at_;exact⟨a,_,i,by rcases f with rfl|rfl|rfl<;> rfl,k⟩
theorem dM(T:Txt K mg):↥3 "names_by_layer" ["ground"] (zY mg):=by
 refine T.ax.cal bo (λH vs Q E h=>?_)
 .obtain⟨g,c2,c3,c4,qs,j,ts,rfl,hg,nd,so,a0,kk⟩:=h;refine%[rfl|λf a1 A outer s I=>?_];have lm:(j.map V.str).length=j.length:=Z6 _;have qm:(qs.map λq=>V.ref q.1).length=qs.length:=Z6 _;refine%[_,(QSs.h (ah (aI 1 bo.nd rfl mI)
   (ah (cP PassesOwn.never rfl rfl (cF (K:=K) rfl (pF (eD T) T.bq I rfl rfl ↑0)) (aM 2 bo.nd rfl)
   (aq (lF I rfl ↑2 ↑1 ↑2)))
   (ah (cP PassesOwn.never rfl rfl (cF (K:=K) rfl (pF (gF T) T.bq I rfl rfl ↑0)) (fD (K:=K) rfl rfl rfl (gsE rfl (aM 3 bo.nd rfl) (gsE rfl (aM 4 bo.nd rfl) (gsE rfl (aM 5 bo.nd rfl) cO))))
   (aq (ifS (bF cR rfl ↑3 cm)
    (aq (bT rfl (aD (lV T) I rfl #[↑1,↑4,↑5])))
    bh)))
   (ah (cP PassesOwn.never rfl rfl (cF (K:=K) rfl (pF (eD T) T.bq I rfl rfl ↑0)) (aM 2 bo.nd rfl)
   (aq (lF I rfl (e7 I (λ_ _=>rfl) ↑1 (e7 I (λ_ _=>rfl) ↑1 ↑2)) ↑1 ↑2)))
   (aq (aN ↑1)))))))|?_]
  show bv _ _ _ [!g,none,none,none,none,none] H;refine am λD1 k1 _=>?_
  lk;intro d hd;refine k1 _ _ (am λD2 k2 _=>aw λJ hK=>?_);have s1:=af.upd (o:= .dK []) hd;have U:upd H d (.dK []) d=some (.dK (NmD (j.take 0) id)):=aa
  generalize upd H d (.dK [])=H1 at s1 U
  lk;have ab:=hg.up s1;refine kY ab (.inl rfl) %[g,c2,c3,c4,qs,j,ts,rfl,ab|λY M=> .inl %[Y,rfl,%[_|SqL.of aa]|hK _ _ ?_]];have s2:=af.upd (o:= .lst (j.map V.str)) M;have ac:upd H1 Y (.lst (j.map V.str)) Y=_:=aa;have n1:Y≠d:=λe=>by rw[e,U]at M;cases M
  have U:=s2 _ _ U
  generalize upd H1 Y (.lst (j.map V.str))=H2 at s2 ac U
  refine bj (xs:=j.map V.str) (λi n l=>(∃p t o4 u,n=[!g,!d,p,t,o4,u])/\af H l/\l Y=some (.lst (j.map V.str))/\l d=some (.dK (NmD (j.take i) id)))
   %[%[_,_,_,_|rfl],s1.trans s2,ac|U] (λi n l _ h=>SqL.of h.2.2.1) ?_ ?_
  .rintro i x n l L ⟨⟨p,t,o4,u,rfl⟩,m,G,c⟩;rw[Zl]at L;obtain⟨z,v,rfl⟩:=map_eq_some_iff.mp L;show oN _ _ _ _ [!g,!d,-z,t,o4,u] l;refine aA λD3 k3 _=>?_
   lk;have zn:z∉j.take i:=λhm=>by
    have h:=nd;rw[<-Xe i j,X4]at h;exact h.2.2 z hm z (Z8 (i:=0) ((Yc)▸v)) rfl
   refine%[_,lN.k (k:=Sum.inr z) c (by unfold NmD;rw[Z6,Yo,PySem.sizeLine_eq];lia)|k3 _ _ %[%[_,_,_,_|rfl],af.set m hd,(ap n1).trans G|?_]];rw[aa,DQ zn,Xd,v];rfl
  rintro n H3 ⟨⟨p,t,o4,u,rfl⟩,m,G,c⟩;rw[lm,Zn (Zi _)]at c;refine k2 _ _ (am λD4 k4 _=>aw λJ hK=>?_);lk;have ag:=hg.up m;refine kY ag (.inr (.inl rfl)) %[g,c2,c3,c4,qs,j,ts,rfl,ag|λl2 N=> .inl %[l2,rfl,%[_|SqL.of aa]|hK _ _ ?_]];have s4:=af.upd (o:= .lst (qs.map λq=>V.ref q.1)) N;have al:upd H3 l2 (.lst (qs.map λq=>V.ref q.1)) l2=_:=aa;have n2:l2≠d:=λe=>by rw[e,c]at N;cases N
  have c:=s4 _ _ c;have an:=m.trans s4
  generalize upd H3 l2 (.lst (qs.map λq=>V.ref q.1))=H4 at s4 al c an
  refine bj (xs:=qs.map λq=>V.ref q.1) (λi n l=>(∃p t o4 u,n=[!g,!d,p,t,o4,u])/\af H l/\l l2=some (.lst (qs.map λq=>V.ref q.1))/\∃f r,l d=some (.dK (NmD j f))/\bJ j f r (cj (qs.take i)))
   %[%[_,_,_,_|rfl],an,al,id,id,c|ja (bJ.start j) λa b=>%[λh=>h.elim|λ⟨q,hq,_⟩=>(nomatch hq)]] (λi n l _ h=>SqL.of h.2.2.1) ?_ ?_
  .rintro i x n l L ⟨⟨p,t,o4,u,rfl⟩,m,G,f,r,c,F⟩;rw[Zl]at L;obtain⟨q,hq,rfl⟩:=map_eq_some_iff.mp L;obtain⟨q1,q2⟩:=hg.sa q (Z8 hq);have st:=m _ _ q1;have B:=uV hq;rcases q2 with⟨wd,a,b,e,hw,ha,hb,_⟩|⟨wd,a,y,e,hw,_⟩
   .rw[e]at st B;refine%[_,SqT.of st,rfl,_,_,rfl,_,_,rfl,_,_,rfl,rfl|?_];show lL _ _ _ _ [!g,!d,p,-wd,-a,-b] l;refine aA λD5 k5 _=>?_
    lk;refine bI (λh=>?_) λh=>?_
    .have h:wd=Str.ofString "same":=by simpa using h
     refine%[d,a,b,j,f,r,_,rfl,c,F,ha,hb,a0|λf' r' F'=>k5 _ _ %[%[_,_,_,_|rfl],af.set m hd,(ap n2).trans G,f',r',aa|ja F' λx y=>?_]];rw[B,h];refine or_congr Iff.rfl %[λ⟨e1,e2⟩=>by rw[e1,e2]|λe=>?_];simp only[List.cons.injEq,V.str.injEq,and_true,true_and]at e;exact%[e.1.symm|e.2.symm]
    .have h:wd≠Str.ofString "same":=by simpa using h
     refine k5 _ _ %[%[_,_,_,_|rfl],m,G,f,r,c|ja F λx y=>?_];rw[B];refine%[.inl|λe=>e.resolve_right λe=>h ?_];simp only[List.cons.injEq,V.str.injEq]at e;exact e.1
   .rw[e]at st B;refine%[_,SqT.of st,rfl,_,_,rfl,_,_,rfl,_,_,rfl,rfl|?_];show lL _ _ _ _ [!g,!d,p,-wd,-a,some (.int y)] l;refine aA λD5 k5 _=>?_
    lk;rw[if_neg (by rcases hw with rfl|rfl<;> decide)];refine k5 _ _ %[%[_,_,_,_|rfl],m,G,f,r,c|ja F λx z=>?_];rw[B];refine%[.inl|λe=>e.resolve_right λe=>?_];simp at e
  rintro n H5 ⟨⟨p,t,o4,u,rfl⟩,m,G,f,r,c,F⟩;rw[qm,Zn (Zi _)]at F;refine k4 _ _ (am λD6 k6 _=>aw λJ hK=>?_);lk;have as:=hg.up m;refine kY as (.inl rfl) %[g,c2,c3,c4,qs,j,ts,rfl,as|λl3 O=> .inl %[l3,rfl,%[_|SqL.of aa]|hK _ _ ?_]];have s6:=af.upd (o:= .lst (j.map V.str)) O;have n3:l3≠d:=λe=>by rw[e,c]at O;cases O
  have c:=s6 _ _ c;refine bj (xs:=j.map V.str) (λi n l=>(∃p t o4 u,n=[!g,!d,p,t,o4,u])/\af H l/\l l3=some (.lst (j.map V.str))/\∃f,l d=some (.dK (NmD j f))/\bJ j f r (cj qs)/\∀z∈j.take i,f z=r z)
   %[%[_,_,_,_|rfl],(m.trans s6),aa,f,c,F|λz v=>(nomatch v)] (λi n l _ h=>SqL.of h.2.2.1) ?_ ?_
  .rintro i x n l L ⟨⟨p,t,o4,u,rfl⟩,m,G,f,c,F,C⟩;rw[Zl]at L;obtain⟨z,v,rfl⟩:=map_eq_some_iff.mp L;have zm:=Z8 v;show oN _ _ _ _ [!g,!d,-z,t,o4,u] l;refine aA λD7 k7 _=>?_
   lk;have get:=λy hy=>by
    have:=dC.k (k:=Sum.inr y) c;rw[kX hy]at this;exact this
   refine%[_,get z zm,_,get _ (F.fin z zm),_,lN.k (k:=Sum.inr z) c (by unfold NmD;rw[Z6,PySem.sizeLine_eq];lia)|k7 _ _ %[%[_,_,_,_|rfl],af.set m hd,(ap n3).trans G,_,?_,F.short zm|λy hy=>?_]]
   .rw[aa,zV zm]
   .rw[Xd,v]at hy;by_cases e:y=z
    .rw[if_pos e,e];exact F.done zm λw hw h=>C w (ik so v hw h)
    .rw[if_neg e];rcases Xp hy with h|h
     .exact C y h
     .exact(e (Xq h)).elim
  rintro n H7 ⟨⟨p,t,o4,u,rfl⟩,m,G,f,c,F,C⟩;rw[lm,Zn (Zi _)]at C;refine k6 _ _ ?_;lk;refine kk d H7 r m hd ?_ λz v=>%[F.rin z v|F.least v]
  rw[c];unfold NmD;rw[Ys λz v=>by rw[C z v]]
theorem E4{X:Cx}{K:ZA}{T id:String}(h:X.K=K)(n:PlainAttrs T)(slot:Slot T name id)(j:typeOf (.builtin id)=pure (.type "method_descriptor"))(p:MtQ X id r)
 (b:attributeBase o name X.env (eval o X.env)=eval o X.env) (a:(e::d).any aZ=false) (l:Nat.blt (e::d).length 30=true) (c:(f.endLine==g.line)=true) (q:QE X o s) (u:QA X (e::d) t):
 QE X (.Call (.Attribute o name f) (e::d) [] g) (tBM K T r s t):=by
 have m:=a;rw[Zy,Xa]at m;refine⟨yN h n slot j p.h q.h u.h b ?_ c (ax m.1) (gH m.2)⟩;rw[qd a];have i:(e::d).length<30:=Nat.blt_eq.mp l;have:decide ((e::d).length+([]:List Keyword).length+(if([]:List Keyword).isEmpty then 0 else 1)<30)=true:=Zf (by simpa using i);rw[this];rfl
noncomputable def grp(r:Str->Str)(xs:ZB):List (Str×ZB):=(xs.filter λz=>decide (r z=z)).map λz=>(z,xs.filter λx=>decide (r x=z))
theorem xG(h:∀z∈xs,r z=b z):grp r xs=grp b xs:=by
 unfold grp;rw[List.filter_congr λz a=>by rw[h z a]];refine Ys λz a=>?_
 rw[List.filter_congr λx c=>by rw[h x c]]
theorem BD(a:r z=z)(b:z∉xs)(c:∀x∈xs,r x∈xs):grp r (xs++[z])=grp r xs++[(z,[z])]:=by
 unfold grp;rw[Y4,Zd];refine congr (congrArg _ (Ys λw hw=>?_)) ?_
 .have:w≠z:=λe=>b (by rw[<-e];exact(List.mem_filter.mp hw).1)
  rw[Y4,Y6 (by rw[a];simpa using this.symm),Y8,Zz]
 .rw[Y7 (by rw[a];simp),Y8];show [(z,_)]=_;rw[Y4,Y7 (by rw[a];simp),Y8,List.filter_eq_nil_iff.mpr λx d=>?_]
  .rfl
  .intro e;exact b (by rw[<-Zo e];exact c x d)
theorem BE(a:r z≠z):grp r (xs++[z])=(grp r xs).map λp=>if p.1=r z then(p.1,p.2++[z])else p:=by
 unfold grp;rw[Y4,Y6 (by simpa using a),Y8,Zz,Yu];refine Ys λw hw=>?_
 show(w,_)=if w=r z then(w,_)else(w,_)
 rw[Y4];by_cases e:w=r z
 .rw[if_pos e,Y7 (by simpa using e.symm),Y8]
 .rw[if_neg e,Y6 (by simpa using λq=>e q.symm),Y8,Zz]
theorem jb:y∈(grp r xs).map (·.1)↔y∈xs/\r y=y:=by
 unfold grp;rw[Yu,mem_map]
 constructor
 .rintro⟨z,a,rfl⟩;have:=List.mem_filter.mp a;exact%[this.1|Zo this.2]
 .rintro⟨b,c⟩;exact%[y,List.mem_filter.mpr %[b|Zf c]|rfl]
theorem kZ(h:xs.Nodup):((grp r xs).map (·.1)).Nodup:=by
 unfold grp;rw[Yu,show((λx:Str×ZB=>x.1) ∘ λz=>(z,List.filter (λx=>decide (r x=z)) xs))=id from rfl,map_id];exact h.filter _
def vJ(S:Str->Str->Prop)(a:ZB)(ds:List ZB):Prop:=∃r:Str->Str,(∀z∈a,r z∈a/\cD S z (r z))/\ds=(grp r a).map (·.2)
theorem vJ.one{S:Str->Str->Prop}(h:vJ S b ds)(g:vJ S b c):ds=c:=by
 obtain⟨r,d,rfl⟩:=h;obtain⟨e,g1,rfl⟩:=g;rw[xG λz a=>(d z a).2.one (g1 z a).2]
noncomputable abbrev Gs(a:Type):=List (Str×Addr×List a)
noncomputable def gD{a:Type}(b:Gs a):List (Key×V):=b.map λg=>(Sum.inr g.1,V.ref g.2.1)
theorem vK:∀{a:Gs b},y∉a.map (·.1)->cE (gD a) (Sum.inr y)=none
 |[],_=>rfl
 | g::a,h=>by
   rw[Yt,Yy,not_or]at h;rw[show gD (g::a)=(Sum.inr g.1,V.ref g.2.1)::gD a from rfl,di (λq=>h.1 (Sum.inr.inj q).symm)];exact vK h.2
theorem im:∀{a:Gs d},cE (gD a) (Sum.inr y)=some v->∃g∈a,g.1=y/\v= .ref g.2.1
 |[],h=>(nomatch h)
 | g::a,h=>by
   rw[show gD (g::a)=(Sum.inr g.1,V.ref g.2.1)::gD a from rfl]at h;by_cases e:g.1=y
   .rw[eT (congrArg Sum.inr e)]at h;exact%[g,Zm,e|(Za h).symm]
   .rw[di (λq=>e (Sum.inr.inj q))]at h;obtain⟨g',b,c⟩:=im h;exact%[g',Zk _ b|c]
theorem lc:∀{a:Gs b},g∈a->cE (gD a) (Sum.inr g.1)≠none
 | x::a,h,c=>by
   rw[show gD (x::a)=(Sum.inr x.1,V.ref x.2.1)::gD a from rfl]at c;by_cases e:x.1=g.1
   .rw[eT (congrArg Sum.inr e)]at c;cases c
   .rw[di (λq=>e (Sum.inr.inj q))]at c;rcases mem_cons.mp h with q|q
    .exact e (by rw[q])
    .exact lc q c
def md(H:Hp)(a:ZG):Prop:=∀g∈a,H g.1=some (.lst (g.2.map V.str))
theorem md.up{H a:Hp}{b:ZG}(h:md H b)(s:af H a):md a b:=λg c=>s _ _ (h g c)
structure iU {α:Type} (f:α->V) (H0 H:Hp) (d:Addr) (gs:Gs α):Prop where
 at_:H d=some (.dK (gD gs))
 la:∀g∈gs,H0 g.2.1=none/\H g.2.1=some (.lst (g.2.2.map f))
 nd:(gs.map (·.2.1)).Nodup
theorem BF{f:Type}{c:Gs f}(d:(c.map (·.1)).Nodup){g h:Str×Addr×List f}(i:g∈c)(j:h∈c)(e:g.1=h.1):g=h:=by
 induction c with
 | nil=>cases i
 | cons x xs l=>
   rw[Yt,nodup_cons]at d;rcases mem_cons.mp i with a|a<;> rcases mem_cons.mp j with b|b
   .rw[a,b]
   .exact(d.1 (by rw[<-a,e];exact Xs %[_,b|rfl])).elim
   .exact(d.1 (by rw[<-b,<-e];exact Xs %[_,a|rfl])).elim
   .exact l d.2 a b
theorem zZ{f:Type}{c:Gs f}(d:(c.map (·.2.1)).Nodup){g h:Str×Addr×List f}(i:g∈c)(j:h∈c)(e:g.2.1=h.2.1):g=h:=by
 induction c with
 | nil=>cases i
 | cons x xs l=>
   rw[Yt,nodup_cons]at d;rcases mem_cons.mp i with a|a<;> rcases mem_cons.mp j with b|b
   .rw[a,b]
   .exact(d.1 (by rw[<-a,e];exact Xs %[_,b|rfl])).elim
   .exact(d.1 (by rw[<-b,<-e];exact Xs %[_,a|rfl])).elim
   .exact l d.2 a b
noncomputable def oA{a:Type}(y:Str)(z:a)(b:Gs a):Gs a:=b.map λg=>if g.1=y then(g.1,g.2.1,g.2.2++[z])else g
theorem DS(y:Str)(z:b)(a:Gs b):gD (oA y z a)=gD a:=by
 unfold oA gD;rw[Yu];refine Ys λg _=>?_
 show(Sum.inr (if g.1=y then(g.1,g.2.1,g.2.2++[z])else g).1,V.ref (if g.1=y then(g.1,g.2.1,g.2.2++[z])else g).2.1)=_
 split<;> rfl
theorem DT(y:Str)(z:b)(a:Gs b):(oA y z a).map (·.2.1)=a.map (·.2.1):=by
 unfold oA;rw[Yu];refine Ys λg _=>?_
 show(if g.1=y then(g.1,g.2.1,g.2.2++[z])else g).2.1=_
 split<;> rfl
theorem DU(y:Str)(z:b)(a:Gs b):(oA y z a).map (λg=>(g.1,g.2.2))=(a.map λg=>(g.1,g.2.2)).map λp=>if p.1=y then(p.1,p.2++[z])else p:=by
 unfold oA;rw[Yu,Yu];refine Ys λg _=>?_
 show((if g.1=y then(g.1,g.2.1,g.2.2++[z])else g).1,(if g.1=y then(g.1,g.2.1,g.2.2++[z])else g).2.2)=if g.1=y then(g.1,g.2.2++[z])else(g.1,g.2.2)
 split<;> rfl
theorem iU.up{a:Type}{f:a->V}{b H c:Hp}{d:Addr}{e:Gs a}(h:iU f b H d e)(s:af H c):iU f b c d e:=%[s _ _ h.at_,λg i=>%[(h.la g i).1|s _ _ (h.la g i).2]|h.nd]
theorem iU.add{a:Type}{f:a->V}{l H:Hp}{d:Addr}{b:Gs a}(h:iU f l H d b)(m:(b.map (·.1)).Nodup){g:Str×Addr×List a}(c:g∈b)(z:a):iU f l (upd H g.2.1 (.lst (g.2.2.map f++[f z]))) d (oA g.1 z b):=by
 refine%[?_,λg' j=>?_|by rw[DT];exact h.nd]
 .rw[DS,ap (λe=>by have:=(h.la g c).2;rw[<-e,h.at_]at this;cases this)];exact h.at_
 .obtain⟨n,i,rfl⟩:=Xr j;by_cases e:n.1=g.1
  .rw[if_pos e];obtain rfl:=BF m i c e;refine%[(h.la _ c).1|?_];rw[aa,Zd];rfl
  .rw[if_neg e];refine%[(h.la _ i).1|?_];rw[ap (λq=>e (by rw[zZ h.nd i c q]))];exact(h.la _ i).2
theorem iU.new{l:Gs n}(h:iU f m H d l)(s:af m H)(j:H e=none)(y:Str)(z:n)(o:y∉l.map (·.1)):iU f m (upd (upd (upd H e (.lst [])) d (.dK (d8 (gD l) (Sum.inr y) (.ref e)))) e (.lst [f z])) d (l++[(y,e,[z])]):=by
 have p:d≠e:=λq=>by rw[<-q,h.at_]at j;cases j
 refine%[?_,λg i=>?_|?_]
 .rw[ap p,aa,jM _ (vK o)];unfold gD;rw[Zd];rfl
 .rcases Xp i with i|i
  .refine%[(h.la g i).1|?_];have q:=(h.la g i).2;rw[ap (λc=>by rw[c,j]at q;cases q),ap (λc=>by rw[c,h.at_]at q;cases q),ap (λc=>by rw[c,j]at q;cases q)];exact q
  .rw[Xq i];exact%[s.free j|aa]
 .rw[Zd,X4];refine%[h.nd,by simp|λa r b t c=>?_];obtain⟨g,i,rfl⟩:=Xr r;have q:=(h.la g i).2;rw[show b=e from Xq t]at c;rw[show g.2.1=e from c,j]at q;cases q
def BG(mg:ZC):Sp:=λvs H Q _=>∃(g e f h:Addr) (qs:ZN) (c:ZB) (ts:ZG),vs=[.ref g]/\GrF mg H g e f h qs c ts/\c.Nodup/\c.Pairwise (λa b=>aX b a=false)/\c.length<=5000/\
 ∀l d (ss:ZG),af H d->H l=none->d l=some (.lst (ss.map λt=>V.ref t.1))->md d ss->(∀s∈ss,H s.1=none)->vJ (cj qs) c (ss.map (·.2))->ss.length<=5000->Q (.ref l) d
def DV(mg:ZC):Sp:=λvs H Q _=>∃(g e f h:Addr) (qs:ZN) (c:ZB) (ts:ZG) (z:Str),vs=[.ref g,.str z]/\GrF mg H g e f h qs c ts/\c.Nodup/\c.Pairwise (λa b=>aX b a=false)/\c.length<=5000/\z∈c/\
 ∀d m,af H d->cD (cj qs) z m->Q (.str m) d
theorem cK(T:Txt K mg):↥4 "deposit_of" ["ground","layer"] (DV mg):=by
 refine T.aB.cal oh (λH vs Q E h=>?_)
 .obtain⟨g,c,e,i,qs,j,ts,z,rfl,n,nd,o,b,l,p⟩:=h;refine%[rfl|λf m A outer s a=>?_];refine%[_,(QSs.h (aq (aN (e7 a (λ_ _=>rfl) (aD (dM T) a rfl #[↑0]) ↑1))))|?_];show jd _ _ [!g,-z] H;lk;refine%[g,c,e,i,qs,j,ts,rfl,n,nd,o,b|λd q r t v u a=>?_];have:=dC.k (k:=Sum.inr z) u;rw[kX l]at this;exact%[d,rfl,_,this|p q (r z) t (a z l).2]
theorem uW(T:Txt K mg):↥4 "deposits" ["ground"] (BG mg):=by
 refine T.aA.cal fI (λH vs Q E h=>?_)
 .obtain⟨g,c2,c3,c4,qs,n,ts,rfl,hg,nd,so,a0,kk⟩:=h;refine%[rfl|λf a9 A outer s C=>?_];have lm:(n.map V.str).length=n.length:=Z6 _;refine%[_,(QSs.h (ah (aI 1 fI.nd rfl (aD (dM T) C rfl #[↑0]))
   (ah (aI 2 fI.nd rfl mI)
   (ah (cP PassesOwn.never rfl rfl (cF (K:=K) rfl (pF (eD T) T.bq C rfl rfl ↑0)) (aM 3 fI.nd rfl)
   (aq (bT rfl (E4 (K:=K) rfl plainAttrs_list PySem.F.slot_list_append PySem.F.type_list_append aS rfl rfl rfl rfl (bmO (K:=K) plainAttrs_dict PySem.F.slot_dict_setdefault PySem.F.type_dict_setdefault j3 rfl ↑2 #[(e7 C (λ_ _=>rfl) ↑1 ↑3),cQ ak]) #[↑3]))))
   (aq (aN (ctO (Bm rfl) T.a5 boot_list rfl #[(bm0E (K:=K) rfl plainAttrs_dict PySem.F.slot_dict_values PySem.F.type_dict_values zv rfl rfl ↑2)])))))))|?_]
  show bv _ _ _ [!g,none,none,none] H;refine am λD1 k1 _=>?_
  lk;refine%[g,c2,c3,c4,qs,n,ts,rfl,hg,nd,so,a0|λd H1 r s1 fd I C=>k1 _ _ (am λD2 k2 _=>?_)];lk;intro e fe;refine k2 _ _ (am λD3 k3 _=>aw λa8 hK=>?_);have a1:d≠e:=λc=>by rw[c,fe]at I;cases I
  have s2:=af.upd (o:= .dK []) fe;have ge:upd H1 e (.dK []) e=some (.dK (gD ([]:Gs Str))):=aa;have I:=s2 _ _ I;have fe:=s1.free fe;have Y:=s1.trans s2
  generalize upd H1 e (.dK [])=H2 at s2 ge I Y
  lk;have ac:=hg.up Y;refine kY ac (.inl rfl) %[g,c2,c3,c4,qs,n,ts,rfl,ac|λl1 a2=> .inl %[l1,rfl,%[_|SqL.of aa]|hK _ _ ?_]];have s3:=af.upd (o:= .lst (n.map V.str)) a2;have J:upd H2 l1 (.lst (n.map V.str)) l1=_:=aa;have I:=s3 _ _ I;have ge:=s3 _ _ ge;have ag:=Y.trans s3
  generalize upd H2 l1 (.lst (n.map V.str))=H3 at s3 J I ge ag
  have r2:∀z∈n,r (r z)=r z:=λz L=>by
   have h:=(C z L)
   have h2:=(C _ h.1).2;exact h2.one %[.refl _|λy c=>h.2.2 y (h.2.1.trans c)]
  have al:∀z∈n,r z≠z->aX (r z) z=true:=λz L h=>gu ((C z L).2.2 z (.refl _)) h.symm
  obtain⟨M,a3,a4,a5,ab,s0⟩:∃M:Hp,M e=none/\M d=some (.dK (NmD n r))/\M l1=some (.lst (n.map V.str))/\af H M/\af M H3:=by
   refine%[λa=>if a=e then none else H3 a,if_pos rfl,?_,?_,λa o h=>?_|λa o h=>?_]
   .exact(if_neg (λc=>a1 c)).trans I
   .exact(if_neg (λc=>by rw[c,ge]at J;cases J)).trans J
   .exact(if_neg (λc=>by rw[c,fe]at h;cases h)).trans (ag _ _ h)
   .have h:(if a=e then none else H3 a)=some o:=h
    split at h
    .cases h
    .exact h
  refine bj (xs:=n.map V.str) (λi σ N=>(∃o3,σ=[!g,!d,!e,o3])/\af M N/\∃u,iU V.str M N e u/\u.map (λg=>(g.1,g.2.2))=grp r (n.take i))
   %[%[_|rfl],s0,[],%[ge,λg hg=>(nomatch hg)|X7]|rfl] (λi σ N _ h=>SqL.of (h.2.1 _ _ a5)) ?_ ?_
  .rintro i x σ N hx ⟨⟨o3,rfl⟩,O,u,b,t⟩;rw[Zl]at hx;obtain⟨z,L,rfl⟩:=map_eq_some_iff.mp hx;have zm:=Z8 L;have i1:i<n.length:=(Xo L).1;show jJ _ _ [!g,!d,!e,-z] N;refine aA λD4 k4 _=>?_
   lk;have get:=dC.k (k:=Sum.inr z) (O _ _ a4);rw[kX zm]at get;have gk:u.map (·.1)=(grp r (n.take i)).map (·.1):=by rw[<-t,Yu];rfl
   have an:(u.map (·.1)).Nodup:=by rw[gk];exact kZ (nd.sublist (List.take_sublist _ _))
   have gl:u.length<=n.length:=by
    have:=STab.nodup_sub an (m:=n) λy hy=>by rw[gk,jb]at hy;exact X1 hy.1
    rw[Z6]at this;exact this
   have zn:z∉n.take i:=λhm=>by
    have h:=nd;rw[<-Xe i n,X4]at h;exact h.2.2 z hm z (Z8 (i:=0) (by rw[Yc];exact L)) rfl
   have tk:n.take (i+1)=n.take i++[z]:=by rw[Xd,L];rfl
   refine%[.inr (.inr (.inl (.inl %[_|b.at_]))),_,get,#[0]|λp U=>%[Sum.inr (r z),rfl,gD u,?_,?_,λv hv=>?_|λhv=>?_]]
   .rw[ap (λc=>by rw[<-c,b.at_]at U;cases U)];exact b.at_
   .unfold gD;rw[Z6];exact aC ⋯
   .obtain⟨q,B,e1,rfl⟩:=im hv;have a6:q.1∈u.map (·.1):=Xs %[q,B|rfl];have as:=a6;rw[gk,jb,e1]at as;have rn:r z≠z:=λc=>zn (by rw[<-c];exact as.1)
    have sp:=af.upd (o:= .lst []) U;have hl:=sp _ _ (b.la q B).2;have G:=(b.up sp).add an B z;have ml:q.2.2.length<=n.length:=by
     have:(q.1,q.2.2)∈grp r (n.take i):=by rw[<-t];exact Xs %[q,B|rfl]
     obtain⟨y,hy,c⟩:=Xr this;rw[<-(Prod.mk.inj c).2];exact Yj (Yl _ _) (by rw[Yo];lia)
    refine%[.inl %[_|SqL.of hl],_,rfl,_,hl,by rw[Z6];exact aC ⋯|k4 _ _ %[%[_|rfl],af.set (O.trans sp) (b.la q B).1,_,G|?_]];rw[DU,t,tk,BE rn,e1]
   .have nk:r z∉u.map (·.1):=λh=>by
     obtain⟨q,B,c⟩:=Xr h;have:=lc B;rw[c,hv]at this;exact this rfl
    have rz:r z=z:=Decidable.byContradiction λc=>nk (by rw[gk,jb];exact%[ik so L (C z zm).1 (al z zm c)|r2 z zm])
    have de:e≠p:=λq=>by rw[<-q,b.at_]at U;cases U
    rw[rz]at hv nk ⊢;have gp:upd (upd N p (.lst [])) e (.dK (d8 (gD u) (Sum.inr z) (.ref p))) p=some (.lst []):=by rw[ap de.symm,aa]
    refine%[.inl %[_|SqL.of gp],[],gp,(show 0<sizeLine by decide)|k4 _ _ %[%[_|rfl],af.set (af.set (O.trans (af.upd U)) a3) (O.free U),_,b.new O U z z nk|?_]];rw[Zd,t,tk,BD rz zn λx hx=>?_]
    .rfl
    .obtain⟨j,hj⟩:=List.mem_iff_getElem?.mp hx;have xm:=X1 hx;by_cases c:r x=x
     .rw[c];exact hx
     .have ji:j<i:=by have:=(Xo hj).1;rw[Yo]at this;lia
      rw[List.getElem?_take_of_lt ji]at hj;exact List.take_subset_take_left _ (Yh ji) (ik so hj (C x xm).1 (al x xm c))
  rintro σ N ⟨⟨o3,rfl⟩,O,u,b,t⟩;rw[lm,Zn (Zi _)]at t;refine k3 _ _ ?_;lk;have gk:u.map (·.1)=(grp r n).map (·.1):=by rw[<-t,Yu];rfl
  have gl:u.length<=n.length:=by
   have:=STab.nodup_sub (l:=u.map (·.1)) (by rw[gk];exact kZ nd) (m:=n) λy hy=>by rw[gk,jb]at hy;exact hy.1
   rw[Z6]at this;exact this
  refine%[.inr (.inr (.inl (.inl %[_|b.at_]))),%[_|b.at_]|λv fv=>%[e,aa,_,af.upd fv _ _ b.at_|λl fl=>?_]];have sv:=af.upd (o:=pD v e) fv
  generalize upd N v (pD v e)=H4 at sv fl ⊢
  have sl:=af.upd (o:= .lst ((gD u).map (·.2))) fl;have a7:=O.trans (sv.trans sl);refine kk l _ (u.map (·.2)) (ab.trans a7) ((ab.trans (O.trans sv)).free fl) ?_ (λs hs=>?_) (λs hs=>?_) %[r,C|?_] (by rw[Z6];lia)
  .rw[aa];unfold gD;rw[Yu,Yu];rfl
  .obtain⟨q,B,rfl⟩:=Xr hs;exact sl _ _ (sv _ _ (b.la q B).2)
  .obtain⟨q,B,rfl⟩:=Xr hs;exact ab.free (b.la q B).1
  .rw[<-t,Yu,Yu];rfl
structure cL (S:Str->Str->Prop) (ks0 ks:List _):Prop where
 nd:ks.Nodup
 so:ks.Pairwise (λa b=>dv b a=false)
 mem:∀k,k∈ks↔∃a b z a' b',[a,b,z]∈ks0/\cD S a a'/\cD S b b'/\k=[a',b',z]
theorem cL.one{S:Str->Str->Prop}{c ks d:List ZB}(h:cL S c ks)(g:cL S c d):ks=d:=
 no dv (λ_ _ a b=>kD a b) h.so g.so h.nd g.nd λx=>(h.mem x).trans (g.mem x).symm
noncomputable def uX(r:Str->Str):ZB->ZB
 |[a,b,z]=>[r a,r b,z]
 | k=>k
theorem uY{S:Str->Str->Prop}{c:List _}{l:ZB}{r:Str->Str}(m:∀k∈c,fz l k)(f:∀z∈l,cD S z (r z))(k:ZB):k∈c.map (uX r)↔∃a b z g h,[a,b,z]∈c/\cD S a g/\cD S b h/\k=[g,h,z]:=by
 rw[mem_map]
 constructor
 .rintro⟨t,d,rfl⟩;obtain⟨a,b,z,rfl,i,j⟩:=m t d;exact%[a,b,z,r a,r b,d,f a i,f b j|rfl]
 .rintro⟨a,b,z,g,h,d,n,o,rfl⟩;obtain⟨x,y,u,e,i,j⟩:=m _ d;simp only[List.cons.injEq,and_true]at e;obtain⟨rfl,rfl,rfl⟩:=e;exact%[_,d|by rw[<-(f a i).one n,<-(f b j).one o];rfl]
def z0(mg:ZC):Sp:=λvs H Q _=>∃g e f h qs c ts,vs=[.ref g]/\GrF mg H g e f h qs c ts/\c.Nodup/\c.Pairwise (λa b=>aX b a=false)/\c.length<=5000/\ts.length<=98/\(∀k∈ts.map (·.2),fz c k)/\
 ∀l d ss,af H d->H l=none->d l=some (.lst (ss.map λt=>V.ref t.1))->ba d ss->cL (cj qs) (ts.map (·.2)) (ss.map (·.2))->ss.length<=98->Q (.ref l) d
theorem mf(T:Txt K mg):↥4 "links" ["ground"] (z0 mg):=by
 refine T.aD.cal sL (λH vs Q E h=>?_)
 .obtain⟨g,c2,c3,c4,qs,Y,ts,rfl,hg,nd,so,ab,a3,h3,kk⟩:=h;refine%[rfl|λf a2 A outer s v=>?_];refine%[_,(QSs.h (ah (wx 1 sL.nd rfl Z1 Z0 rfl (aD (dM T) v rfl #[↑0]))
   (aq (aN (cbO (pC (P:=P) (w:=w) rfl rfl rfl) T.a7 boot_sorted rfl #[(ctO (zj (K:=K) (P:=P) (w:=w) rfl rfl rfl rfl v) T.a6 boot_set rfl #[(eE (az.of (show bP (ai l9) ["ground","names"] _ ["later","earlier","source","names"] [(3,1)]=true from by decide +kernel)) rfl rfl (cF (K:=K) rfl (pF (oz T) T.bq v rfl rfl ↑0)) (λ_ _ _=>(fD (K:=K) rfl rfl rfl (gsE rfl (aM 0 (show(["later","earlier","source","names"]:ZB).Nodup from by decide +kernel) rfl) (gsE rfl (aM 1 (show(["later","earlier","source","names"]:ZB).Nodup from by decide +kernel) rfl) (gsE rfl (aM 2 (show(["later","earlier","source","names"]:ZB).Nodup from by decide +kernel) rfl) cO))))) (λ_ _ _=>jf) (λ_ _ _=>(eV #[(e7 v (λ_ _=>rfl) (dU 3 rfl) ↑0),(e7 v (λ_ _=>rfl) (dU 3 rfl) ↑1),↑2])))])])))))|?_]
  show bv _ _ _ [!g,none] H;refine am λD1 k1 _=>?_
  lk;refine%[g,c2,c3,c4,qs,Y,ts,rfl,hg,nd,so,ab|λd H1 r s1 fd hd v=>k1 _ _ ?_];lk;refine aE λa1 hK=>?_
  lk;have B:=hg.up s1;refine kY B (.inr (.inr rfl)) %[g,c2,c3,c4,qs,Y,ts,rfl,B|λI ac=> .inl %[I,rfl,%[_|SqL.of aa]|hK _ _ λF hF=>?_]];have s2:=af.upd (o:= .lst (ts.map λt=>V.ref t.1)) ac;have u:upd H1 I (.lst (ts.map λt=>V.ref t.1)) I=_:=aa
  generalize upd H1 I (.lst (ts.map λt=>V.ref t.1))=H2 at s2 u hF
  have ag:=s2 _ _ hd;have al:=(B.up s2).tu;refine bw (J:=Itl K I) (n:=ts.length) (D:=F) (λj vs σ L=>(∃o1 o2 o3,σ=[o1,o2,o3,!d])/\af H2 L/\L F=some (.lst vs)/\∃ps:ZG,vs=ps.map (λp=>V.ref p.1)/\ba L ps/\ps.map (·.2)=((ts.take j).map (·.2)).map (uX r))
   %[%[none,none,none|rfl],af.upd hF,aa,[],rfl,iT _|rfl] (λj _ _ L C c=>%[_,V.ref ts[j].1,SqL.of (c.2.1 _ _ u)|by simp[C]]) (λ_ _ L c=>%[_,SqL.of (c.2.1 _ _ u)|by simp]) ?_ ?_
  .rintro j vs σ H3 C ⟨⟨o1,o2,o3,rfl⟩,G,M,ps,hv,l,i⟩ x H4 ⟨e2,hx⟩;subst e2;have N:=hx _ (SqL.of (G _ _ u));rw[Zl,Z4 C]at N;obtain rfl:x=V.ref ts[j].1:=(Za N).symm;have tj:=Yf C;obtain⟨a,b,z,e,ha,hb⟩:=h3 _ (Xs %[_,tj|rfl]);have st:=G _ _ (al _ tj).2;rw[e]at st;have get:∀y∈Y,dC H4 d (.str y) (some (.str (r y))):=λy hy=>by
    have:=dC.k (k:=Sum.inr y) (G _ _ ag);rw[kX hy]at this;exact this
   refine%[_,SqT.of st,rfl,_,_,rfl,_,_,rfl,_,_,rfl,rfl|?_];show yG [-a,-b,-z,!d] _ _;lk;refine%[_,get a ha,_,get b hb,#[3]|λp hp=>?_];have sp:=af.upd (o:= .tup [V.str (r a),V.str (r b),V.str z]) hp;have gp:upd H4 p (.tup [V.str (r a),V.str (r b),V.str z]) p=_:=aa;have pl:=congrArg List.length i;rw[Z6,Z6,Z6,Yo]at pl;refine CK.mk C (sp _ _ M) (by rw[hv,Z6];exact aC ⋯) %[%[_,_,_|rfl],af.set (G.trans sp) hF,aa,ps++[(p,[r a,r b,z])],by rw[hv,Zd];rfl,aV (i9 (aV l λb z e=>sp _ _ e) ∅ gp) (ki (ys:=vs++[V.ref p]) (sp _ _ M))|?_];rw[Zd,i,Xd,Z4 C,Zd,Zd];show _++[_]=_++[uX r ts[j].2];rw[e];rfl
  rintro vs σ H3 ⟨_,G,an,ps,hv,l,i⟩;rw[Zn (Zi _)]at i;have pl:=congrArg List.length i;rw[Z6,Z6,Z6]at pl;have p3:∀q∈ps,q.2.length=3:=λq c=>by
   have:q.2∈ps.map (·.2):=Xs %[q,c|rfl];rw[i]at this;obtain⟨k,hk,e⟩:=Xr this;obtain⟨a,b,z,rfl,_⟩:=h3 k hk;rw[<-e];rfl
  refine%[F,rfl,ps,hv▸SqL.of an,l,%[ps.map (·.2),by rw[Z6];lia|λq c=>Xs %[q,c|rfl]]|λl5 as=>?_];have s5:=af.upd (o:=m9 P w l5 (bg ps)) as;have few:(bg ps).length<=98:=by
   have:=STab.nodup_sub (dP ps) (m:=ps.map (·.2)) λk hk=>by
    obtain⟨q,c,rfl⟩:=Xr hk;exact Xs %[q,bu ps q c|rfl]
   rw[Z6,Z6]at this
   lia
  refine%[bg ps,aa,λq c=>%[(l q (bu ps q c)).1|s5 _ _ (l q (bu ps q c)).2],3,λq c=>p3 q (bu ps q c),by decide,⋯|λl6 ss O pm a0=>?_];have s6:=af.upd (o:= .lst (ss.map λq=>V.ref q.1)) O;have U:=s1.trans (s2.trans (G.trans s5));have pk:(ss.map (·.2)).Perm ((bg ps).map (·.2)):=pm.map _;refine kk l6 _ ss (U.trans s6) (U.free O) aa (λq c=>?_) %[pk.nodup_iff.mpr (dP ps),by rw[Xb];exact a0|λk=>?_] (pm.length_eq▸few)
  .have:=l q (bu ps q (pm.mem_iff.mp c));exact%[this.1|s6 _ _ (s5 _ _ this.2)]
  .rw[pk.mem_iff,gT,i];exact uY h3 (λz hz=>(v z hz).2) k
theorem z5{S:Str->Str->Prop}{c:ZB}{r:Str->Str}(d:c.Pairwise (λa b=>aX b a=false))(h:∀z∈c,r z∈c/\cD S z (r z)){p:Str×ZB}(i:p∈grp r c):p.2[0]? =some p.1:=by
 obtain⟨z,j,rfl⟩:=Xr i;obtain⟨l,m⟩:=List.mem_filter.mp j;have f:z∈c.filter (λx=>decide (r x=z)):=List.mem_filter.mpr %[l|m];have d:=d.sublist (List.filter_sublist (p:=λx=>decide (r x=z)));have all:∀x∈c.filter (λx=>decide (r x=z)),aX x z=false:=λx n=>by
  obtain⟨o,s⟩:=List.mem_filter.mp n;exact(Zo s)▸(h x o).2.2 x (.refl _)
 show(c.filter _)[0]? =some z
 generalize c.filter _=g at all f d
 cases g with
 | nil=>cases f
 | cons y g=>
   rw[List.getElem?_cons_zero];rcases mem_cons.mp f with e|e
   .rw[e]
   .have a:=(List.pairwise_cons.mp d).1 z e;by_cases q:y=z
    .rw[q]
    .have:=gu (all y Zm) q
     grind
structure B5 (S:Str->Str->Prop) (ls ns:ZB):Prop where
 nd:ns.Nodup
 mem:∀x,x∈ns↔x∈ls/\cD S x x
 so:ns.Pairwise (λa b=>aX b a=false)
 ne:ls≠[]->ns≠[]
theorem DW{S:Str->Str->Prop}{a:ZB}{r:Str->Str}(c:∀z∈a,r z∈a/\cD S z (r z))(h:a≠[]):(grp r a).map (·.1)≠[]:=by
 obtain⟨z,f⟩:=List.exists_mem_of_ne_nil _ h;obtain⟨e,b⟩:=c z f;have g:cD S (r z) (r z):=%[b.1.symm.trans b.1|λy d=>b.2 y (b.1.trans d)]
 exact List.ne_nil_of_mem (jb.mpr %[e|(c _ e).2.one g])
theorem DZ{r:Str->Str}{xs:ZB}(h:xs.Pairwise (λa b=>aX b a=false)):((grp r xs).map (·.1)).Pairwise (λa b=>aX b a=false):=by
 unfold grp;rw[Yu];show List.Pairwise _ (List.map (λz=>z) _);rw[List.map_id'];exact h.filter _
def xH(mg:ZC):Sp:=λvs H Q _=>∃g f h i qs c ts,vs=[.ref g]/\GrF mg H g f h i qs c ts/\c.Nodup/\c.Pairwise (λa b=>aX b a=false)/\c.length<=5000/\
 ∀l d e,af H d->H l=none->d l=some (.lst (e.map V.str))->B5 (cj qs) c e->Q (.ref l) d
theorem ir(T:Txt K mg):↥5 "deposit_names" ["ground"] (xH mg):=by
 refine T.aC.cal kJ (λH vs Q E h=>?_)
 .obtain⟨g,G,I,L,qs,b,ts,rfl,hg,nd,p,q,kk⟩:=h;refine%[rfl|λf ab A outer s a=>?_];refine%[_,(QSs.h (aq (aN (eE (az.of (show bP (ai cX) ["ground"] _ ["group"] []=true from by decide +kernel)) rfl rfl (cF (K:=K) rfl (aD (uW T) a rfl #[↑0])) (λ_ _ _=>(aM 0 (show(["group"]:ZB).Nodup from by simp) rfl)) (λ_ _ _=>jf) (λ_ _ _=>(↑0>>ar))))))|?_];show jd _ _ [!g] H;lk;refine aE λM hK=>?_
  lk;refine%[g,G,I,L,qs,b,ts,rfl,hg,nd,p,q|λN H1 ss O f1 m la _ ⟨r,a,U⟩ ac=> .inl %[N,rfl,%[_|SqL.of m]|hK _ _ λF t=>?_]];have sg:ss.length=(grp r b).length:=by
   have:=congrArg List.length U;rwa[Z6,Z6]at this
  refine bw (J:=Itl K N) (n:=ss.length) (D:=F) (λj vs u o=>(∃Y,u=[Y])/\af H1 o/\o F=some (.lst vs)/\vs=(((grp r b).take j).map (·.1)).map V.str)
   %[%[none|rfl],af.upd t,aa|rfl] (λj _ _ o c v=>%[_,V.ref ss[j].1,SqL.of (v.2.1 _ _ m)|by simp[c]]) (λ_ _ o v=>%[_,SqL.of (v.2.1 _ _ m)|by simp]) ?_ ?_
  .rintro j vs u H3 c ⟨⟨Y,rfl⟩,d,y,e⟩ x H4 ⟨B,hx⟩;subst B;have i:=hx _ (SqL.of (d _ _ m));rw[Zl,Z4 c]at i;obtain rfl:x=V.ref ss[j].1:=(Za i).symm;have C:j<(grp r b).length:=by lia
   have B:ss[j].2=(grp r b)[j].2:=by
    have:=congrArg (λz=>z[j]?) U;simpa [c,C]using this
   lk;refine%[_,SqL.of (d _ _ (la _ (Yf c))),_,(show atI (ss[j].2.map V.str) ((0:Nat):Int)=some _ from cC (by rw[Zl,B,(z5 p a (Yf C))];rfl))|?_];refine CK.mk c y (by rw[e,Z6,Z6,Yo];exact aC ⋯) %[%[_|rfl],af.set d t,aa|?_];rw[e,Xd,Z4 C,Zd,Zd];rfl
  rintro vs u H3 ⟨_,d,l,e⟩;rw[Zn ⋯]at e;rw[e]at l;refine kk F H3 _ (O.trans d) (O.free t) l %[kZ nd,λx=>?_,DZ p|DW a];rw[jb];refine%[λh=>%[h.1|by have:=(a x h.1).2;rwa[h.2]at this]|λh=>%[h.1|(a x h.1).2.one h.2]]
def GrB(H:Hp)(d:Addr)(ss:ZG)(i:Nat):Prop:=∃a,H d=some (.dK a)/\∀n,(∃l,cE a (Sum.inr n)=some (.ref l)/\H l=some (.lst ((ss.filter λt=>decide (t.2[i]? =some n)).map λt=>V.ref t.1)))\/(cE a (Sum.inr n)=none/\∀t∈ss,t.2[i]? ≠some n)
theorem GrB.up(h:GrB H d ss i)(s:af H e):GrB e d ss i:=by
 obtain⟨c,f,g⟩:=h;exact%[c,s _ _ f|λn=>(g n).imp_left λ⟨l,a,b⟩=>%[l,a|s _ _ b]]
def d6(H:Hp)(a:ZB)(ss:ZG):Prop:=∀t∈ss,H t.1=some (.tup (t.2.map V.str))/\fz a t.2
theorem d6.up(h:d6 H b ss)(s:af H c):d6 c b ss:=λt a=>%[s _ _ (h t a).1|(h t a).2]
theorem D0(h:fz c k)(hi:i<2):∃n,k[i]? =some n/\n∈c:=by
 obtain⟨a,b,z,rfl,d,e⟩:=h
 match i,hi with
 | 0,_=>exact%[a,rfl|d]
 | 1,_=>exact%[b,rfl|e]
def uZ:Sp:=λvs H Q _=>∃(l:Addr) (i:Nat) (b:ZB) (ss:List _),vs=[.ref l,.int i]/\i<2/\H l=some (.lst (ss.map λt=>V.ref t.1))/\d6 H b ss/\ss.length<=98/\∀d a,af H a->H d=none->GrB a d ss i->Q (.ref d) a
def B6(i:Nat):Sp:=λvs H Q _=>∃l b ss,vs=[.ref l]/\H l=some (.lst (ss.map λt=>V.ref t.1))/\d6 H b ss/\ss.length<=98/\∀d a,af H a->H d=none->GrB a d ss i->Q (.ref d) a
theorem pN(T:Txt K mg):↥1 "grouped" ["found","side"] uZ:=by
 refine T.aH.cal jA (λH vs Q E h=>?_)
 .obtain⟨l,i,ns,ss,rfl,hi,Y,ab,as,kk⟩:=h;refine%[rfl|λf an A outer s hr=>?_];have ac:(ss.map λt=>V.ref t.1).length=ss.length:=Z6 _;refine%[_,(QSs.h (ah (aI 2 jA.nd rfl mI)
   (ah (cP PassesOwn.never rfl rfl (cF (K:=K) rfl ↑0) (aM 3 jA.nd rfl)
   (aq (bT rfl (E4 (K:=K) rfl plainAttrs_list PySem.F.slot_list_append PySem.F.type_list_append aS rfl rfl rfl rfl (bmO (K:=K) plainAttrs_dict PySem.F.slot_dict_setdefault PySem.F.type_dict_setdefault j3 rfl ↑2 #[(↑3*>↑1),cQ ak]) #[↑3]))))
   (aq (aN ↑2)))))|?_]
  show bv _ _ _ [!l,some (.int i),none,none] H;refine am λD1 k1 _=>?_
  lk;intro e fe;refine k1 _ _ (am λD2 k2 _=>aw λal hK=>?_);lk;have se:=af.upd (o:= .dK []) fe;refine .inl %[%[_|SqL.of (se _ _ Y)]|hK _ _ ?_];refine bj (xs:=ss.map λt=>V.ref t.1) (λj σ u=>(∃o3,σ=[!l,some (.int i),!e,o3])/\af H u/\∃m,iU (λt:Addr×ZB=>V.ref t.1) H u e m/\(m.map (·.1)).Nodup/\(∀g∈m,g.2.2=(ss.take j).filter λt=>decide (t.2[i]? =some g.1))/\∀n,n∈m.map (·.1)↔∃t∈ss.take j,t.2[i]? =some n)
   %[%[_|rfl],se,[],%[aa,λg B=>(nomatch B)|X7],X7,λg B=>(nomatch B)|by simp] (λj σ u _ h=>SqL.of (h.2.1 _ _ Y)) ?_ ?_
  .rintro j x σ u hx ⟨⟨o3,rfl⟩,I,m,d,gn,J,O⟩;rw[Zl]at hx;obtain⟨t,L,rfl⟩:=map_eq_some_iff.mp hx;have tm:=Z8 L;have j1:j<ss.length:=(Xo L).1;obtain⟨n,M,_⟩:=D0 (ab t tm).2 hi;have tk:ss.take (j+1)=ss.take j++[t]:=by rw[Xd,L];rfl
   show jJ _ _ [!l,some (.int i),!e,some (.ref t.1)] u;refine aA λD4 k4 _=>?_
   lk;have gl:m.length<=ss.length:=by
    have:m.map (·.1) ⊆ ss.filterMap λt=>t.2[i]? :=λy hy=>by
     obtain⟨t,L,e⟩:=(O y).mp hy;exact mem_filterMap.mpr %[t,X1 L|e]
    have:=STab.nodup_sub gn λx hx=>this hx
    rw[Z6]at this;exact Yj this (List.length_filterMap_le _ _)
   have st:=I _ _ (ab t tm).1;have C:∀(N:Gs (Addr×ZB)),(∀y,y∈N.map (·.1)↔y∈m.map (·.1)\/y=n)->∀y,y∈N.map (·.1)↔∃t∈ss.take (j+1),t.2[i]? =some y:=λN h y=>by
    rw[h,O,tk]
    constructor
    .rintro(⟨t',h1,h2⟩|rfl)
     .exact%[t',Yw _ h1|h2]
     .exact%[t,Yx _ Zm|M]
    .rintro⟨t',h1,h2⟩;rcases Xp h1 with q|q
     .exact .inl %[t',q|h2]
     .rw[Xq q,M]at h2;exact .inr (Za h2).symm
   refine%[.inr (.inr (.inl (.inl %[_|d.at_]))),_,SqT.of st,_,cC (show(t.2.map V.str)[i]? =some (.str n) by rw[Zl,M];rfl),#[0]|λp G=>%[Sum.inr n,rfl,gD m,?_,?_,λv U=>?_|λU=>?_]]
   .rw[ap (λc=>by rw[<-c,d.at_]at G;cases G)];exact d.at_
   .unfold gD;rw[Z6];exact aC ⋯
   .obtain⟨q,r,e1,rfl⟩:=im U;have sp:=af.upd (o:= .lst []) G;have Y:=sp _ _ (d.la q r).2;have ml:q.2.2.length<=ss.length:=by
     rw[J q r];exact Yj (Yl _ _) (by rw[Yo];lia)
    have ka:(oA q.1 t m).map (·.1)=m.map (·.1):=by
     unfold oA;rw[Yu];refine Ys λg _=>?_
     show(if g.1=q.1 then(g.1,g.2.1,g.2.2++[t])else g).1=_
     split<;> rfl
    refine%[.inl %[_|SqL.of Y],_,rfl,_,Y,by rw[Z6];exact aC ⋯|k4 _ _ %[%[_|rfl],af.set (I.trans sp) (d.la q r).1,_,((d.up sp).add gn r t),ka▸gn,λg B=>?_|C _ λy=>?_]]
    .unfold oA at B;obtain⟨g0,h0,rfl⟩:=Xr B;rw[tk,Y4];by_cases c:g0.1=q.1
     .rw[if_pos c];show g0.2.2++[t]=_++List.filter (λt=>decide (t.2[i]? =some g0.1)) [t];rw[J g0 h0,Y7 (by rw[M,c,e1];simp),Y8]
     .rw[if_neg c,J g0 h0,Y6 (by rw[M,<-e1];simpa using λz=>c z.symm),Y8,Zz]
    .rw[ka];exact%[.inl|λh=>h.elim id λh=>by rw[h,<-e1];exact Xs %[q,r|rfl]]
   .have nk:n∉m.map (·.1):=λh=>by
     obtain⟨q,r,c⟩:=Xr h;have:=lc r;rw[c,U]at this;exact this rfl
    have de:e≠p:=λq=>by rw[<-q,d.at_]at G;cases G
    have gp:upd (upd u p (.lst [])) e (.dK (d8 (gD m) (Sum.inr n) (.ref p))) p=some (.lst []):=by rw[ap de.symm,aa]
    refine%[.inl %[_|SqL.of gp],[],gp,(show 0<sizeLine by decide)|k4 _ _ %[%[_|rfl],af.set (af.set (I.trans (af.upd G)) fe) (I.free G),_,d.new I G n t nk,?_,λg B=>?_|C _ λy=>?_]]
    .rw[Zd,X4];exact%[gn,by simp|λa ha b hb c=>nk (by rw[<-show b=n from Xq hb,<-c];exact ha)]
    .rw[tk,Y4];rcases Xp B with q|q
     .have c:g.1≠n:=λc=>nk (c▸Xs %[g,q|rfl])
      rw[J g q,Y6 (by rw[M];simpa using λz=>c z.symm),Y8,Zz]
     .rw[Xq q];show [t]=_++List.filter (λt=>decide (t.2[i]? =some n)) [t];rw[Y7 (by rw[M];simp),Y8,List.filter_eq_nil_iff.mpr λt' ag c=>nk ((O n).mpr %[t',ag|Zo c])];rfl
    .rw[Zd,Yv,Yt,map_nil,mem_singleton]
  .rintro σ u ⟨⟨o3,rfl⟩,I,m,d,gn,J,O⟩;rw[ac,Zn (Zi _)]at J O;refine k2 _ _ ?_;lk;refine kk e u I fe %[_,d.at_|λn=>?_];cases U:cE (gD m) (Sum.inr n)with
   | none=>
     refine .inr %[rfl|λt L c=>?_];obtain⟨q,r,c⟩:=Xr ((O n).mpr %[t,L|c]);have:=lc r;rw[c,U]at this;exact this rfl
   | some v=>
     obtain⟨q,r,e1,rfl⟩:=im U;refine .inl %[_,rfl|?_];rw[(d.la q r).2,J q r,e1]
theorem dN(T:Txt K mg):↥2 "links_by_later" ["found"] (B6 0):=by
 refine T.aE.cal j8 (λH vs Q E h=>?_)
 .obtain⟨l,c,ss,rfl,g,a,b,i⟩:=h;refine%[rfl|λf d A outer s e=>?_];exact%[_,(QSs.h (aq (aN (aD (pN T) e rfl #[↑0,gvE T.ak rfl rfl])))),l,0,c,ss,rfl,by simp,g,a,b|i]
theorem jG(T:Txt K mg):↥2 "links_by_earlier" ["found"] (B6 1):=by
 refine T.aF.cal jh (λH vs Q E h=>?_)
 .obtain⟨l,c,ss,rfl,g,a,b,i⟩:=h;refine%[rfl|λf d A outer s e=>?_];exact%[_,(QSs.h (aq (aN (aD (pN T) e rfl #[↑0,gvE T.al rfl rfl])))),l,1,c,ss,rfl,by simp,g,a,b|i]
structure ReB (ss:ZG) (rs:Gs Str):Prop where
 nd:(rs.map (·.1)).Nodup
 sub:∀r∈rs,r.2∈ss/\r.2.2[1]? =some r.1
theorem ReB.len(h:ReB ss a):a.length<=ss.length:=by
 have:=STab.nodup_sub h.nd (m:=ss.filterMap λt=>t.2[1]?) λx b=>by
  obtain⟨r,c,rfl⟩:=Xr b;exact mem_filterMap.mpr %[r.2|h.sub r c]
 rw[Z6]at this;exact Yj this (List.length_filterMap_le _ _)
theorem ReB.snoc(h:ReB ss d)(e:(a,[p,y,z])∈ss)(f:y∉d.map (·.1)):ReB ss (d++[(y,a,[p,y,z])]):=by
 refine%[?_|λr g=>?_]
 .rw[Zd,X4];exact%[h.nd,by simp|λa i b j c=>f (by rw[<-show b=y from Xq j,<-c];exact i)]
 .rcases Xp g with q|q
  .exact h.sub r q
  .rw[Xq q];exact%[e|rfl]
def eI(d:Addr)(H a:Hp):Prop:=∀b o,b≠d->H b=some o->a b=some o
theorem eI.trans(h:eI d H c)(g:eI d c a):eI d H a:=λb o n e=>g b o n (h b o n e)
theorem eI.of(h:af H a):eI d H a:=λb o _ e=>h b o e
theorem GrB.x(h:GrB H b ss i)(s:eI d H f)(n:b≠d)(m:H d=some (.dK o)):GrB f b ss i:=by
 obtain⟨e,g,j⟩:=h;exact%[e,s _ _ n g|λn=>(j n).imp_left λ⟨l,a,b⟩=>%[l,a|s _ _ (λc=>by lia) b]]
theorem d6.x(h:d6 H e ss)(s:eI d H f)(g:H d=some (.dK i)):d6 f e ss:=λt a=>%[s _ _ (λc=>by have b:=(h t a).1;grind) (h t a).1|(h t a).2]
theorem GrB.get(h:GrB f b ss i)(s:eI d f H)(nb:b≠d)(q:∀xs,f d≠some (.lst xs))(r:H p=none)(n:Str):∃e a,upd H p (.lst []) b=some (.dK e)/\(cE e (Sum.inr n)).getD (.ref p)= .ref a/\upd H p (.lst []) a=some (.lst ((ss.filter λt=>decide (t.2[i]? =some n)).map λt=>V.ref t.1))/\(a=p\/∃o,f a=some o):=by
 obtain⟨e,m,u⟩:=h;have sp:=af.upd (o:= .lst []) r;rcases u n with⟨l,g,j⟩|⟨g,v⟩
 .exact%[e,l,sp _ _ (s _ _ nb m),by rw[g];rfl,sp _ _ (s _ _ (λc=>q _ (c▸j)) j)|.inr %[_|j]]
 .refine%[e,p,sp _ _ (s _ _ nb m),by rw[g];rfl,?_|.inl rfl];rw[List.filter_eq_nil_iff.mpr λt y c=>v t y (Zo c)];exact aa
def BH:Sp:=λvs H Q _=>∃(b e d:Addr) (f F:ZB) (ss:List _) (a:Gs Str),vs=[.ref b,.ref e,.ref d]/\b≠d/\GrB H b ss 0/\d6 H f ss/\ss.length<=98/\H e=some (.lst (F.map V.str))/\H d=some (.dK (gD a))/\ReB ss a/\
 ∀g c new,eI d H c->H g=none->c g=some (.lst ((new.map (·.1)).map V.str))->c d=some (.dK (gD (a++new)))->ReB ss (a++new)->(∀r∈new,∃p∈F,r.2.2[0]? =some p)->(∀x∈F,∀y,Ed (ss.map (·.2)) x y->y∈(a++new).map (·.1))->Q (.ref g) c
theorem sV(T:Txt K mg):↥1 "next_edge" ["beneath","edge","reached"] BH:=by
 refine T.aK.cal eJ (λH vs Q E h=>?_)
 .obtain⟨b,e,d,ns,F,ss,B,rfl,an,hb,as,bm,he,hd,a7,kk⟩:=h;refine%[rfl|λf bl A outer s hr=>?_];have Fm:(F.map V.str).length=F.length:=Z6 _;have ed:e≠d:=λc=>by rw[c,hd]at he;cases he
  refine%[_,(QSs.h (ah (aI 3 eJ.nd rfl (cQ ak))
   (ah (cP PassesOwn.never rfl rfl (cF (K:=K) rfl ↑1) (aM 4 eJ.nd rfl)
   (aq (cP PassesOwn.never rfl rfl (cF (K:=K) rfl (bmO (K:=K) plainAttrs_dict slot_dict_get type_dict_get zw rfl ↑0 #[↑4,cQ ak])) (aM 5 eJ.nd rfl)
    (aq (ifS (j7 hr rfl (↑5*>(gvE T.al rfl rfl)) ↑2)
     (ah (lF hr rfl ↑5 ↑2 (↑5*>(gvE T.al rfl rfl)))
      (aq (bT rfl (bmO (K:=K) plainAttrs_list PySem.F.slot_list_append PySem.F.type_list_append aS rfl ↑3 #[(↑5*>(gvE T.al rfl rfl))]))))
     bh)))))
   (aq (aN ↑3)))))|?_]
  show bv _ _ _ [!b,!e,!d,none,none,none] H;refine am λD1 k1 _=>?_
  lk;refine%[#[0]|λg fg=>k1 _ _ (am λD2 k2 _=>aw λa0 hK=>?_)];have gd:g≠d:=λc=>by rw[c,hd]at fg;cases fg
  have s1:=af.upd (o:= .lst []) fg;have gg:upd H g (.lst []) g=some (.lst ((([]:Gs Str).map (·.1)).map V.str)):=aa
  generalize upd H g (.lst [])=H1 at s1 gg
  lk;refine .inl %[%[_|SqL.of (s1 _ _ he)]|hK _ _ ?_];refine bj (xs:=F.map V.str) (λi σ H'=>(∃o4 o5,σ=[!b,!e,!d,!g,o4,o5])/\eI d H H'/\∃new:Gs Str,H' g=some (.lst ((new.map (·.1)).map V.str))/\H' d=some (.dK (gD (B++new)))/\ReB ss (B++new)/\(∀r∈new,∃p∈F,r.2.2[0]? =some p)/\∀x∈F.take i,∀y,Ed (ss.map (·.2)) x y->y∈(B++new).map (·.1))
   %[%[_,_|rfl],eI.of s1,[],gg,by rw[Zz];exact s1 _ _ hd,by rw[Zz];exact a7,λr hr=>(nomatch hr)|λx G=>(nomatch G)] (λi σ H' _ h=>SqL.of (h.2.1 _ _ ed he)) ?_ ?_
  .rintro i x σ H' G ⟨⟨o4,o5,rfl⟩,sm,new,hg,l,M,al,m⟩;rw[Zl]at G;obtain⟨n,hn,rfl⟩:=map_eq_some_iff.mp G;have tk:F.take (i+1)=F.take i++[n]:=by rw[Xd,hn];rfl
   show vW _ _ _ _ [!b,!e,!d,!g,-n,o5] H';refine aA λD3 k3 _=>aw λa0 hK=>?_
   lk;refine%[.inr (.inr (.inl (.inl %[_|sm _ _ an hb.choose_spec.1]))),#[0]|λp hp=>?_];obtain⟨a8,a,a1,a9,N,bb⟩:=hb.get sm an (λxs c=>by rw[hd]at c;cases c) hp n;have ag:a≠g:=by
    rcases bb with rfl|⟨o,ho⟩
    .exact λc=>by rw[c,hg]at hp;cases hp
    .exact λc=>by rw[c,fg]at ho;cases ho
   have ad:a≠d:=λc=>by
    have:=N;rw[c,ap (λc=>by rw[c,hp]at l;cases l),l]at this;cases this
   have sp:=af.upd (o:= .lst []) hp;have hg:=sp _ _ hg;have l:=sp _ _ l;have sm:=sm.trans (eI.of sp)
   generalize upd H' p (.lst [])=H2 at a1 N sp hg l sm ⊢
   generalize a2:(ss.filter λt=>decide (t.2[0]? =some n))=ts at N
   have tm:(ts.map λt=>V.ref t.1).length=ts.length:=Z6 _;have bc:∀t∈ts,t∈ss/\∃y z,t.2=[n,y,z]:=λt ht=>by
    rw[<-a2]at ht;obtain⟨h1,h2⟩:=List.mem_filter.mp ht;obtain⟨x,y,z,e,_⟩:=(as t h1).2;have h2:=Zo h2;rw[e]at h2;exact%[h1,y,z|by rw[e,show x=n from Za h2]]
   refine%[Sum.inr n,rfl,a8,a1|.inl %[a,a9,%[_|SqL.of N]|hK _ _ ?_]];refine bj (xs:=ts.map λt=>V.ref t.1) (λj σ Y=>(∃o5,σ=[!b,!e,!d,!g,-n,o5])/\eI d H Y/\Y a=some (.lst (ts.map λt=>V.ref t.1))/\∃new:Gs Str,Y g=some (.lst ((new.map (·.1)).map V.str))/\Y d=some (.dK (gD (B++new)))/\ReB ss (B++new)/\(∀r∈new,∃p∈F,r.2.2[0]? =some p)/\(∀x∈F.take i,∀y,Ed (ss.map (·.2)) x y->y∈(B++new).map (·.1))/\∀t∈ts.take j,∀y,t.2[1]? =some y->y∈(B++new).map (·.1))
    %[%[_|rfl],sm,N,new,hg,l,M,al,m|λt ht=>(nomatch ht)] (λj σ Y _ h=>SqL.of h.2.2.1) ?_ ?_
   .rintro j x σ Y G ⟨⟨o5,rfl⟩,O,U,new,ab,J,C,I,u,ac⟩;rw[Zl]at G;obtain⟨t,ht,rfl⟩:=map_eq_some_iff.mp G;obtain⟨a3,y,z,et⟩:=bc t (Z8 ht);have L:=(as.x O hd t a3).1;rw[et]at L;have bf:ts.take (j+1)=ts.take j++[t]:=by rw[Xd,ht];rfl
    show lL _ _ _ _ [!b,!e,!d,!g,-n,some (.ref t.1)] Y;refine aA λD4 k4 _=>?_
    lk;refine%[_,SqT.of L,_,rfl,_,dC.k (k:=Sum.inr y) J|?_];have a4:∀(nw:Gs Str),(∀x∈(B++new).map (·.1),x∈(B++nw).map (·.1))->y∈(B++nw).map (·.1)->(∀x∈F.take i,∀y,Ed (ss.map (·.2)) x y->y∈(B++nw).map (·.1))/\∀t∈ts.take (j+1),∀y,t.2[1]? =some y->y∈(B++nw).map (·.1):=λnw mono hy=>by
     refine%[λx G y h=>mono y (u x G y h)|λt' a5 y' h=>?_];rw[bf]at a5;rcases Xp a5 with q|q
     .exact mono y' (ac t' q y' h)
     .rw[Xq q,et]at h;rw[<-show y=y' from Za h];exact hy
    cases hv:cE (gD (B++new)) (Sum.inr y)with
    | some v=>
      rw[if_neg ∅];obtain⟨q,hq,e1,_⟩:=im hv;obtain⟨n1,n2⟩:=a4 new (λ_ h=>h) (by rw[<-e1];exact Xs %[q,hq|rfl]);exact k4 _ _ %[%[_|rfl],O,U,new,ab,J,C,I,n1|n2]
    | none=>
      rw[if_pos (by rfl)];have hy:y∉(B++new).map (·.1):=λh=>by
       obtain⟨q,hq,c⟩:=Xr h;have:=lc hq;rw[c,hv]at this;exact this rfl
      have ln:=C.len;have nl:new.length<=98:=by rw[Z9]at ln;lia
      refine%[_,SqT.of L,_,rfl,_,lN.k (k:=Sum.inr y) J (by unfold gD;rw[Z6];exact aC ⋯)|?_];rw[jM _ hv];have e1:gD (B++new) ++[(Sum.inr y,V.ref t.1)]=gD (B++(new++[(y,t.1,[n,y,z])])):=by
       unfold gD;rw[<-Ze,Zd (l₂:=[_])];rfl
      rw[e1];have u1:∀c o,c≠d->Y c=some o->upd Y d (.dK (gD (B++(new++[(y,t.1,[n,y,z])])))) c=some o:=λc o h e=>(ap h)▸e
      have a6:=u1 _ _ gd ab;have R:=C.snoc (p:=n) (y:=y) (z:=z) (a:=t.1) (et▸a3) hy;rw[Ze]at R;obtain⟨n1,n2⟩:=a4 (new++[(y,t.1,[n,y,z])]) (λx G=>by rw[<-Ze,Zd];exact Yw _ G) (by rw[<-Ze,Zd];exact Yx _ Zm);refine%[.inl %[_|SqL.of a6],_,SqT.of (u1 _ _ (λc=>by rw[c,J]at L;cases L) L),_,rfl,_,a6,by rw[Z6,Z6];exact aC ⋯|k4 _ _ %[%[_|rfl],λc o h e=>?_,(ap ag).trans (u1 _ _ ad U),_,?_,(ap gd.symm).trans aa,R,?_,n1|n2]]
      .rw[ap (av e fg)];exact u1 _ _ h (O _ _ h e)
      .rw[aa,Zd,Zd];rfl
      .intro r hr;rcases Xp hr with q|q
       .exact I r q
       .rw[Xq q];exact%[n,Z8 hn|rfl]
   .rintro σ Y ⟨⟨o5,rfl⟩,O,U,new,ab,J,C,I,u,ac⟩;rw[tm,Zn (Zi _)]at ac;refine k3 _ _ %[%[_,_|rfl],O,new,ab,J,C,I|λx G y ⟨z,hy⟩=>?_];rw[tk]at G;rcases Xp G with q|q
    .exact u x q y %[z|hy]
    .rw[Xq q]at hy;obtain⟨t,ht,et⟩:=Xr hy;exact ac t (a2▸List.mem_filter.mpr %[ht|by rw[et];simp]) y (by rw[et];rfl)
  .rintro σ H' ⟨⟨o4,o5,rfl⟩,sm,new,hg,l,M,al,m⟩;rw[Fm,Zn (Zi _)]at m;refine k2 _ _ ?_;lk;exact kk g H' new sm fg hg l M al m
theorem pO{b:Bool}(h: ¬ (not b)=true):b=true:=by
 cases b
 .exact absurd rfl h
 .rfl
theorem u4{a:Gs Str}{y:Str}(h:y∈a.map (·.1)):∃r∈a,r.1=y/\cE (gD a) (Sum.inr y)=some (.ref r.2.1):=by
 cases d:cE (gD a) _ with
 | none=>
   obtain⟨q,b,c⟩:=Xr h;have:=lc b;rw[c,d]at this;exact(this rfl).elim
 | some v=>
   obtain⟨q,b,e,rfl⟩:=im d;exact%[q,b,e|rfl]
def Ea:Sp:=λvs H Q _=>∃d st a f F ss b e k,vs=[.ref d,.str st,.str a]/\H d=some (.dK (gD b))/\ReB ss b/\Lev (ss.map (·.2)) st b e k F/\k<=100/\d6 H f ss/\a∈b.map (·.1)/\
 ∀l c (ws:List _),af H c->H l=none->c l=some (.lst (ws.map λt=>V.ref t.1))->(∀t∈ws,t∈ss)->Wal (ws.map (·.2)) st a->ws.length=e a->Q (.ref l) c
theorem z6(T:Txt K mg):↥1 "way_to" ["reached","start","goal"] Ea:=by
 refine T.aL.cal pI (λH vs Q E h=>?_)
 .obtain⟨d,st,a,ns,F,ss,C,i,k,rfl,hd,G,l,hk,I,n,kk⟩:=h;refine%[rfl|λf ab A outer s j=>?_];refine%[_,(QSs.h (ah (aI 3 pI.nd rfl (cQ #[(e7 j (λ_ _=>rfl) ↑0 ↑2)]))
   (ah (nh PassesOwn.never (bF eF rfl ((↑3>>(t8 ar))*>(gvE T.ak rfl rfl)) ↑1)
   (aq (bT rfl (bmO (K:=K) plainAttrs_list PySem.F.slot_list_append PySem.F.type_list_append aS rfl ↑3 #[(e7 j (λ_ _=>rfl) ↑0 ((↑3>>(t8 ar))*>(gvE T.ak rfl rfl)))]))))
   (aq (aN (zA rfl rfl T.a9 rfl T.a5 rfl ↑3))))))|?_]
  show bv _ _ _ [!d,-st,-a,none] H;refine am λD1 k1 _=>?_
  lk;obtain⟨r,J,e1,hv⟩:=u4 n;have get:=dC.k (k:=Sum.inr a) hd;rw[hv]at get;refine%[_,get,#[1]|λb fw=>k1 _ _ (am λD2 k2 _=>?_)];have s1:=af.upd (o:= .lst [V.ref r.2.1]) fw;have gw:upd H b (.lst [V.ref r.2.1]) b=some (.lst (([]:ZG).reverse.map (λt=>V.ref t.1) ++[V.ref r.2.1])):=aa
  generalize upd H b (.lst [V.ref r.2.1])=H1 at s1 gw
  refine⟨λm σ u=>σ=[!d,-st,-a,!b]/\af H u/\∃(us:ZG) (r:Str×Addr×ZB),r∈C/\m=i r.1/\u b=some (.lst (us.reverse.map (λt=>V.ref t.1) ++[.ref r.2.1]))/\(∀t∈us,t∈ss)/\Wal (us.map (·.2)) r.1 a/\us.length+m=i a,%[_,rfl,s1,[],r,J,rfl,gw,λt h=>(nomatch h),e1|by rw[e1];simp],?_⟩;rintro m σ H2 ⟨rfl,v,us,r,j,rfl,hw,y,B,hl⟩;obtain⟨ac,p,z,L,hp⟩:=l.by_ r j;have e:=(G.sub r j).1;have g:=v _ _ (I _ e).1;rw[L]at g;have gl:=l.le a n;lk;refine%[_,SqL.of hw,_,rj _ _,_,rfl,_,SqT.of g,_,rfl,rfl|bI (λh=>?_) λh=>?_]
  .have h:p≠st:=by simpa using h
   obtain⟨_,M,ag⟩:=hp.resolve_left λc=>h c.1
   obtain⟨r',N,O,U⟩:=u4 M;have get:=dC.k (k:=Sum.inr p) (v _ _ hd);rw[U]at get;refine⟨λY u=>∃m',m'<i r.1/\Y=[!d,-st,-a,!b]/\af H u/\∃(us:ZG) (r:Str×Addr×ZB),r∈C/\m'=i r.1/\u b=some _/\(∀t∈us,t∈ss)/\Wal (us.map (·.2)) r.1 a/\us.length+m'=i a,λ_ _ h=>h,.inl %[_|SqL.of hw],_,SqL.of hw,_,rj _ _,_,rfl,_,SqT.of g,_,rfl,_,get,_,hw,by rw[Z9,Z6,List.length_reverse,Yn];exact aC ⋯,_,?_,rfl,af.set v fw,r.2::us,r',N,rfl,?_,?_,?_,?_⟩
   .rw[O];lia
   .rw[aa,List.reverse_cons,Zd];rfl
   .intro t ht;rcases mem_cons.mp ht with q|q
    .exact q▸e
    .exact y t q
   .exact%[r.1,z,L.trans (by rw[O])|B]
   .rw[Zr,O];lia
  .have h:p=st:=by simpa using h
   refine k2 _ _ ?_;lk;refine%[_,hw|λq fq=>kk q _ (r.2::us) (v.trans (af.upd fq)) (v.free fq) ?_ (λt ht=>?_) %[r.1,z,L.trans (by rw[h])|B] (by rw[Zr];lia)]
   .rw[aa,List.reverse_append,<-List.map_reverse,List.reverse_reverse];rfl
   .rcases mem_cons.mp ht with q|q
    .exact q▸e
    .exact y t q
def z7:Sp:=λvs H Q _=>∃b st a d ss,vs=[.ref b,.str st,.str a]/\GrB H b ss 0/\d6 H d ss/\ss.length<=98/\(∀c,af H c-> ¬ Rch (ss.map (·.2)) st a->Q .non c)/\∀l c (ws:List _),af H c->H l=none->c l=some (.lst (ws.map λt=>V.ref t.1))->(∀t∈ws,t∈ss)->Sho (ss.map (·.2)) st a (ws.map (·.2))->ws.length<=100->Q (.ref l) c
def E5(H:Hp)(b d:Addr)(st c:Str)(ss:ZG)(m:Nat)(g:L2.St)(f:Hp):Prop:=∃e F a h k,g=[!b,-st,-c,!d,!e]/\af H f/\f e=some (.lst (F.map V.str))/\f d=some (.dK (gD a))/\ReB ss a/\Lev (ss.map (·.2)) st a h k F/\k<=a.length+1/\(F≠[]->k<=a.length)/\m=2*(98-a.length) +F.length.min 1
theorem iV(T:Txt K mg):↥2 "shortest_way" ["beneath","start","goal"] z7:=by
 refine T.aJ.cal cY (λH vs Q E h=>?_)
 .obtain⟨b,st,i,ns,ss,rfl,hb,I,al,kn,ky⟩:=h;refine%[rfl|λf a4 A outer s G=>?_];refine%[_,(QSs.h (ah (aI 3 cY.nd rfl mI)
   (ah (aI 4 cY.nd rfl (cQ #[↑1]))
   (ah (nh PassesOwn.never (wT (kz (bF wB rfl ↑↑4 ar) (iH (j7 G rfl ↑2 ↑3))))
   (aq (aI 4 cY.nd rfl (aD (sV T) G rfl #[↑0,↑4,↑3]))))
   (ah (ifS (j7 G rfl ↑2 ↑3)
   (aq (aN tZ))
   bh)
   (aq (aN (aD (z6 T) G rfl #[↑3,↑1,↑2]))))))))|?_]
  show bv _ _ _ [!b,-st,-i,none,none] H;refine am λD1 k1 _=>?_
  lk;intro d fd;refine k1 _ _ (am λD2 k2 _=>?_);have an:b≠d:=λc=>by
   obtain⟨a5,O,_⟩:=hb;rw[c,fd]at O;cases O
  have s1:=af.upd (o:= .dK []) fd;have B:upd H d (.dK []) d=some (.dK (gD ([]:Gs Str))):=aa
  generalize upd H d (.dK [])=H1 at s1 B
  lk;refine%[#[1]|λe fe=>k2 _ _ (am λD3 k3 _=>?_)];have s2:=af.upd (o:= .lst [V.str st]) fe;have U:upd H1 e (.lst [V.str st]) e=some (.lst ([st].map V.str)):=aa;have B:=s2 _ _ B;have Y:=s1.trans s2
  generalize upd H1 e (.lst [V.str st])=H2 at Y U B
  refine%[E5 H b d st i ss,%[_,e,[st],[],_,_,rfl,Y,U,B,%[X7|λ_ h=>(nomatch h)],.nil,by simp,λ_=>Zi _|rfl]|?_];rintro m σ H3 ⟨e,F,C,dd,k,rfl,J,U,B,L,j,hk,as,rfl⟩;have fm:(F.map V.str).length=F.length:=Z6 _;have get:=dC.k (k:=Sum.inr i) B;have rl:=L.len;have M:i∈C.map (·.1)↔(cE (gD C) (Sum.inr i)).isSome=true:=by
   refine%[λh=>?_|λh=>?_]
   .obtain⟨r,_,_,e⟩:=u4 h;rw[e];rfl
   .obtain⟨v,hv⟩:=isSome_iff_exists.mp h;obtain⟨q,hq,c,_⟩:=im hv;exact c▸Xs %[q,hq|rfl]
  lk;have ab:(i∉C.map (·.1)->F=[])->D3.nx [!b,-st,-i,!d,!e] H3:=λh=>by
   refine k3 _ _ (am λD4 k4 r4=>?_);lk;refine%[_,get|bI (λq=>?_) λq=>?_]
   .have q:i∉C.map (·.1):=λc=>by rw[M.mp c]at q;cases q
    refine r4 _ _ (kn H3 J λr=>q ?_);obtain⟨n,hn⟩:=r.dst;rw[h q]at j;exact j.stop hn
   .have q:i∈C.map (·.1):=M.mpr (pO q);refine k4 _ _ ?_;lk;refine%[d,st,i,ns,F,ss,C,dd,k,rfl,B,L,j,⋯,I.up J,q|λl H' ws s' fl hl ac a0 wl=>ky l H' ws (J.trans s') (J.free fl) hl ac %[λk hk=>?_,a0,?_|λn hn=>?_] (by rw[wl];have:=j.le _ q;lia)]
    .obtain⟨t,ht,rfl⟩:=Xr hk;exact Xs %[t,ac t ht|rfl]
    .rw[Z6,wl];exact(j.dst q).1
    .rw[Z6,wl];exact j.min q hn
  refine%[_,.inl %[_,SqL.of U|rfl]|bI (λh=>?_) λh=>ab λ_=>?_]
  .have h:0<F.length:=by
    rw[fm]at h;have:=Zo h
    lia
   refine%[_,get|bI (λq=>⟨λa1 H'=>∃m',m'<2*(98-C.length) +F.length.min 1/\E5 H b d st i ss m' a1 H',λ_ _ h=>h,b,e,d,ns,F,ss,C,rfl,an,hb.up J,I.up J,al,U,B,L,λg H4 new sx fg hg a2 u a3 N=>?_⟩) λq=>ab λc=>absurd (M.mpr (pO q)) c];have ln:=u.len;rw[Z9]at ln;have ag:F.length.min 1=1:=Nat.min_eq_right h;have kF:=as λc=>by rw[c]at h;cases h
   refine%[_,?_,g,new.map (·.1),C++new,_,_,rfl,(λc o ec=>sx c o (λz=>by rw[z,fd]at ec;cases ec) (J _ _ ec)),hg,a2,u,j.step u.nd (λr G=>?_) N,?_,λnn=>?_|rfl]
   .rw[ag,Z9,Z6];cases new with
    | nil=>simp
    | cons a r=>
      rw[Zr]at ln ⊢;have:(r.length+1).min 1<=1:=Nat.min_le_right _ _
      lia
   .obtain⟨O,h2⟩:=u.sub r (Yx _ G);obtain⟨p,hp,h3⟩:=a3 r G;obtain⟨x,y,z,e,_⟩:=(I r.2 O).2;rw[e]at h2 h3;exact%[Xs %[_,O|rfl],p,z,hp|by rw[e,show x=p from Za h3,show y=r.1 from Za h2]]
   .rw[Z9];lia
   .cases new with
    | nil=>exact absurd rfl nn
    | cons a r=>rw[Z9,Zr];lia
  .cases F with
   | nil=>rfl
   | cons x F=>exact absurd (Zf (by rw[fm,Zr];lia)) h
noncomputable def VD(a:ZB)(g:Str->V):List (Key×V):=a.map λz=>(Sum.inr z,g z)
theorem jH:∀{a:ZB},z∈a->cE (VD a g) (Sum.inr z)=some (g z)
 | x::a,h=>by
   by_cases e:x=z
   .subst e;exact eT rfl
   .rw[show VD _ g=(Sum.inr x,g x)::VD a g from rfl,di (λq=>e (Sum.inr.inj q))];exact jH ((mem_cons.mp h).resolve_left λq=>e q.symm)
theorem kj:∀{a:ZB},z∉a->cE (VD a g) (Sum.inr z)=none
 |[],_=>rfl
 | x::a,h=>by
   rw[Yy,not_or]at h;rw[show VD _ g=(Sum.inr x,g x)::VD a g from rfl,di (λq=>h.1 (Sum.inr.inj q).symm)];exact kj h.2
theorem Eb(h:z∈a):d8 (VD a g) (Sum.inr z) v=VD a (λx=>if x=z then v else g x):=by
 unfold d8;rw[if_pos (by rw[iB,jH h];rfl)];unfold VD;rw[Yu];refine Ys λx _=>?_
 show(if(Sum.inr x)=Sum.inr z then((Sum.inr x),v)else(Sum.inr x,g x))=(Sum.inr x,if x=z then v else g x)
 by_cases e:x=z
 .rw[if_pos (congrArg _ e),if_pos e]
 .rw[if_neg (λq=>e (Sum.inr.inj q)),if_neg e]
noncomputable def cnt(ss:ZG)(L:ZB)(n:Str):Nat:=ss.countP λt=>decide (t.2[0]? =some n)&&t.2[1]?.all λy=>decide (y∉L)
theorem BI(ss:List _)(n:Str):cnt ss [] n=(ss.filter λt=>decide (t.2[0]? =some n)).length:=by
 unfold cnt;rw[<-List.countP_eq_length_filter]
 simp_all
theorem z8(h:cnt ss L m=0)(e:Ed (ss.map (·.2)) m y):y∈L:=by
 obtain⟨z,a⟩:=e;obtain⟨t,b,c⟩:=Xr a;have:=List.countP_eq_zero.mp h t b
 simp_all
theorem sW(b:m∉L):∀ss:ZG,cnt ss L n=cnt ss (L++[m]) n+(ss.filter λt=>decide (t.2[1]? =some m)).countP λt=>decide (t.2[0]? =some n)
 |[]=>rfl
 | t::ss=>by
   have c:=sW (n:=n) b ss;unfold cnt at c ⊢;rw[countP_cons,countP_cons,c];cases d:t.2[1]? with
   | none=>rw[Y6 ⋯];simp only[Option.all_none];lia
   | some y=>
     by_cases e:y=m
     .subst e;rw[Y7 (by rw[d];simp),countP_cons];by_cases a:t.2[0]? =some n
      .simp[a,b];lia
      .simp[a]
     .rw[Y6 (by rw[d];simpa using e)];by_cases a:t.2[0]? =some n
      .by_cases f:y∈L
       .simp[f]
       .simp[a,f,e];lia
      .simp[a]
structure E6 (ss:ZG) (ns L R:ZB):Prop where
 nd:(L++R).Nodup
 mem:∀x,x∈L++R↔x∈ns/\cnt ss L x=0
 ord:∀i x,L[i]? =some x->∀y,Ed (ss.map (·.2)) x y->y∈L.take i
def E7(f:Hp)(l m b a w e ld:Addr)(d:ZB)(ss:ZG)(k:Nat)(g:L2.St)(c:Hp):Prop:=∃h i j L R,g=[!l,!m,!b,!a,!w,h,!e,!ld,i,j]/\af f c/\c w=some (.dK (VD d λn=> .int (cnt ss L n)))/\c e=some (.lst (R.map V.str))/\c ld=some (.lst (L.map V.str))/\E6 ss d L R/\k=d.length-L.length
def BJ:Sp:=λvs H Q _=>∃l m a ss,vs=[.ref l,.ref m]/\H l=some (.lst (a.map V.str))/\a.Nodup/\a.length<=80/\H m=some (.lst (ss.map λt=>V.ref t.1))/\d6 H a ss/\ss.length<=98/\
 ∀r b (L:ZB),af H b->b r=some (.lst (L.map V.str))->L.Nodup->(∀x∈L,x∈a)->(∀i x,L[i]? =some x->∀y,Ed (ss.map (·.2)) x y->y∈L.take i)->(∀x∈a,x∉L->∃y,Ed (ss.map (·.2)) x y/\y∈a/\y∉L)->Q (.ref r) b
theorem nH(T:Txt K mg):↥3 "laid_in_turn" ["names","found"] BJ:=by
 refine T.aI.cal aY (λH vs Q E h=>?_)
 .obtain⟨l,m,d,ss,rfl,hl,nn,nl,hm,a1,b7,kk⟩:=h;refine%[rfl|λf dk A outer s hr=>?_];have nm:(d.map V.str).length=d.length:=Z6 _;refine%[_,(QSs.h (ah (aI 2 aY.nd rfl (aD (dN T) hr rfl #[↑1]))
   (ah (aI 3 aY.nd rfl (aD (jG T) hr rfl #[↑1]))
   (ah (wx 4 aY.nd rfl Z1 Z0 rfl mI)
   (ah (cP PassesOwn.never rfl rfl (cF (K:=K) rfl ↑0) (aM 5 aY.nd rfl)
   (aq (lF hr rfl ↑((bmO (K:=K) plainAttrs_dict slot_dict_get type_dict_get zw rfl ↑2 #[↑5,cQ ak])) (dU 4 rfl) ↑5)))
   (ah (iJ 6 aY.nd rfl Z0 Z1 rfl (az.of (show bP (ai dj) ["names","found","beneath","above","waits","name","ready","laid","least","link"] _ ["name","waits"] [(1,4)]=true from by decide +kernel)) rfl rfl (cF (K:=K) rfl ↑0) (λ_ _ _=>(aM 0 (show(["name","waits"]:ZB).Nodup from by decide +kernel) rfl)) (λ_ _ _=>(rE (bF cR rfl (e7 hr (λ_ _=>rfl) (dU 1 rfl) ↑0) ar))) (λ_ _ _=>↑0))
   (ah (aI 7 aY.nd rfl (cQ ak))
   (ah (nh PassesOwn.never (bF wB rfl ↑↑6 ar)
   (ah (aI 8 aY.nd rfl (cbO (Dv (K:=K) rfl rfl) T.a0 boot_min rfl #[↑6]))
    (ah (bT rfl (bmO (K:=K) plainAttrs_list PySem.F.slot_list_remove PySem.F.type_list_remove zx rfl ↑6 #[↑8]))
    (ah (bT rfl (bmO (K:=K) plainAttrs_list PySem.F.slot_list_append PySem.F.type_list_append aS rfl ↑7 #[↑8]))
    (aq (cP PassesOwn.never rfl rfl (cF (K:=K) rfl (bmO (K:=K) plainAttrs_dict slot_dict_get type_dict_get zw rfl ↑3 #[↑8,cQ ak])) (aM 9 aY.nd rfl)
    (ah (lF hr rfl (opE oV (e7 hr (λ_ _=>rfl) (dU 4 rfl) (↑9*>(gvE T.ak rfl rfl))) ar) (dU 4 rfl) (↑9*>(gvE T.ak rfl rfl)))
     (aq (ifS (bF cR rfl (e7 hr (λ_ _=>rfl) (dU 4 rfl) (↑9*>(gvE T.ak rfl rfl))) ar)
     (aq (bT rfl (bmO (K:=K) plainAttrs_list PySem.F.slot_list_append PySem.F.type_list_append aS rfl ↑6 #[(↑9*>(gvE T.ak rfl rfl))])))
     bh)))))))))
   (aq (aN ↑7))))))))))|?_]
  show bv _ _ _ [!l,!m,none,none,none,none,none,none,none,none] H;refine am λD1 k1 _=>?_
  lk;refine%[m,d,ss,rfl,hm,a1,b7|λb H1 s1 fb hb=>k1 _ _ (am λD2 k2 _=>?_)];lk;refine%[m,d,ss,rfl,s1 _ _ hm,a1.up s1,b7|λa H2 s2 fa ha=>k2 _ _ (am λD3 k3 _=>?_)];have ag:=s1.trans s2;have hb:=hb.up s2;lk;intro w fw;refine k3 _ _ (am λD4 k4 _=>aw λbc hK=>?_);have s3:=af.upd (o:= .dK []) fw;have gw:upd H2 w (.dK []) w=some (.dK (VD (d.take 0) λn=> .int (cnt ss [] n))):=aa
  generalize upd H2 w (.dK [])=H3 at s3 gw
  have c0:=ag.trans s3;lk;refine .inl %[%[_|SqL.of (c0 _ _ hl)]|hK _ _ ?_];have c1:b≠w:=λc=>by
   obtain⟨an,h1,_⟩:=hb;rw[c,fw]at h1;cases h1
  have c2:a≠w:=λc=>by
   obtain⟨an,h1,_⟩:=ha;rw[c,fw]at h1;cases h1
  have b9:∀xs,H2 w≠some (.lst xs):=λxs c=>by rw[fw]at c;cases c
  refine bj (xs:=d.map V.str) (λi O u=>(∃o5,O=[!l,!m,!b,!a,!w,o5,none,none,none,none])/\af H2 u/\u w=some (.dK (VD (d.take i) λn=> .int (cnt ss [] n))))
   %[%[_|rfl],s3|gw] (λi O u _ h=>SqL.of (h.2.1 _ _ (ag _ _ hl))) ?_ ?_
  .rintro i x O u U ⟨⟨o5,rfl⟩,sm,hw⟩;rw[Zl]at U;obtain⟨n,hn,rfl⟩:=map_eq_some_iff.mp U;have i1:i<d.length:=(Xo hn).1;show oN _ _ _ _ [!l,!m,!b,!a,!w,-n,none,none,none,none] u;refine aA λD5 k5 _=>?_
   lk;refine%[.inr (.inr (.inl (.inl %[_|sm _ _ hb.choose_spec.1]))),#[0]|λp hp=>?_];obtain⟨an,al,c3,a2,Y,ca⟩:=hb.get (eI.of sm) c1 b9 hp n;have sp:=af.upd (o:= .lst []) hp;refine%[Sum.inr n,rfl,an,c3,_,by rw[a2];exact .inl %[_,SqL.of Y|rfl],_,lN.k (k:=Sum.inr n) (sp _ _ hw) (by unfold VD;rw[Z6,Yo];exact aC ⋯)|k5 _ _ %[%[_|rfl],af.set (sm.trans sp) fw|?_]];have zn:n∉d.take i:=λhm=>by
    have h:=nn;rw[<-Xe i d,X4]at h;exact h.2.2 n hm n (Z8 (i:=0) (by rw[Yc];exact hn)) rfl
   rw[aa,jM _ (kj zn),Z6,<-BI,Xd,hn];unfold VD;rw[Zd];rfl
  .rintro O u ⟨⟨o5,rfl⟩,sm,hw⟩;rw[nm,Zn (Zi _)]at hw;refine k4 _ _ (am λD5 k5 _=>aE λbc hK=>?_);lk;have a3:=sm _ _ (ag _ _ hl);refine .inl %[%[_|SqL.of a3]|hK _ _ λM as=>?_];refine bw (J:=Itl K l) (n:=d.length) (D:=M) (λj vs O H3=>(∃o1,O=[o1,!w])/\af u H3/\H3 M=some (.lst vs)/\vs=((d.take j).filter λn=>decide (cnt ss [] n=0)).map V.str)
    %[%[none|rfl],af.upd as,aa|rfl] (λj _ _ H3 hj hq=>%[_,V.str d[j],SqL.of (hq.2.1 _ _ a3)|by simp[hj]]) (λ_ _ H3 hq=>%[_,SqL.of (hq.2.1 _ _ a3)|by simp]) ?_ ?_
   .rintro j vs O H3 hj ⟨⟨o1,rfl⟩,C,cb,hv⟩ x H4 ⟨e2,U⟩;subst e2;have cd:=U _ (SqL.of (C _ _ a3));rw[Zl,Z4 hj]at cd;obtain rfl:x=V.str d[j]:=(Za cd).symm;have get:=dC.k (k:=Sum.inr d[j]) (C _ _ hw);rw[jH (Yf hj)]at get;lk;refine%[_,get,rfl|bI (λh=>?_) λh=>?_]
    .have h:cnt ss [] d[j]=0:=by simpa using h
     refine CK.mk hj cb (by rw[hv,Z6];have:=Yl (λn=>decide (cnt ss [] n=0)) (d.take j);rw[Yo]at this;exact aC ⋯) %[%[_|rfl],af.set C as,aa|?_];rw[hv,Xd,Z4 hj,Y4,Zd];show _=_++(List.filter _ [d[j]]).map V.str;rw[Y7 (by simpa using h)];rfl
    .have h:cnt ss [] d[j]≠0:=by simpa using h
     refine CN.mk hj %[%[_|rfl],C,cb|?_];rw[hv,Xd,Z4 hj,Y4,Zd];show _=_++(List.filter _ [d[j]]).map V.str;rw[Y6 (by simpa using h)];simp
   rintro vs O H3 ⟨_,C,a4,hv⟩;rw[Zn (Zi _)]at hv;rw[hv]at a4;refine k5 _ _ (am λD6 k6 _=>?_);have ab:=C _ _ hw;have bl:=sm.trans C;have bm:w≠M:=λc=>by rw[<-c,hw]at as;cases as
   have br:=sm.free as;lk;refine%[#[0]|λld fld=>k6 _ _ (am λD7 k7 _=>?_)];have s4:=af.upd (o:= .lst []) fld;have bt:upd H3 ld (.lst []) ld=some (.lst (([]:ZB).map V.str)):=aa;have ch:w≠ld:=λc=>by rw[<-c,ab]at fld;cases fld
   have b0:M≠ld:=λc=>by rw[<-c,a4]at fld;cases fld
   have b1:=s4 _ _ ab;have b2:=s4 _ _ a4;have b3:=bl.trans s4;have fld:=bl.free fld
   generalize upd H3 ld (.lst [])=H4 at s4 bt b1 b2 b3
   refine%[E7 H2 l m b a w M ld d ss,%[_,o5,none,none,[],_,rfl,b3,b1,b2,bt,%[nn.filter _,λx=>by simp|λi x e=>by simp at e]|rfl]|?_];clear b3 b1 b2 bt a4 ab hw hv C bl sm;rintro k O H5 ⟨o5,o8,o9,L,R,rfl,sm,hw,hR,hL,B,rfl⟩;have Rm:(R.map V.str).length=R.length:=Z6 _;have dn:L.length+R.length<=d.length:=by
    rw[<-Z9];exact STab.nodup_sub B.nd λx U=>((B.mem x).mp U).1
   lk;refine%[R.length,.inl %[_,SqL.of hR|Rm.symm]|bI (λh=>?_) λh=>?_]
   .have h:0<R.length:=by have:=Zo h;lia
    refine⟨λc4 u=>∃m',m'<d.length-L.length/\E7 H2 l m b a w M ld d ss m' c4 u,λ_ _ h=>h,R,SqL.of hR,h,λx U _=>%[.inl %[_|SqL.of hR],R,hR,U|λR1 pm=>?_]⟩;have u1:=af.set (o:= .lst (R1.map V.str)) sm br;have b4:upd H5 M (.lst (R1.map V.str)) M=_:=aa;have b5:upd H5 M (.lst (R1.map V.str)) w=_:=(ap bm).trans hw;have a5:upd H5 M (.lst (R1.map V.str)) ld=_:=(ap b0.symm).trans hL
    generalize upd H5 M (.lst (R1.map V.str))=H6 at u1 b4 b5 a5 ⊢
    refine%[.inl %[_|SqL.of a5],_,a5,by rw[Z6];exact aC ⋯|aA λdp c5 _=>aw λbc hK=>?_];have u2:=af.set (o:= .lst (L.map V.str++[.str x])) u1 fld;have a6:upd H6 ld (.lst (L.map V.str++[.str x])) ld=some (.lst ((L++[x]).map V.str)):=by rw[aa,Zd];rfl
    have a7:upd H6 ld (.lst (L.map V.str++[.str x])) w=_:=(ap ch).trans b5;have a8:upd H6 ld (.lst (L.map V.str++[.str x])) M=_:=(ap b0).trans b4
    generalize upd H6 ld (.lst (L.map V.str++[.str x]))=H7 at u2 a6 a7 a8 ⊢
    lk;refine%[.inr (.inr (.inl (.inl %[_|u2 _ _ ha.choose_spec.1]))),#[0]|λp hp=>?_];obtain⟨an,al,a2,c7,Y,ca⟩:=ha.get (eI.of u2) c2 b9 hp x;have b6:∀{c:Addr} {o:HO},H7 c=some o->H2 c=none->al≠c:=λ{c o} h1 h2=>by
     rcases ca with rfl|⟨o',ho⟩
     .exact λz=>by rw[z,h1]at hp;cases hp
     .exact λz=>by rw[z,h2]at ho;cases ho
    have da:=b6 a7 fw;have dc:=b6 a8 br;have all:=b6 a6 fld;have sp:=af.upd (o:= .lst []) hp;have ab:=sp _ _ a7;have cl:=sp _ _ a8;have co:=sp _ _ a6;have u3:=u2.trans sp
    generalize upd H7 p (.lst [])=H8 at a2 Y ab cl co u3 ⊢
    clear u1 u2 a7 a8 a6 b5 b4 a5 hp sp
    generalize cs:(ss.filter λt=>decide (t.2[1]? =some x))=ts at Y
    have tm:(ts.map λt=>V.ref t.1).length=ts.length:=Z6 _;have xL:x∉L:=λc=>(nodup_append.mp B.nd).2.2 x c x U rfl
    have pr:(L++[x] ++R1).Perm (L++R):=by
     rw[Ze];exact pm.append_left L
    have f0:∀n,cnt ss L n=cnt ss (L++[x]) n+(ts.drop 0).countP λt=>decide (t.2[0]? =some n):=λn=>by rw[drop_zero,<-cs];exact sW xL ss
    have dd:∀t∈ts,∃n z,t.2=[n,x,z]/\n∈d/\H t.1=some (.tup ([n,x,z].map V.str)):=λt ht=>by
     rw[<-cs]at ht;obtain⟨h1,h2⟩:=List.mem_filter.mp ht;obtain⟨h3,n,y,z,e,hn,_⟩:=a1 t h1;have h2:=Zo h2;rw[e]at h2 h3;obtain rfl:y=x:=Za h2;exact%[n,z,e,hn|h3]
    refine%[Sum.inr x,rfl,an,a2|.inl %[al,c7,%[_|SqL.of Y]|hK _ _ ?_]];refine bj (xs:=ts.map λt=>V.ref t.1) (λj O u=>(∃o9,O=[!l,!m,!b,!a,!w,o5,!M,!ld,-x,o9])/\af H2 u/\u al=some (.lst (ts.map λt=>V.ref t.1))/\u w=some (.dK (VD d λn=> .int ((cnt ss (L++[x]) n+(ts.drop j).countP λt=>decide (t.2[0]? =some n):Nat):Int)))/\u ld=some (.lst ((L++[x]).map V.str))/\∃Rj:ZB,u M=some (.lst (Rj.map V.str))/\(L++[x] ++Rj).Nodup/\∀y,y∈L++[x] ++Rj↔y∈d/\cnt ss (L++[x]) y+((ts.drop j).countP λt=>decide (t.2[0]? =some y))=0)
     %[%[_|rfl],u3,Y,by rw[ab];exact congrArg (λg=>some (HO.dK (VD d g))) (funext λn=>by rw[f0 n]),co,R1,cl,pr.nodup_iff.mpr B.nd|λy=>by rw[<-f0,pr.mem_iff];exact B.mem y] (λj O u _ h=>SqL.of h.2.2.1) ?_ ?_
    .rintro j v O u hv ⟨⟨o9,rfl⟩,a9,G,N,ac,Rj,I,rn,rz⟩;rw[Zl]at hv;obtain⟨t,ht,rfl⟩:=map_eq_some_iff.mp hv;have jl:=(Xo ht).1;obtain⟨n,z,et,hn,r⟩:=dd t (Z8 ht);have r:=a9 _ _ (ag _ _ r);have dr:ts.drop j=t::ts.drop (j+1):=by rw[Y0 jl,(Xo ht).2]
     rw[dr]at N rz;have get:=dC.k (k:=Sum.inr n) N;rw[jH hn]at get;have ds:=(nodup_append.mp rn)
     have rl:Rj.length<=d.length:=by
      have:=STab.nodup_sub rn λy hy=>((rz y).mp hy).1
      rw[Z9]at this
      lia
     show bv _ _ _ [!l,!m,!b,!a,!w,o5,!M,!ld,-x,some (.ref t.1)] u;refine am λdx de _=>?_
     lk;have one:∀y,(t::ts.drop (j+1)).countP (λt=>decide (t.2[0]? =some y))=((ts.drop (j+1)).countP λt=>decide (t.2[0]? =some y)) +if y=n then 1 else 0:=λy=>by
      rw[countP_cons,et];by_cases c:y=n
      .rw[if_pos c,if_pos (by rw[c];simp)]
      .rw[if_neg c,if_neg (by simpa using λq=>c q.symm)]
     refine%[_,SqT.of r,_,rfl,_,get,_,rfl,_,SqT.of r,_,rfl,_,lN.k (k:=Sum.inr n) N (by unfold VD;rw[Z6];exact aC ⋯)|de _ _ (aA λdy ct _=>?_)];rw[Eb hn];have e1:(λy=>if y=n then V.int (((cnt ss (L++[x]) n+(t::ts.drop (j+1)).countP λt=>decide (t.2[0]? =some n):Nat):Int) -1)else V.int ((cnt ss (L++[x]) y+(t::ts.drop (j+1)).countP λt=>decide (t.2[0]? =some y):Nat):Int))=λy=>V.int ((cnt ss (L++[x]) y+(ts.drop (j+1)).countP λt=>decide (t.2[0]? =some y):Nat):Int):=funext λy=>by
      rw[one,one];by_cases c:y=n
      .rw[if_pos c,c,if_pos rfl]
       congr 1
       lia
      .rw[if_neg c,if_neg c];rfl
     rw[e1];have v1:=af.set (o:= .dK (VD d λy=>V.int ((cnt ss (L++[x]) y+(ts.drop (j+1)).countP λt=>decide (t.2[0]? =some y):Nat):Int))) a9 fw;have bb:upd u w (.dK (VD d λy=>V.int ((cnt ss (L++[x]) y+(ts.drop (j+1)).countP λt=>decide (t.2[0]? =some y):Nat):Int))) w=_:=aa;have a0:∀c o,c≠w->u c=some o->upd u w (.dK (VD d λy=>V.int ((cnt ss (L++[x]) y+(ts.drop (j+1)).countP λt=>decide (t.2[0]? =some y):Nat):Int))) c=some o:=λc o h e=>(ap h)▸e
     generalize upd u w (.dK (VD d λy=>V.int ((cnt ss (L++[x]) y+(ts.drop (j+1)).countP λt=>decide (t.2[0]? =some y):Nat):Int)))=H9 at v1 bb a0
     have r:=a0 _ _ (λc=>by rw[c,N]at r;cases r) r;have G:=a0 _ _ da G;have ac:=a0 _ _ ch.symm ac;have I:=a0 _ _ bm.symm I;have get:=dC.k (k:=Sum.inr n) bb;rw[jH hn]at get;have cM:n∉L++[x] ++Rj:=λc=>by
      have:=((rz n).mp c).2;rw[one,if_pos rfl]at this
      lia
     have bf:∀y,y≠n->(y∈L++[x] ++Rj↔y∈d/\cnt ss (L++[x]) y+((ts.drop (j+1)).countP λt=>decide (t.2[0]? =some y))=0):=λy c=>by
      rw[rz y,one,if_neg c];rfl
     lk;refine%[_,SqT.of r,_,rfl,_,get,rfl|bI (λh=>?_) λh=>?_]
     .have h:cnt ss (L++[x]) n+((ts.drop (j+1)).countP λt=>decide (t.2[0]? =some n))=0:=by
       have:=V.int.inj (Zo h)
       lia
      have tr:t.1≠M:=λc=>by rw[c,I]at r;cases r
      refine%[.inl %[_|SqL.of I],_,SqT.of r,_,rfl,_,I,by rw[Z6];exact aC ⋯|ct _ _ %[%[_|rfl],af.set v1 br,(ap dc).trans G,(ap bm).trans bb,(ap b0.symm).trans ac,Rj++[n],by rw[aa,Zd];rfl,?_|λy=>?_]]
      .rw[<-Ze,X4];exact%[rn,by simp|λa ha b hb c=>cM (by rw[<-Xq hb,<-c];exact ha)]
      .rw[<-Ze,Yv,mem_singleton];by_cases c:y=n
       .rw[c];exact%[λ_=>%[hn|h]|λ_=> .inr rfl]
       .rw[<-bf y c];exact%[λq=>q.resolve_right c|.inl]
     .refine ct _ _ %[%[_|rfl],v1,G,bb,ac,Rj,I,rn|λy=>?_];by_cases c:y=n
      .rw[c];exact%[λq=>absurd q cM|λq=>absurd (Zf (congrArg (λi:Nat=>V.int i) q.2)) h]
      .exact bf y c
    .rintro O u ⟨⟨o9,rfl⟩,a9,G,N,ac,Rj,I,rn,rz⟩;rw[tm,List.drop_length]at N rz;refine c5 _ _ %[_,?_,o5,_,o9,L++[x],Rj,rfl,a9,N,I,ac,%[rn,rz|λi y hi y' e=>?_]|rfl]
     .rw[Z9,Yn]
      lia
     .by_cases il:i<L.length
      .rw[Ya il]at hi;rw[Xf (Yh il)];exact B.ord i y hi y' e
      .have ie:i=L.length:=by
        have:=(Xo hi).1;rw[Z9,Yn]at this
        lia
       subst ie;rw[Yb (Zi _),sub_self,List.getElem?_cons_zero]at hi;obtain rfl:=Za hi;rw[Xf (Zi _),List.take_length];exact z8 ((B.mem x).mp (Yx _ U)).2 e
   .refine k7 _ _ ?_;lk;have R0:R=[]:=by
     cases R with
     | nil=>rfl
     | cons x R=>exact absurd (Zf (by rw[Zr];lia)) h
    subst R0;have mem:=B.mem;have nd:=B.nd;rw[Zz]at mem nd;refine kk ld H5 L (ag.trans sm) hL nd (λx U=>((mem x).mp U).1) B.ord λx U nx=>?_
    have:cnt ss L x≠0:=λc=>nx ((mem x).mpr %[U|c])
    obtain⟨t,ht,q⟩:=List.countP_pos_iff.mp (Nat.pos_of_ne_zero this);obtain⟨a,b,z,e,_,hb⟩:=(a1 t ht).2;rw[e]at q;simp only[Zx]at q;exact%[b,%[z|by rw[<-(Za (Zo q.1)),<-e];exact Xs %[t,ht|rfl]],hb|Zo q.2]
def z9:Sp:=λvs H Q _=>∃l m a ss,vs=[.ref l,.ref m]/\H l=some (.lst (a.map V.str))/\a.Nodup/\a.length<=80/\H m=some (.lst (ss.map λt=>V.ref t.1))/\d6 H a ss/\ss.length<=98/\
 ∀r b (us:ZB),af H b->b r=some (.lst (us.map V.str))->(∀x∈a,Rch (ss.map (·.2)) x x->x∈us)->Q (.ref r) b
structure nJ (H:Hp) (ks:List ZB) (ss:ZG) (r:Addr) (ws:ZG) (x:Str):Prop where
 at_:H r=some (.lst (ws.map λt=>V.ref t.1))
 sub:∀t∈ws,t∈ss
 sho:Sho ks x x (ws.map (·.2))
 len:ws.length<=100
theorem nJ.up(h:nJ H ks ss r ws x)(s:af H a):nJ a ks ss r ws x:=%[s _ _ h.at_,h.sub,h.sho|h.len]
def Aa:Sp:=λvs H Q _=>∃l m b ss,vs=[.ref l,.ref m]/\H l=some (.lst (b.map V.str))/\b.Nodup/\b.length<=80/\H m=some (.lst (ss.map λt=>V.ref t.1))/\d6 H b ss/\ss.length<=98/\
 (∀a,af H a->(∀x,¬ Rch (ss.map (·.2)) x x)->Q .non a)/\∀r a ws x,af H a->nJ a (ss.map (·.2)) ss r ws x->(∀y n,Dst (ss.map (·.2)) y (n+1) y->ws.length<=n+1)->Q (.ref r) a
theorem qU(T:Txt K mg):↥4 "never_laid" ["names","found"] z9:=by
 refine T.aO.cal oi (λH vs Q E h=>?_)
 .obtain⟨l,m,a,ss,rfl,n,G,nl,I,g,i,J⟩:=h;refine%[rfl|λf B A outer s C=>?_];refine%[_,(QSs.h (aq (aN (cbO (uC (w:=w) rfl rfl) T.a7 boot_sorted rfl #[(opE (DD (w:=w) rfl) (ctO (yX (K:=K) (w:=w) rfl rfl rfl) T.a6 boot_set rfl #[↑0]) (ctO (yX (K:=K) (w:=w) rfl rfl rfl) T.a6 boot_set rfl #[aD (nH T) C rfl #[↑0,↑1]]))]))))|?_];show jd _ _ [!l,!m] H;lk;refine%[a,SqL.of n,⋯|λp M=>?_];have b:=af.upd (o:=jv w p (aK a)) M;have t:upd H p (jv w p (aK a)) p=_:=aa
  generalize upd H p (jv w p (aK a))=H1 at b t ⊢
  refine%[l,m,a,ss,rfl,b _ _ n,G,nl,b _ _ I,g.up b,i|λr H2 L y N O U j _=>?_];have Ll:=STab.nodup_sub O U;refine%[r,rfl,L,SqL.of N,⋯|λq Y=>?_];have z:=af.upd (o:=jv w q (aK L)) Y;have fl:=STab.nodup_sub (eW a) λx d=>bx.mp d
  refine%[_,(z _ _ (y _ _ t)),_,aa,⋯|λu ms fu e mn=>%[ms,aa,?_|λv us fv pu _=>?_]]
  .have:=STab.nodup_sub mn λx d=>bx.mp ((e x).mp d).1
   lia
  .refine J v _ us (b.trans (y.trans (z.trans ((af.upd fu).trans (af.upd fv))))) aa λx d rx=>?_
   rw[pu.mem_iff,e];exact%[bx.mpr d|λc=>Br j (bx.mp c) rx]
theorem sZ{d:ZB}{ss:ZG}(h:∀t∈ss,fz d t.2){x y:Str}(r:Rch (ss.map (·.2)) x y):x∈d:=by
 induction r with
 | one e=>
   obtain⟨z,g⟩:=e;obtain⟨t,i,f⟩:=Xr g;obtain⟨a,b,c,e,j,_⟩:=h t i;rw[e]at f;exact((List.cons.inj f).1)▸j
 | more _ _ l=>exact l
theorem iu(T:Txt K mg):↥5 "shortest_ring" ["names","found"] Aa:=by
 refine T.aN.cal bO (λH vs Q E h=>?_)
 .obtain⟨l,m,O,ss,rfl,hl,nn,nl,hm,c,u,kn,ky⟩:=h;refine%[rfl|λf ag A outer s hr=>?_];refine%[_,(QSs.h (ah (aI 2 bO.nd rfl (aD (dN T) hr rfl #[↑1]))
   (ah (aI 3 bO.nd rfl tZ)
   (ah (cP PassesOwn.never rfl rfl (cF (K:=K) rfl (aD (qU T) hr rfl #[↑0,↑1])) (aM 4 bO.nd rfl)
   (ah (aI 5 bO.nd rfl (aD (iV T) hr rfl #[↑2,↑4,↑4]))
    (aq (ifS (wT (kz (bF qf rfl ↑5 tZ) (iH (wT (orW (bF EJ rfl ↑3 tZ) (mJ (bF wz rfl ↑↑5 ↑↑3)))))))
    (aq (aI 3 bO.nd rfl ↑5))
    bh))))
   (aq (aN ↑3))))))|?_]
  show bv _ _ _ [!l,!m,none,none,none,none] H;refine am λD1 k1 _=>?_
  lk;refine%[m,O,ss,rfl,hm,c,u|λb H1 U fb hb=>k1 _ _ (am λD2 k2 _=>?_)];lk;refine k2 _ _ (am λD3 k3 _=>aw λac hK=>?_);lk;refine%[l,m,O,ss,rfl,U _ _ hl,nn,nl,U _ _ hm,c.up U,u|λr H2 us s2 I J=> .inl %[r,rfl,%[_|SqL.of I]|hK _ _ ?_]];have z:=U.trans s2;refine bj (xs:=us.map V.str) (λi Y g=>(∃v o4 o5,Y=[!l,!m,!b,some v,o4,o5]/\((v= .non/\∀x∈us.take i,¬ Rch (ss.map (·.2)) x x)\/∃q ws x,v= .ref q/\nJ g (ss.map (·.2)) ss q ws x/\∀y∈us.take i,∀n,Dst (ss.map (·.2)) y (n+1) y->ws.length<=n+1))/\af H2 g)
   %[%[_,_,_,rfl|.inl %[rfl|λx B=>(nomatch B)]]|λ_ _ e=>e] (λi Y g _ h=>SqL.of (h.2 _ _ I)) ?_ ?_
  .rintro i x Y g B ⟨⟨v,o4,o5,rfl,L⟩,j⟩;rw[Zl]at B;obtain⟨n,hn,rfl⟩:=map_eq_some_iff.mp B;have tk:us.take (i+1)=us.take i++[n]:=by rw[Xd,hn];rfl
   show bv _ _ _ [!l,!m,!b,some v,-n,o5] g;refine am λD4 k4 _=>?_
   lk;refine%[b,n,n,O,ss,rfl,hb.up (s2.trans j),c.up (z.trans j),u,λH3 C nr=>k4 _ _ (aA λD5 k5 _=>?_)|λq H3 ws C _ G sub rr rl=>k4 _ _ (aA λD5 k5 _=>?_)]
   .lk;rw[if_neg ∅];refine k5 _ _ %[%[v,_,_,rfl|L.imp (λh=>%[h.1|λx B=>?_]) λ⟨q,ws,x,e,G,o⟩=>%[q,ws,x,e,G.up C|λy a m d=>?_]]|j.trans C]
    .rw[tk]at B;rcases Xp B with h'|h'
     .exact h.2 x h'
     .rw[Xq h'];exact nr
    .rw[tk]at a;rcases Xp a with h'|h'
     .exact o y h' m d
     .rw[Xq h']at d;exact(nr d.rch).elim
   .lk;rw[if_pos ∅];have wl:∀zs:ZG,(zs.map λt=>V.ref t.1).length=zs.length:=λzs=>Z6 _
    have p:=λm d=>by
     have:=rr.min m d;rwa[Z6]at this
    have put:(∀y∈us.take i,∀m,Dst (ss.map (·.2)) y (m+1) y->ws.length<=m+1)->D5.nx [!l,!m,!b,!q,-n,!q] H3:=λo=>k5 _ _ ⟨%[_,_,_,rfl|.inr ⟨q,ws,n,rfl,%[G,sub,rr|rl],λy a m d=>by
     rw[tk]at a;rcases Xp a with h'|h'
     .exact o y h' m d
     .rw[Xq h']at d;exact p m d⟩],j.trans C⟩
    rcases L with⟨rfl,ab⟩|⟨q',M,x',rfl,N,o⟩
    .rw[if_pos ∅];exact put λy a m d=>(ab y a d.rch).elim
    .rw[if_neg ∅];refine%[_,.inl %[_,SqL.of G|(wl ws).symm],_,.inl %[_,SqL.of (C _ _ N.at_)|(wl M).symm]|bI (λlt=>put λy a m d=>?_) λlt=>k5 _ _ %[%[_,_,_,rfl|.inr %[q',M,x',rfl,N.up C|λy a m d=>?_]]|j.trans C]]
     .have:=o y a m d;have:=Zo lt
      lia
     .rw[tk]at a;rcases Xp a with h'|h'
      .exact o y h' m d
      .rw[Xq h']at d;have:=p m d
       lia
  .rintro Y g ⟨⟨v,o4,o5,rfl,L⟩,j⟩;rw[(Z6 _),Zn (Zi _)]at L;refine k3 _ _ ?_;lk;rcases L with⟨rfl,h⟩|⟨q,ws,x,rfl,G,o⟩
   .exact kn g (z.trans j) λx rx=>h x (J x (sZ (λt ht=>(c t ht).2) rx) rx) rx
   .exact ky q g ws x (z.trans j) G λy n d=>o y (J y (sZ (λt ht=>(c t ht).2) d.rch) d.rch) n d
theorem nK{S:Str->Str->Prop}{z x m:Str}(h:cD S z m)(c:dW S z x):cD S x m:=%[c.symm.trans h.1|λy d=>h.2 y (c.trans d)]
theorem lJ{H:Hp}{c:ZB}{qs:ZN}(h:db H c qs)(a b:Str)(s:cj qs a b):a∈c/\b∈c:=by
 obtain⟨q,f,e⟩:=s;rcases(h q f).2 with⟨wd,x,y,d,_,g,i,_⟩|⟨wd,x,y,d,_⟩
 .rw[d]at e;simp only[List.cons.injEq,V.str.injEq,and_true]at e;rw[<-e.2.1,<-e.2.2];exact%[g|i]
 .rw[d]at e;simp at e
structure jk (mg:ZC) (H:Hp) (g:Addr) (qs:ZN) (ls:ZB) (ts:ZG):Prop where
 gr:∃c2 c3 c4,GrF mg H g c2 c3 c4 qs ls ts
 nd:ls.Nodup
 so:ls.Pairwise (λa b=>aX b a=false)
 ll:ls.length<=80
 tl:ts.length<=98
 t3:∀k∈ts.map (·.2),fz ls k
 sm:∀k∈ts.map (·.2),∀z∈k,Sml z
 lm:∀z∈ls,Sml z
theorem jk.up{mg:ZC}{H a:Hp}{g:Addr}{qs:ZN}{b:ZB}{ts:ZG}(h:jk mg H g qs b ts)(s:af H a):jk mg a g qs b ts:=by
 obtain⟨c,d,e,f⟩:=h.gr;exact%[%[c,d,e|f.up s],h.nd,h.so,h.ll,h.tl,h.t3,h.sm|h.lm]
theorem jk.ends{mg:ZC}{H:Hp}{g:Addr}{qs:ZN}{c:ZB}{ts:ZG}{lk:List ZB}(h:jk mg H g qs c ts)(i:cL (cj qs) (ts.map (·.2)) lk){k:ZB}(j:k∈lk):∃a b z,k=[a,b,z]/\(a∈c/\cD (cj qs) a a)/\b∈c/\cD (cj qs) b b:=by
 obtain⟨r,s,t,l⟩:=h.gr;obtain⟨a,b,z,m,n,o,d,f,rfl⟩:=(i.mem k).mp j;obtain⟨x,y,u,e,p,q⟩:=h.t3 _ o;simp only[List.cons.injEq,and_true]at e;obtain⟨rfl,rfl,rfl⟩:=e;have ws:=lJ l.sa;exact%[m,n,z,rfl,%[d.1.within ws p|nK d d.1],f.1.within ws q|nK f f.1]
theorem jk.short{mg:ZC}{H:Hp}{g:Addr}{qs:ZN}{d:ZB}{ts:ZG}{lk:List ZB}(h:jk mg H g qs d ts)(f:cL (cj qs) (ts.map (·.2)) lk){k:ZB}(i:k∈lk):k.length<=3/\∀z∈k,Sml z:=by
 obtain⟨p,q,r,j⟩:=h.gr;obtain⟨a,b,z,s,t,c,l,m,rfl⟩:=(f.mem k).mp i;obtain⟨x,y,u,e,n,o⟩:=h.t3 _ c;simp only[List.cons.injEq,and_true]at e;obtain⟨rfl,rfl,rfl⟩:=e;have ws:=lJ j.sa;exact%[Zi _|DN (h.lm _ (l.1.within ws n)) (h.lm _ (m.1.within ws o)) (h.sm _ c z ∅)]
theorem jk.names{mg:ZC}{H:Hp}{g:Addr}{qs:ZN}{c d:ZB}{ts:ZG}{lk:List ZB}(h:jk mg H g qs c ts)(i:cL (cj qs) (ts.map (·.2)) lk)(f:B5 (cj qs) c d):∀k∈lk,fz d k:=λk j=>by
 obtain⟨a,b,z,e,l,m⟩:=h.ends i j;exact%[a,b,z,e,(f.mem a).mpr l|(f.mem b).mpr m]
theorem jk.ties{mg:ZC}{H:Hp}{g:Addr}{qs:ZN}{c:ZB}{ts:ZG}{lk:List ZB}(h:jk mg H g qs c ts)(d:cL (cj qs) (ts.map (·.2)) lk):∀k∈lk,fz c k:=λk f=>by
 obtain⟨a,b,z,e,i,j⟩:=h.ends d f;exact%[a,b,z,e,i.1|j.1]
theorem nL{H:Hp}{a:ZB}{ss:ZG}(b:ba H ss)(h:∀k∈ss.map (·.2),fz a k):d6 H a ss:=λt q=>%[(b t q).2|h _ (Xs %[t,q|rfl])]
def BK(mg:ZC):Sp:=λvs H Q _=>∃(g:Addr) (qs:ZN) (b:ZB) (ts:ZG),vs=[.ref g]/\jk mg H g qs b ts/\∀a lk,af H a->cL (cj qs) (ts.map (·.2)) lk->((∀x,¬ Rch lk x x)->Q .non a)/\∀r x,Rch lk x x->Q (.ref r) a
def xI(mg:ZC):Sp:=λvs H Q _=>∃(g:Addr) (qs:ZN) (b:ZB) (ts:ZG),vs=[.ref g]/\jk mg H g qs b ts/\(∀lk,cL (cj qs) (ts.map (·.2)) lk->∀x,¬ Rch lk x x)/\∀l a c (ss:ZG),af H a->a l=some (.lst (ss.map λt=>V.ref t.1))->d6 a c ss->ss.length<=98->cL (cj qs) (ts.map (·.2)) (ss.map (·.2))->Q (.ref l) a
structure tf (mg:ZC) (H:Hp) (g:Addr) (qs:ZN) (ls:ZB) (ts:ZG) (lk:List ZB):Prop where
 gr:jk mg H g qs ls ts
 li:cL (cj qs) (ts.map (·.2)) lk
 nr:∀x,¬ Rch lk x x
theorem tf.up{mg:ZC}{H a:Hp}{g:Addr}{qs:ZN}{b:ZB}{ts:ZG}{lk:List ZB}(h:tf mg H g qs b ts lk)(s:af H a):tf mg a g qs b ts lk:=%[h.gr.up s,h.li|h.nr]
def Ab(mg:ZC):Sp:=λvs H Q _=>∃(g:Addr) (qs:ZN) (d:ZB) (ts:ZG) (lk:List ZB) (z u:Str),vs=[.ref g,.str z,.str u]/\tf mg H g qs d ts lk/\z∈d/\u∈d/\∀a b,cD (cj qs) z a->cD (cj qs) u b->(∀c,af H c-> ¬ Rch lk a b->Q .non c)/\
 ∀l c (ws:ZG),af H c->H l=none->c l=some (.lst (ws.map λt=>V.ref t.1))->(∀t∈ws,c t.1=some (.tup (t.2.map V.str)))->Sho lk a b (ws.map (·.2))->ws.length<=100->Q (.ref l) c
theorem Ec(T:Txt K mg):↥6 "ring" ["ground"] (BK mg):=by
 refine T.aM.cal Bt (λH vs Q E h=>?_)
 .obtain⟨g,qs,e,ts,rfl,a,n⟩:=h;refine%[rfl|λf y A outer s d=>?_];obtain⟨o,p,q,t⟩:=a.gr;have N:=a.ll;refine%[_,(QSs.h (aq (aN (aD (iu T) d rfl #[aD (ir T) d rfl #[↑0],aD (mf T) d rfl #[↑0]]))))|?_];show jd _ _ [!g] H;lk;refine%[g,o,p,q,qs,e,ts,rfl,t,a.nd,a.so,⋯|λl O z u U B c=>?_];refine%[g,o,p,q,qs,e,ts,rfl,t.up u,a.nd,a.so,⋯,a.tl,a.t3|λm Y ss v fm C G lk I=>?_];have b:=u.trans v;refine%[l,m,z,ss,rfl,v _ _ B,c.nd,?_,C,nL G (a.names lk c),I,λi j J=>(n i _ (b.trans j) lk).1 J|λr i ws x j L _=>(n i _ (b.trans j) lk).2 r x L.sho.rch];have:=STab.nodup_sub c.nd λx M=>((c.mem x).mp M).1
  lia
theorem nM(T:Txt K mg):↥6 "untorn_links" ["ground"] (xI mg):=by
 refine T.aP.cal en (λH vs Q E h=>?_)
 .obtain⟨g,qs,e,ts,rfl,a,G,I⟩:=h;refine%[rfl|λf C A outer s d=>?_];obtain⟨j,n,o,p⟩:=a.gr;have U:=a.ll;refine%[_,(QSs.h (ah (aI 1 en.nd rfl (aD (mf T) d rfl #[↑0]))
   (ah (aI 2 en.nd rfl (aD (iu T) d rfl #[aD (ir T) d rfl #[↑0],↑1]))
   (ah (ifS (bF qf rfl ↑2 tZ)
   (aq gK)
   bh)
   (aq (aN ↑1))))))|?_]
  show bv _ _ _ [!g,none,none] H;refine am λY k1 _=>?_
  lk;refine%[g,j,n,o,qs,e,ts,rfl,p,a.nd,a.so,⋯,a.tl,a.t3|λm H1 ss q fm t J lk u=>k1 _ _ (am λD2 k2 _=>?_)];lk;refine%[g,j,n,o,qs,e,ts,rfl,p.up q,a.nd,a.so,⋯|λl H2 v i fl L c=>?_];have y:=nL J (a.names lk c);refine%[l,m,v,ss,rfl,L,c.nd,?_,i _ _ t,y.up i,u,λz B _=>k2 _ _ (am λD3 M _=>?_)|λr z ws x B N _=>(G _ lk x N.sho.rch).elim]
  .have:=STab.nodup_sub c.nd λx O=>((c.mem x).mp O).1
   lia
  .lk;rw[if_neg ∅];refine M _ _ ?_;lk;have b:=i.trans B;exact I m z v ss (q.trans b) (b _ _ t) (y.up b) u lk
theorem vL(T:Txt K mg):↥7 "chain" ["ground","one","other"] (Ab mg):=by
 refine T.aQ.cal sM (λH vs Q E h=>?_)
 .obtain⟨g,qs,o,ts,lk,z,u,rfl,⟨a,j,nr⟩,hz,hu,kk⟩:=h;refine%[rfl|λf ab A outer s i=>?_];obtain⟨I,J,L,M⟩:=a.gr;have ll:=a.ll;refine%[_,(QSs.h (ah (aI 3 sM.nd rfl (aD (dN T) i rfl #[aD (nM T) i rfl #[↑0]]))
   (aq (aN (aD (iV T) i rfl #[↑3,aD (cK T) i rfl #[↑0,↑1],aD (cK T) i rfl #[↑0,↑2]])))))|?_]
  show bv _ _ _ [!g,-z,-u,none] H;refine am λD1 k1 _=>?_
  lk;refine%[g,qs,o,ts,rfl,a,λac h'=>by rw[h'.one j];exact nr|λl H1 N ss s1 hl O U r=>?_];refine%[l,N,ss,rfl,hl,O,U|λd H2 Y fd hd=>k1 _ _ ?_];obtain rfl:=j.one r;have b:=s1.trans Y;lk;refine%[g,I,J,L,qs,o,ts,z,rfl,M.up b,a.nd,a.so,⋯,hz|λH3 a' s3 v=>?_];have y:=b.trans s3;refine%[g,I,J,L,qs,o,ts,u,rfl,M.up y,a.nd,a.so,⋯,hu|λH4 b' s4 B=>?_];obtain⟨kn,ky⟩:=kk a' b' v B;have c:=s3.trans s4;have e:=b.trans c;have m:=O.up (Y.trans c);exact%[d,a',b',N,ss,rfl,hd.up c,m,U,λC p n1=>kn C (e.trans p) n1|λq C ws p fq hq G sh n=>ky q C ws (e.trans p) (e.free fq) hq (λt ht=>p _ _ (m t (G t ht)).1) sh n]
noncomputable def qV(k:Nat)(d:Str->Nat)(new:Gs Str)(x:Str):V:= .int ((if x∈new.map (·.1)then k+1 else d x:Nat))
def E8(H:Hp)(l d:Addr)(st:Str)(ss:ZG)(m:Nat)(f:L2.St)(b:Hp):Prop:=∃(e:Addr) (k:Nat) (g h i j:Option V) (F:ZB) (a:Gs Str) (c:Str->Nat),f=[!l,-st,!d,!e,some (.int k),g,h,i,j]/\af H b/\b e=some (.lst (F.map V.str))/\b d=some (.dK (VD (a.map (·.1)) λx=> .int (c x)))/\ReB ss a/\Lev (ss.map (·.2)) st a c k F/\m=2*(98-a.length) +F.length.min 1
def Ac:Sp:=λvs H Q _=>∃l st b ss,vs=[.ref l,.str st]/\H l=some (.lst (ss.map λt=>V.ref t.1))/\d6 H b ss/\ss.length<=98/\∀d a R (f:Str->Nat),af H a->a d=some (.dK (VD R λx=> .int (f x)))->R.Nodup->R.length<=98->(∀x,x∈R↔Rch (ss.map (·.2)) st x)->(∀x∈R,1<=f x/\Dst (ss.map (·.2)) st (f x) x/\∀n,Dst (ss.map (·.2)) st (n+1) x->f x<=n+1)->Q (.ref d) a
theorem ti(T:Txt K mg):↥1 "_law_steps" ["_law_some","_law_begin"] Ac:=by
 refine T.bj.cal bz (λH vs Q E h=>?_)
 .obtain⟨l,st,ns,ss,rfl,hl,a1,a8,kk⟩:=h;refine%[rfl|λf a7 A outer s O=>?_];have a2:(ss.map λt=>V.ref t.1).length=ss.length:=Z6 _;refine%[_,(QSs.h (ah (aI 2 bz.nd rfl mI)
   (ah (aI 3 bz.nd rfl (cQ #[↑1]))
   (ah (aI 4 bz.nd rfl ar)
   (ah (nh PassesOwn.never (bF (EW O) rfl ↑3 (cQ ak))
   (ah (aI 4 bz.nd rfl (opE cq ↑4 ar))
    (ah (aI 5 bz.nd rfl (cQ ak))
    (ah (cP PassesOwn.never rfl rfl (cF (K:=K) rfl ↑0) (fD (K:=K) rfl rfl rfl (gsE rfl (aM 6 bz.nd rfl) (gsE rfl (aM 7 bz.nd rfl) (gsE rfl (aM 8 bz.nd rfl) cO))))
    (aq (ifS (wT (kz (bF (qg (K:=K) rfl) rfl ↑6 ↑3) (iH (j7 O rfl ↑7 ↑2))))
     (ah (lF O rfl ↑4 ↑2 ↑7)
      (aq (bT rfl (bmO (K:=K) plainAttrs_list PySem.F.slot_list_append PySem.F.type_list_append aS rfl ↑5 #[↑7]))))
     bh)))
    (aq (aI 3 bz.nd rfl ↑5))))))
   (aq (aN ↑2)))))))|?_]
  show bv _ _ _ [!l,-st,none,none,none,none,none,none,none] H;refine am λD1 k1 _=>?_
  lk;intro d fd;refine k1 _ _ (am λD2 k2 _=>?_);have s1:=af.upd (o:= .dK []) fd;have j:upd H d (.dK []) d=some (.dK (VD (([]:Gs Str).map (·.1)) λ_=> .int (0:Nat))):=aa
  generalize upd H d (.dK [])=H1 at s1 j
  lk;refine%[#[1]|λe fe=>k2 _ _ (am λD3 k3 _=>?_)];have s2:=af.upd (o:= .lst [V.str st]) fe;have u:upd H1 e (.lst [V.str st]) e=some (.lst ([st].map V.str)):=aa;have j:=s2 _ _ j;have ac:=s1.trans s2
  generalize upd H1 e (.lst [V.str st])=H2 at ac u j
  lk;refine k3 _ _ (am λD4 k4 _=>?_);refine%[E8 H l d st ss,%[_,e,0,none,none,none,none,[st],[],_,rfl,ac,u,j,%[X7|λ_ h=>(nomatch h)],.nil|rfl]|?_];rintro m σ H3 ⟨e,k,o5,o6,o7,o8,F,B,U,rfl,G,u,j,ab,J,rfl⟩;have Rl:=ab.len;lk;refine%[#[0]|λp fp=>%[F.map V.str,af.upd fp _ _ u,aa|bI (λh=>?_) λh=>?_]]
  .have s3:=af.upd (o:= .lst []) fp;have u:=s3 _ _ u;have j:=s3 _ _ j;have G:=G.trans s3
   generalize upd H3 p (.lst [])=H4 at u j G ⊢
   refine⟨λa3 L=>∃m',m'<2*(98-B.length) +F.length.min 1/\E8 H l d st ss m' a3 L,λ_ _ h=>h,#[0],λY I=>aw λa6 hK=>?_⟩;have s4:=af.upd (o:= .lst []) I;have ag:upd H4 Y (.lst []) Y=some (.lst ((([]:Gs Str).map (·.1)).map V.str)):=aa;have mod:Y≠d:=λc=>by rw[c,j]at I;cases I
   have a4:Y≠e:=λc=>by rw[c,u]at I;cases I
   have ed:e≠d:=λc=>by rw[c,j]at u;cases u
   have I:=G.free I;have u:=s4 _ _ u;have j:=s4 _ _ j;have G:=G.trans s4
   generalize upd H4 Y (.lst [])=H5 at ag u j G ⊢
   lk;refine .inl %[%[_|SqL.of (G _ _ hl)]|hK _ _ ?_];refine bj (xs:=ss.map λt=>V.ref t.1) (λi σ L=>(∃o6 o7 o8,σ=[!l,-st,!d,!e,some (.int ((k:Int) +1)),!Y,o6,o7,o8])/\af H L/\L e=some (.lst (F.map V.str))/\∃new:Gs Str,L Y=some (.lst ((new.map (·.1)).map V.str))/\L d=some (.dK (VD ((B++new).map (·.1)) (qV k U new)))/\ReB ss (B++new)/\(∀r∈new,∃p z,p∈F/\r.2.2=[p,r.1,z])/\∀t∈ss.take i,∀x y,t.2[0]? =some x->t.2[1]? =some y->x∈F->y∈(B++new).map (·.1))
    %[%[_,_,_|rfl],G,u,[],ag,by rw[Zz];exact j,by rw[Zz];exact ab,λr O=>(nomatch O)|λt ht=>(nomatch ht)] (λi σ L _ h=>SqL.of (h.2.1 _ _ hl)) ?_ ?_
   .rintro i v σ L hv ⟨⟨o6,o7,o8,rfl⟩,G,u,new,hM,j,b,N,C⟩;rw[Zl]at hv;obtain⟨t,ht,rfl⟩:=map_eq_some_iff.mp hv;have al:=Z8 ht;obtain⟨an,x,y,z,et,_⟩:=a1 t al;rw[et]at an;have tk:ss.take (i+1)=ss.take i++[t]:=by rw[Xd,ht];rfl
    have a5:=b.len;rw[Z9]at a5;have go:∀M':Gs Str,(∀a∈(B++new).map (·.1),a∈(B++M').map (·.1))->(x∈F->y∈(B++M').map (·.1))->∀t∈ss.take (i+1),∀x y,t.2[0]? =some x->t.2[1]? =some y->x∈F->y∈(B++M').map (·.1):=λM' mono hy t' as x' y' e1 e2 a0=>by
     rw[tk]at as;rcases Xp as with q|q
     .exact mono y' (C t' q x' y' e1 e2 a0)
     .rw[Xq q,et]at e1 e2;obtain rfl:x=x':=Za e1;obtain rfl:y=y':=Za e2;exact hy a0
    refine%[_,SqT.of (G _ _ an),rfl,_,_,rfl,_,_,rfl,_,_,rfl,rfl|?_];show lL _ _ _ _ [!l,-st,!d,!e,some (.int ((k:Int) +1)),!Y,-x,-y,-z] L;refine aA λD5 k5 _=>?_
    lk;refine%[_,.inl (SqL.of u),rfl,by simp[eS]|?_];rw[vG];refine bI (λM=>?_) λM=>?_
    .have M:=Zo M;refine%[_,dC.k (k:=Sum.inr y) j|bI (λhv=>?_) λhv=>?_]
     .have hy:y∉(B++new).map (·.1):=λc=>by rw[jH c]at hv;cases hv
      refine%[_,lN.k (k:=Sum.inr y) j (by unfold VD;rw[Z6,Z6,Z9];exact aC ⋯)|?_];rw[jM _ (kj hy)];have e1:VD ((B++new).map (·.1)) (qV k U new) ++[(Sum.inr y,V.int ((k:Int) +1))]=VD ((B++(new++[(y,t.1,[x,y,z])])).map (·.1)) (qV k U (new++[(y,t.1,[x,y,z])])):=by
       have e0:(B++(new++[(y,t.1,[x,y,z])])).map (·.1)=(B++new).map (·.1) ++[y]:=by simp
       unfold VD;rw[e0,Zd (l₂:=[y])];rw[List.map_singleton,show qV k U (new++[(y,t.1,[x,y,z])]) y= .int ((k:Int) +1) by unfold qV;rw[if_pos ∅];rfl];refine congrArg (λl=>l++[(Sum.inr y,V.int ((k:Int) +1))]) (Ys λa ha=>?_);have:a∈(new++[(y,t.1,[x,y,z])]).map (·.1)↔a∈new.map (·.1):=by
        rw[Zd,Yv];exact or_iff_left λc=>hy ((show a=y from Xq c)▸ha)
       unfold qV;simp only[this]
      rw[e1];have u1:∀c o,c≠d->L c=some o->upd L d (.dK (VD ((B++(new++[(y,t.1,[x,y,z])])).map (·.1)) (qV k U (new++[(y,t.1,[x,y,z])])))) c=some o:=λc o h e=>(ap h)▸e
      have ud:upd L d (.dK (VD ((B++(new++[(y,t.1,[x,y,z])])).map (·.1)) (qV k U (new++[(y,t.1,[x,y,z])])))) d=_:=aa;have hM:=u1 _ _ mod hM;have R:=b.snoc (p:=x) (y:=y) (z:=z) (a:=t.1) (et▸al) hy;rw[Ze]at R;refine%[.inl %[_|SqL.of hM],_,hM,by rw[Z6,Z6];exact aC ⋯|k5 _ _ %[%[_,_,_|rfl],af.set (af.set (o:= .dK (VD ((B++(new++[(y,t.1,[x,y,z])])).map (·.1)) (qV k U (new++[(y,t.1,[x,y,z])])))) G fd) I,(ap a4.symm).trans (u1 _ _ ed u),new++[(y,t.1,[x,y,z])],by rw[aa,Zd,Zd];rfl,(ap mod.symm).trans ud,R,λr O=>?_|go _ (λa ha=>?_) λ_=>?_]]
      .rcases Xp O with q|q
       .exact N r q
       .rw[Xq q];exact%[x,z,M|rfl]
      .rw[<-Ze,Zd];exact Yw _ ha
      .rw[<-Ze,Zd];exact Yx _ Zm
     .have hy:y∈(B++new).map (·.1):=Decidable.byContradiction λc=>by rw[kj c]at hv;exact hv rfl
      exact k5 _ _ %[%[_,_,_|rfl],G,u,new,hM,j,b,N|go new (λ_ h=>h) λ_=>hy]
    .exact k5 _ _ %[%[_,_,_|rfl],G,u,new,hM,j,b,N|go new (λ_ h=>h) λc=>absurd (Zf c) M]
   .rintro σ L ⟨⟨o6,o7,o8,rfl⟩,G,u,new,hM,j,b,N,C⟩;rw[a2,Zn (Zi _)]at C;dsimp only;lk;have ln:=b.len;rw[Z9]at ln;have F1:F.length.min 1=1:=by
     cases F with
     | nil=>exact absurd h ∅
     | cons x F=>exact Nat.min_eq_right (by rw[Zr];lia)
    refine%[_,?_,Y,k+1,_,_,_,_,new.map (·.1),B++new,_,rfl,G,hM,j,b,J.step b.nd (λr O=>%[Xs %[_,(b.sub r (Yx _ O)).1|rfl]|N r O]) λx M y ⟨z,hz⟩=>?_|rfl]
    .rw[F1,Z9,Z6];cases new with
     | nil=>simp
     | cons a r=>
       rw[Zr]at ln ⊢;have:(r.length+1).min 1<=1:=Nat.min_le_right _ _
       lia
    .obtain⟨t,ht,et⟩:=Xr hz;exact C t ht x y (by rw[et];rfl) (by rw[et];rfl) M
  .refine k4 _ _ ?_;lk;have h:F=[]:=by
    cases F with
    | nil=>rfl
    | cons x F=>exact absurd (Zf ∅) h
   subst h;refine kk d _ (B.map (·.1)) U (G.trans (af.upd fp)) (af.upd fp _ _ j) ab.nd (by rw[Z6];lia) (λx=>%[λM=>?_|λr=>?_]) λx M=>%[(J.dst M).1,(J.dst M).2|λn g=>J.min M g]
   .obtain⟨d1,d2⟩:=J.dst M;obtain⟨n,e⟩:∃n,U x=n+1:=%[U x-1|⋯]
    rw[e]at d2;exact d2.rch
   .obtain⟨n,g⟩:=r.dst;exact J.stop g
def Ad(K:ZA):Sp:=λvs H Q _=>∃(a l:Addr) (m:Nat) (is:ZL) (b:ZB),vs=[.ref a,.ref l,.int m]/\SqL K H a (is.map V.int)/\H l=some (.lst (b.map V.str))/\1<=b.length/\b.length<=80/\m<=100/\
 ∀r c (ps:List (Addr×Str×Str)),af H c->c r=some (.lst (ps.map λp=>V.ref p.1))->(∀p∈ps,c p.1=some (.tup [.str p.2.1,.str p.2.2])/\p.2.1∈b/\p.2.2∈b)->Q (.ref r) c
theorem nN{K:ZA}(h:SqL K H a xs)(s:af H b):SqL K b a xs:=h.imp_left λr=>r.imp (s _ _) λ⟨o,e⟩=>%[o|s _ _ e]
theorem Ae{a:Type}(f:a->V){xs:List a}(h:1<=xs.length)(c:Int):∃x∈xs,atI (xs.map f) (c%xs.length)=some (f x):=by
 have b:0<=c%xs.length:=Int.emod_nonneg _ ⋯;have e:c%xs.length<xs.length:=Int.emod_lt_of_pos _ ⋯
 generalize c%xs.length=i at b e
 obtain⟨k,rfl⟩:=Xk b;have d:k<xs.length:=by lia
 exact%[xs[k],Yf d|cC (by rw[Zl,Z4 d];rfl)]
theorem tq(T:Txt K mg):↥2 "_law_pairs" ["_law_script","_law_layers","_law_many"] (Ad K):=by
 refine T.bm.cal dt (λH vs Q E h=>?_)
 .obtain⟨a,l,m,is,e,rfl,hs,U,Y,al,ab,kk⟩:=h;refine%[rfl|λf ag A outer s hr=>?_];refine%[_,(QSs.h (ah (aI 3 dt.nd rfl (aD (bY T) hr rfl #[↑0,ar]))
   (ah (aI 4 dt.nd rfl (cQ ak))
   (ah (cP PassesOwn.never rfl rfl (jn rfl T.ai rfl #[↑2]) (aM 5 dt.nd rfl)
   (ah (bT rfl (bmO (K:=K) plainAttrs_list PySem.F.slot_list_append PySem.F.type_list_append aS rfl ↑4 #[(eV #[(↑1>>(opE bi (opE cn ↑3 ↑5) ↑↑1)),(↑1>>(opE bi (opE bG ↑3 ↑↑1) ↑↑1))])]))
    (aq (aI 3 dt.nd rfl (opE bG (opE bG ↑3 ↑↑1) ↑↑1)))))
   (aq (aN ↑4))))))|?_]
  show bv _ _ _ [!a,!l,some (.int m),none,none,none] H;refine am λD1 k1 _=>?_
  lk;refine%[a,is,2,rfl,hs,by decide|k1 _ _ (am λD2 k2 _=>?_)];lk;refine%[#[0]|λg t=>k2 _ _ (am λD3 k3 _=>aw λac hK=>?_)];have s1:=af.upd (o:= .lst []) t;have v:upd H g (.lst []) g=some (.lst ((([]:List (Addr×Str×Str)).map λp=>V.ref p.1))):=aa
  generalize upd H g (.lst [])=H1 at s1 v
  lk;refine%[⋯,⋯|hK _ _ (cJ (λi L n=>(∃(c:Int) (M:Option V),L=[!a,!l,some (.int m),some (.int c),!g,M])/\af H n/\∃ps:List (Addr×Str×Str),n g=some (.lst (ps.map λp=>V.ref p.1))/\ps.length=i/\∀p∈ps,n p.1=some (.tup [.str p.2.1,.str p.2.2])/\p.2.1∈e/\p.2.2∈e)
   %[%[_,_|rfl],s1,[],v,rfl|λp hp=>(nomatch hp)] ?_ ?_)]
  .rintro i L n hi ⟨⟨c,M,rfl⟩,r,ps,b,B,d⟩;show bv _ _ _ [!a,!l,some (.int m),some (.int c),!g,some (.int (0+i))] n;refine am λD4 k4 _=>?_
   have j:=r _ _ U;have C:(e.map V.str).length=e.length:=Z6 _;lk;obtain⟨x,hx,ex⟩:=Ae V.str Y (c+i);obtain⟨y,hy,ey⟩:=Ae V.str Y (c/(e.length:Int));refine%[.inl %[_|SqL.of b],e.length,.inl %[_,SqL.of j|C.symm],⋯,_,SqL.of j,_,ex,e.length,.inl %[_,SqL.of j|C.symm],%[⋯|⋯],e.length,.inl %[_,SqL.of j|C.symm],⋯,_,SqL.of j,_,ey,#[2]|λp fp=>?_];have N:=af.upd (o:= .tup [.str x,.str y]) fp;have gp:upd n p (.tup [.str x,.str y]) p=_:=aa;have b:=N _ _ b;have d:∀q∈ps,upd n p (.tup [.str x,.str y]) q.1=some (.tup [.str q.2.1,.str q.2.2])/\q.2.1∈e/\q.2.2∈e:=λq J=>%[N _ _ (d q J).1|(d q J).2]
   have r:=r.trans N
   generalize upd n p (.tup [.str x,.str y])=O at gp b d r ⊢
   have keep:=ki (ys:=(ps.map λp=>V.ref p.1) ++[V.ref p]) b;refine%[_,b,by rw[Z6];exact aC ⋯|k4 _ _ (aA λD5 k5 _=>?_)];have u:=af.set (o:= .lst ((ps.map λp=>V.ref p.1) ++[V.ref p])) r t;have G:upd O g (.lst ((ps.map λp=>V.ref p.1) ++[V.ref p])) g=some (.lst ((ps++[(p,x,y)]).map λp=>V.ref p.1)):=by rw[aa,Zd];rfl
   have all:∀q∈ps++[(p,x,y)],upd O g (.lst ((ps.map λp=>V.ref p.1) ++[V.ref p])) q.1=some (.tup [.str q.2.1,.str q.2.2])/\q.2.1∈e/\q.2.2∈e:=λq J=>by
    rcases Xp J with z|z
    .exact%[keep _ _ (d q z).1|(d q z).2]
    .rw[Xq z];exact%[keep _ _ gp,hx|hy]
   generalize upd O g (.lst ((ps.map λp=>V.ref p.1) ++[V.ref p]))=H3 at u G all
   lk;have I:=u _ _ U;exact%[e.length,.inl %[_,SqL.of I|C.symm],%[⋯|⋯],e.length,.inl %[_,SqL.of I|C.symm],%[⋯|⋯]|k5 _ _ %[%[_,_|rfl],u,_,G,by rw[Z9,B];rfl|all]]
  .rintro L n ⟨⟨c,M,rfl⟩,r,ps,b,B,d⟩;refine k3 _ _ ?_;lk;exact kk g n ps r b d
theorem jc(n:Str)(c:Nat):lnS n (sgn c)=bK n c:=by
 refine dO ?_;show(([].toArray) ++n.cps++ ([46].toArray) ++ ([c].toArray)).toList=(n.cps.toList++[46,c]).toArray.toList;simp
theorem mj:x∈lyr p↔∃c,Let p.2.2 c/\x=bK p.2.1 c:=by
 unfold lyr;rw[mem_map]
 constructor
 .rintro⟨z,b,rfl⟩;obtain⟨c,a,rfl⟩:=ii b;exact%[c,gC.mp a|jc _ _]
 .rintro⟨c,a,rfl⟩;exact%[sgn c,bx.mpr (Xs %[c,gC.mpr a|rfl])|jc _ _]
theorem nO(h:lI d):x∈(iw d).map (·.1)↔∃c,Let d.rows c/\x=bK d.name c:=by
 unfold iw Drn.rows;rw[Yu,mem_map]
 constructor
 .rintro⟨a,i,rfl⟩;obtain⟨e,f,g⟩:=eQ.mp i;exact%[sg a d.sh,(sI h.2.2.2.2.2).mpr %[a,e,f,g|rfl]|rfl]
 .rintro⟨c,g,rfl⟩;obtain⟨a,e,f,b,rfl⟩:=(sI h.2.2.2.2.2).mp g;exact%[a,eQ.mpr %[e,f|b]|rfl]
theorem nP:∀{xs:List t},(xs.map m).Nodup->(∀p∈xs,(f p).Nodup)->(∀p∈xs,∀x∈f p,∃c,x=bK (m p) c)->(xs.flatMap f).Nodup
 |[],_,_,_=>X7
 | p::xs,h,l,i=>by
   rw[Yt,nodup_cons]at h;rw[List.flatMap_cons,X4];refine%[l p Zm,nP h.2 (λq g=>l q (Zk _ g)) (λq g=>i q (Zk _ g))|λa n b o e=>?_];obtain⟨q,g,j⟩:=mem_flatMap.mp o;obtain⟨c,r⟩:=i p Zm a n;obtain⟨d,s⟩:=i q (Zk _ g) b j;have:=(i5 (r.symm.trans (e.trans s))).1;exact h.1 (Xs %[q,g|this.symm])
theorem pP(p:Addr×Str×ZB):(lyr p).Nodup:=by
 unfold lyr;rw[X6,Xb];refine Xj (λ{x y} e f a b=>?_) (nodup_iff_pairwise_ne.mp (eW _));obtain⟨c,_,rfl⟩:=ii e;obtain⟨d,_,rfl⟩:=ii f;rw[jc,jc]at b;exact a (by rw[(i5 b).2])
theorem u5(d:Drn):((iw d).map (·.1)).Nodup:=by
 unfold iw;rw[Yu,X6,Xb];refine Xj (λ{x y} b c a e=>?_) (nodup_iff_pairwise_ne.mp (sJ d.cols));obtain⟨f,g,_⟩:=eQ.mp b;obtain⟨h,i,_⟩:=eQ.mp c;exact a (DJ f g h i (i5 e).2)
theorem pM.mono(h:pM g xs)(s:∀x∈g,x∈i):pM i xs:=by
 rcases h with⟨w,a,b,e,c,d,f,j⟩|⟨w,a,y,e,c,d,f⟩
 .exact .inl %[w,a,b,e,c,s _ d,s _ f|j]
 .exact .inr %[w,a,y,e,c,s _ d|f]
theorem fB{cs:List _}{d:ZB}(h:d.Perm (cs.flatMap lyr)){x:Str}:x∈d↔∃p∈cs,∃c,Let p.2.2 c/\x=bK p.2.1 c:=by
 rw[h.mem_iff,mem_flatMap]
 constructor
 .rintro⟨p,a,b⟩;exact%[p,a|mj.mp b]
 .rintro⟨p,a,b⟩;exact%[p,a|mj.mpr b]
theorem xJ(h:∀p∈ds,lI p.2):x∈(ds.flatMap λp=>(iw p.2).map (·.1))↔∃p∈dcs ds,∃c,Let p.2.2 c/\x=bK p.2.1 c:=by
 rw[mem_flatMap]
 constructor
 .rintro⟨p,a,b⟩;exact%[_,Xs %[p,a|rfl]|(nO (h p a)).mp b]
 .rintro⟨q,d,b⟩;obtain⟨p,a,rfl⟩:=Xr d;exact%[p,a|(nO (h p a)).mpr b]
theorem tt{ds:List (Addr×Drn)}(h:∀p∈ds,lI p.2)(a:(ds.map λp=>p.2.name).Nodup):(ds.flatMap λp=>(iw p.2).map (·.1)).Nodup:=
 nP a (λp _=>u5 p.2) λp b x d=>by
  obtain⟨c,_,e⟩:=(nO (h p b)).mp d;exact%[c|e]
theorem eN{cs:List _}(b:(cs.map λp=>p.2.1).Nodup){a:ZB}(h:a.Perm (cs.flatMap lyr)):a.Nodup:=by
 rw[h.nodup_iff];exact nP b (λp _=>pP p) λp f x d=>by
  obtain⟨c,_,e⟩:=mj.mp d;exact%[c|e]
structure fT (H:Hp) (cs:List _) (qs:List _):Prop where
 ca:bZ H cs
 nd:(cs.map λp=>p.2.1).Nodup
 p1:1<=cs.length
 p3:cs.length<=3
 few:∀p∈cs,sK p.2.2
 ly:(cs.flatMap lyr).length<=80
 sa:∀ls,ls.Perm (cs.flatMap lyr)->db H ls qs
 q20:qs.length<=20
theorem fT.up(h:fT H cs qs)(s:af H a):fT a cs qs:=
 %[h.ca.up s,h.nd,h.p1,h.p3,h.few,h.ly,λb p=>(h.sa b p).up s|h.q20]
def qW(K:ZA):Sp:=λvs H Q _=>∃(a:Addr) (b:ZL),vs=[.ref a]/\SqL K H a (b.map V.int)/\yE H/\b.length<=63/\∀c,Q (.bl true) c
theorem BL{R:Hp->Prop}(j:H g=none)(i:H d=none)(n:H a=some (.lst (ci cs)))(r:H b=some (.lst (qs.map λq=>V.ref q.1)))(p:fT H cs qs)
 (k:∀f c ts,af H f->jk mg f g qs c ts->c.Perm (cs.flatMap lyr)->(∀k,k∈ts.map (·.2)↔k∈fM cs\/k∈ic qs qs.length)->R f):
 vI mg [.ref g,.ref a,.ref b] (upd (upd H d (.own g)) g (.ins (cG mg "Ground") d [])) (λv s=>v= .non/\R s) E0:=by
 have h:af H (upd (upd H d (.own g)) g (.ins (cG mg "Ground") d [])):=λb o e=>by
  rw[ap (av e j),ap (av e i)];exact e
 refine%[g,a,b,d,cs,qs,rfl,aa,h _ _ n,h _ _ r,p.ca.up h,p.nd,p.p1,p.p3,p.few,p.ly,λc q=>(p.sa c q).up h,p.q20|λf c ts u y z A B tk C E G pl I=>%[rfl|k f c ts (λb o e=>A b o (av e j) (h _ _ e)) %[%[u,y,z|B],eN p.nd pl,I,pl.length_eq▸p.ly,G,λk l=>?_,λk l=>?_|C] pl E]]<;> obtain⟨t,m,rfl⟩:=Xr l
 .exact(tk t m).1
 .exact(tk t m).2
noncomputable abbrev fU:Str:=Str.ofString "abcdefghijklmnopqrstuvwxyz"
noncomputable def rot(k:Nat):Str:=Txt.slice fU (some (k:Int)) none++Txt.slice fU none (some (k:Int))
def b8(z:Str):Prop:=z.cps.toList.length=26/\(∀c∈z.cps.toList,97<=c/\c<=122)/\∀i<26,97+i∈z.cps.toList
noncomputable instance(z:Str):Decidable (b8 z):=by unfold b8;infer_instance
theorem Ee:∀k<26,b8 (rot k):=by decide +kernel
theorem fN:fU.length<=sizeLine:=by decide +kernel
theorem vM(m:Int):∃z,Txt.slice fU (some (m%26)) none++Txt.slice fU none (some (m%26))=z/\b8 z/\(Txt.slice fU (some (m%26)) none).length+(Txt.slice fU none (some (m%26))).length<=sizeLine:=by
 have a:0<=m%26:=Int.emod_nonneg _ ⋯;have b:m%26<26:=Int.emod_lt_of_pos _ ⋯
 generalize m%26=i at a b
 obtain⟨k,rfl⟩:=Xk a;have c:=Txt.slice_le fU (some (k:Int)) none;have d:=Txt.slice_le fU none (some (k:Int));have e:fU.length=26:=by decide +kernel
 exact%[_,rfl,Ee k ⋯|by rw[PySem.sizeLine_eq];lia]
theorem b8.iff{z:Str}(h:b8 z){c:Nat}:c∈z.cps.toList↔97<=c/\c<=122:=%[h.2.1 c|λq=>by
 have:=h.2.2 (c-97) ⋯;rwa[show 97+(c-97)=c by lia]at this]
theorem vN{c:Nat}(h:97<=c/\c<=122):okc c=true:=by
 have:∀i<26,okc (97+i)=true:=by decide +kernel
 have:=this (c-97) ⋯;rwa[show 97+(c-97)=c by lia]at this
theorem b8.col{z:Str}(h:b8 z):bU (PyProof.Rows.signs z):=by
 have l:(PyProof.Rows.signs z).length=26:=by rw[signs_length];exact h.1
 have m:∀r∈PyProof.Rows.signs z,∃c,(97<=c/\c<=122)/\r=⟨([c].toArray)⟩:=λr a=>by
  obtain⟨c,b,rfl⟩:=Xr a;exact%[c,h.2.1 c b|rfl]
 refine%[⋯,⋯,%[1,⋯,⋯|λr a=>?_],λr a=>?_,λi r f e n j c o g g' q=>?_|?_]
 .obtain⟨c,_,rfl⟩:=m r a;rfl
 .obtain⟨c,b,rfl⟩:=m r a;simpa using vN b
 .obtain⟨d,p,rfl⟩:=m f (Z8 n);have:o∈[d]:=by simpa using Z8 (l:=[d]) (i:=j) (by simpa using g')
  simp at this
  lia
 .have q:=h.iff (c:=97);exact%[⟨([97].toArray)⟩,Xs %[97,q.mpr ⋯|rfl],97,by simp|⋯]
theorem b8.row{z:Str}(h:b8 z):bU [z]:=by
 refine%[by simp,by simp,%[26,⋯,⋯|λr a=>?_],λr a=>?_,λi r f e b j c l g g' q=>?_|?_]
 .obtain rfl:=Xq a;exact h.1
 .obtain rfl:=Xq a;exact all_eq_true.mpr λc d=>vN (h.2.1 c d)
 .simp at b
 .exact%[z,by simp,97,h.iff.mpr ⋯|⋯]
theorem b8.letC{z:Str}(h:b8 z){c:Nat}:Let (PyProof.Rows.signs z) c↔97<=c/\c<=122:=by
 unfold Let
 constructor
 .rintro⟨_,r,a,b⟩;obtain⟨d,e,rfl⟩:=Xr a;obtain rfl:c=d:=by simpa using b
  exact h.2.1 c e
 .intro q;exact%[⋯,⟨([c].toArray)⟩,Xs %[c,h.iff.mpr q|rfl]|by simp]
theorem b8.letR{z:Str}(h:b8 z){c:Nat}:Let [z] c↔97<=c/\c<=122:=by
 unfold Let
 constructor
 .rintro⟨_,r,a,b⟩;obtain rfl:=Xq a;exact h.2.1 c b
 .intro q;exact%[⋯,z,by simp|h.iff.mpr q]
theorem BM(z:Str):sK [z]:=%[[],by simp|λa b ⟨_,_,i,j,r,d,e,c,_⟩=>by simp at c]
theorem b8.few{z:Str}(h:b8 z):sK (PyProof.Rows.signs z):=by
 refine%[(List.range 25).map λi=>[(PyProof.Rows.signs z).getD i Str.empty,(PyProof.Rows.signs z).getD (i+1) Str.empty],by simp|λa b ⟨_,_,i,j,r,m,e,c,g,g'⟩=>?_];have one:∀{r:Str} {i a:Nat},(PyProof.Rows.signs z)[i]? =some r->r.cps[j]? =some a->r=sgn a:=λ{r i a} e g=>by
  obtain⟨d,n,rfl⟩:=Xr (Z8 e);have:a∈[d]:=by simpa using Z8 (l:=[d]) (i:=j) (by simpa using g)
  rw[Xq this];rfl
 have f:=(Xo c).1;rw[signs_length,show z.length=26 from h.1]at f;refine Xs %[i,mem_range.mpr ⋯|?_];rw[Zc,Zc,e,c,<-one e g,<-one c g'];rfl
theorem four{H:Hp}{a b c d:Addr}{e g h o4:HO}(m:H a=none)(n:upd H a e b=none)(p:upd (upd H a e) b g c=none)(q:upd (upd (upd H a e) b g) c h d=none):∃f,upd (upd (upd (upd H a e) b g) c h) d o4=f/\af H f/\f a=some e/\f b=some g/\f c=some h/\f d=some o4:=
 have r:=af.upd (o:=e) m;have l:=af.upd (o:=g) n;have j:=af.upd (o:=h) p;have i:=af.upd (o:=o4) q
 %[_,rfl,r.trans (l.trans (j.trans i)),i _ _ (j _ _ (l _ _ aa)),i _ _ (j _ _ aa),i _ _ aa|aa]
theorem qX(m:Int):∃c,atI fU.cps.toList (m%26)=some c/\97<=c/\c<=122:=by
 have a:0<=m%26:=Int.emod_nonneg _ ⋯;have b:m%26<26:=Int.emod_lt_of_pos _ ⋯
 generalize m%26=i at a b
 obtain⟨k,rfl⟩:=Xk a;have:∀k<26,fU.cps.toList[k]? =some (97+k):=by decide +kernel
 exact%[97+k,cC (this k ⋯),⋯|⋯]
theorem BN(c:Nat):Str.ofString "north."++⟨([c].toArray)⟩=bK (Str.ofString "north") c:=dO rfl
theorem l_a(c:Nat):Str.ofString "a."++⟨([c].toArray)⟩=bK (Str.ofString "a") c:=dO rfl
theorem l_zz(c:Nat):Str.ofString "zz."++⟨([c].toArray)⟩=bK (Str.ofString "zz") c:=dO rfl
def E9(xs:ZM):Prop:=∃(n m:Str) (c d:Nat),xs=[.str (Str.ofString "later"),.str (bK n c),.str (bK m d)]/\n≠m/\n∈[Str.ofString "north",Str.ofString "a",Str.ofString "zz"]/\m∈[Str.ofString "north",Str.ofString "a",Str.ofString "zz"]/\(97<=c/\c<=122)/\97<=d/\d<=122
def pQ(H:Hp)(qs:ZN):Prop:=∀q∈qs,H q.1=some (.tup q.2)/\E9 q.2
theorem Fa{d H:Hp}{ps p:Addr}{qs:ZN}{xs:ZM}(i:af d H)(fs:d ps=none)(j:H ps=some (.lst (qs.map λq=>V.ref q.1)))(g:pQ H qs)(l:H p=none)(h:E9 xs):
 af d (upd (upd H p (.tup xs)) ps (.lst ((qs.map λq=>V.ref q.1) ++[V.ref p])))/\upd (upd H p (.tup xs)) ps (.lst ((qs.map λq=>V.ref q.1) ++[V.ref p])) ps=some (.lst ((qs++[(p,xs)]).map λq=>V.ref q.1))/\pQ (upd (upd H p (.tup xs)) ps (.lst ((qs.map λq=>V.ref q.1) ++[V.ref p]))) (qs++[(p,xs)]):=by
 have f:=af.upd (o:= .tup xs) l;refine%[af.set (i.trans f) fs,by rw[aa,Zd];rfl|λq a=>?_];have ne:∀{b:Addr} {ys:ZM},upd H p (.tup xs) b=some (.tup ys)->b≠ps:=λe c=>by
  rw[c,f _ _ j]at e;cases e
 rcases Xp a with a|a
 .have e:=f _ _ (g q a).1;exact%[by rw[ap (ne e)];exact e|(g q a).2]
 .obtain rfl:=Xq a;have e:upd H p (.tup xs) p=some (.tup xs):=aa;exact%[by rw[ap (ne e)];exact e|h]
theorem Af{H:Hp}{o r s:Addr}{j f:Str}{qs:ZN}(u:b8 j)(l:b8 f)(g1:H o=some (.tup [.str (Str.ofString "north"),.str (Str.join nl (PyProof.Rows.signs j))]))(g2:H r=some (.tup [.str (Str.ofString "a"),.str f]))(g3:H s=some (.tup [.str (Str.ofString "zz"),.str (Str.join nl (PyProof.Rows.signs f))]))(v:pQ H qs)(G:qs.length<=2):
 fT H [(o,Str.ofString "north",PyProof.Rows.signs j),(r,Str.ofString "a",[f]),(s,Str.ofString "zz",PyProof.Rows.signs f)] qs:=by
 have lt:∀p∈[(o,Str.ofString "north",PyProof.Rows.signs j),(r,Str.ofString "a",[f]),(s,Str.ofString "zz",PyProof.Rows.signs f)],∀c,Let p.2.2 c↔97<=c/\c<=122:=λp b c=>by
  simp only[Yy,X9,or_false]at b;rcases b with rfl|rfl|rfl
  .exact u.letC
  .exact l.letR
  .exact l.letC
 have a:∀p∈[(o,Str.ofString "north",PyProof.Rows.signs j),(r,Str.ofString "a",[f]),(s,Str.ofString "zz",PyProof.Rows.signs f)],(lyr p).length<=26:=λp b=>by
  have:=STab.nodup_sub (pP p) (m:=(List.range 26).map λi=>bK p.2.1 (97+i)) λx z=>by
   obtain⟨c,g,rfl⟩:=mj.mp z;have:=(lt p b c).mp g;exact Xs %[c-97,mem_range.mpr ⋯|by rw[show 97+(c-97)=c by lia]]
  simpa using this
 refine%[λp b=>?_,(show [Str.ofString "north",Str.ofString "a",Str.ofString "zz"].Nodup by decide),by simp,by simp,λp b=>?_,?_,λA pl q y=>%[(v q y).1|.inl ?_]|⋯]
 .simp only[Yy,X9,or_false]at b;rcases b with rfl|rfl|rfl
  .exact%[g1,(show d5 (Str.ofString "north")=true by decide)|u.col]
  .exact%[g2,(show d5 (Str.ofString "a")=true by decide)|l.row]
  .exact%[g3,(show d5 (Str.ofString "zz")=true by decide)|l.col]
 .simp only[Yy,X9,or_false]at b;rcases b with rfl|rfl|rfl
  .exact u.few
  .exact BM _
  .exact l.few
 .have I:=a _ (.head _);have J:=a _ (.tail _ (.head _));have L:=a _ (.tail _ (.tail _ (.head _)));simp only[List.flatMap_cons,List.flatMap_nil,Z9,length_nil]
  lia
 .obtain⟨n,m,c,d,e,B,t,C,g,E⟩:=(v q y).2;have mem:∀n∈[Str.ofString "north",Str.ofString "a",Str.ofString "zz"],∀c,97<=c/\c<=122->bK n c∈A:=λn t c g=>by
   refine(fB pl).mpr ?_;simp only[Yy,X9,or_false]at t;rcases t with rfl|rfl|rfl
   .exact%[_,.head _,c,(lt _ (.head _) c).mpr g|rfl]
   .exact%[_,.tail _ (.head _),c,(lt _ (.tail _ (.head _)) c).mpr g|rfl]
   .exact%[_,.tail _ (.tail _ (.head _)),c,(lt _ (.tail _ (.tail _ (.head _))) c).mpr g|rfl]
  exact%[_,_,_,e,.inl rfl,mem n t c g,mem m C d E|λh=>B (i5 h).1]
noncomputable def gly(n:Str):ZB:=fU.cps.toList.map λc=>n++Str.ofString "."++⟨([c].toArray)⟩
theorem BO{n x:Str}:x∈gly n↔∃c,(97<=c/\c<=122)/\x=bK n c:=by
 have b:b8 fU:=by decide +kernel
 have e:∀c:Nat,n++Str.ofString "."++⟨([c].toArray)⟩=bK n c:=λc=>dO (by
  show(n.cps++ ([46].toArray) ++ ([c].toArray)).toList=(n.cps.toList++[46,c]).toArray.toList;simp)
 unfold gly;rw[mem_map]
 constructor
 .rintro⟨c,a,rfl⟩;exact%[c,b.iff.mp a|e c]
 .rintro⟨c,a,rfl⟩;exact%[c,b.iff.mpr a|e c]
theorem tw{c d e:Addr}{b a:Str}(g:b8 b)(f:b8 a):([Str.ofString "north",Str.ofString "a",Str.ofString "zz"].flatMap gly).Perm ([(c,Str.ofString "north",PyProof.Rows.signs b),(d,Str.ofString "a",[a]),(e,Str.ofString "zz",PyProof.Rows.signs a)].flatMap lyr):=by
 refine(List.perm_ext_iff_of_nodup (by decide +kernel) (eN (cs:=[(c,Str.ofString "north",PyProof.Rows.signs b),(d,Str.ofString "a",[a]),(e,Str.ofString "zz",PyProof.Rows.signs a)]) (show [Str.ofString "north",Str.ofString "a",Str.ofString "zz"].Nodup by decide) (.refl _))).mpr λx=>?_
 rw[fB (.refl _),mem_flatMap];simp only[Yy,X9,or_false,exists_eq_or_imp,exists_eq_left,BO,g.letC,f.letC,f.letR]
def BP:Sp:=λvs H Q _=>∃n:Int,vs=[.int n]/\∀t b c d a (cs:ZH) (qs:ZN) (e:ZB),af H a->a t=some (.tup [.ref b,.ref c,.ref d])->a b=some (.lst (ci cs))->a c=some (.lst (qs.map λq=>V.ref q.1))->fT a cs qs->a d=some (.lst (e.map V.str))->e.Perm (cs.flatMap lyr)->Q (.ref t) a
theorem tz(T:Txt K mg):↥1 "_law_great" ["_law_number"] BP:=by
 refine T.bo.cal bA (λH vs Q E h=>?_)
 .obtain⟨n,rfl,kk⟩:=h;refine%[rfl|λf a0 A outer s hr=>?_];refine%[_,(QSs.h (ah (aI 1 bA.nd rfl cm)
   (ah (aI 2 bA.nd rfl (opE cn (slE (K:=K) rfl ↑1 (iG (opE bi ↑0 ar)) noO) (slE (K:=K) rfl ↑1 noO (iG (opE bi ↑0 ar)))))
   (ah (aI 3 bA.nd rfl (opE cn (slE (K:=K) rfl ↑1 (iG (opE bi (opE bG ↑0 ar) ar)) noO) (slE (K:=K) rfl ↑1 noO (iG (opE bi (opE bG ↑0 ar) ar)))))
   (ah (aI 4 bA.nd rfl (cQ #[(eV #[cm,(bmO (K:=K) plainAttrs_str slot_str_join type_str_join (vE rfl) rfl cm #[↑2])]),eV #[cm,↑3],(eV #[cm,(bmO (K:=K) plainAttrs_str slot_str_join type_str_join (vE rfl) rfl cm #[↑3])])]))
   (ah (aI 5 bA.nd rfl (cQ ak))
   (ah (ifS (bF cR rfl (opE bi (opE bG ↑0 ar) ar) ar)
   (aq (bT rfl (bmO (K:=K) plainAttrs_list PySem.F.slot_list_append PySem.F.type_list_append aS rfl ↑5 #[(eV #[cm,(opE cn cm (ixE (K:=K) rfl (λ_ _=>rfl) ↑1 (opE bi (opE bG ↑0 ar) ar))),(opE cn cm (ixE (K:=K) rfl (λ_ _=>rfl) ↑1 (opE bi (opE bG ↑0 ar) ar)))])])))
   bh)
   (ah (ifS (bF wB rfl (opE bi (opE bG ↑0 ar) ar) ar)
   (aq (bT rfl (bmO (K:=K) plainAttrs_list PySem.F.slot_list_append PySem.F.type_list_append aS rfl ↑5 #[(eV #[cm,(opE cn cm (ixE (K:=K) rfl (λ_ _=>rfl) ↑1 (opE bi (opE bG ↑0 ar) ar))),(opE cn cm (ixE (K:=K) rfl (λ_ _=>rfl) ↑1 (opE bi (opE bG ↑0 ar) ar)))])])))
   bh)
   (ah (aI 6 bA.nd rfl (cQ ak))
   (ah (cP PassesOwn.never rfl rfl (cF (K:=K) rfl ↑4) (fD (K:=K) rfl rfl rfl (gsE rfl (mK 7 bA.nd rfl Z1 Z0) (gsE rfl (aM 8 bA.nd rfl) cO)))
   (aq (aI 6 bA.nd rfl (opE cn ↑6 (eE (az.of (show bP (ai fK) ["_law_number","_law_signs_of","_law_one","_law_other","_law_cuts","_law_sayings","_law_layers","_law_name","_law_text"] _ ["_law_sign_at","_law_name"] [(1,7)]=true from by decide +kernel)) rfl rfl (cF (K:=K) rfl ↑1) (λ_ _ _=>(aM 0 (show(["_law_sign_at","_law_name"]:ZB).Nodup from by decide +kernel) rfl)) (λ_ _ _=>jf) (λ_ _ _=>(opE cn (opE cn (dU 1 rfl) cm) ↑0)))))))
   (aq (aN (eV #[↑4,↑5,↑6])))))))))))))|?_]
  show bv _ _ _ [some (.int n),none,none,none,none,none,none,none,none] H;refine am λD1 k1 _=>?_
  lk;refine k1 _ _ (am λD2 k2 _=>?_);lk;obtain⟨t,e1,a1,b1⟩:=vM n;refine%[by decide,fN,by decide,fN,b1|k2 _ _ (am λD3 k3 _=>?_)];rw[e1];clear e1 b1;lk;obtain⟨m,O,a2,b2⟩:=vM (n/26);refine%[%[by decide|by decide],by decide,fN,%[by decide|by decide],by decide,fN,b2|k3 _ _ (am λD4 k4 _=>?_)];rw[O];clear O b2;lk;have y1:t.length<=1000:=by rw[show t.length=26 from a1.1];lia
  have y2:m.length<=1000:=by rw[show m.length=26 from a2.1];lia
  refine%[_,_,rfl,rfl,y1,by decide,#[2]|λp1 f1=>%[#[2]|λp2 f2=>%[_,_,rfl,rfl,y2,by decide,#[2]|λp3 f3=>%[#[3]|λu fc=>k4 _ _ (am λD5 k5 _=>?_)]]]];obtain⟨Y,e,sc,g1,g2,g3,gc⟩:=four (o4:= .lst [.ref p1,.ref p2,.ref p3]) f1 f2 f3 fc;rw[show Txt.join (Str.ofString "\n") (PyProof.Rows.signs t)=Str.join nl (PyProof.Rows.signs t)from StrLaws.glued_eq_join _ _]at g1;rw[show Txt.join (Str.ofString "\n") (PyProof.Rows.signs m)=Str.join nl (PyProof.Rows.signs m)from StrLaws.glued_eq_join _ _]at g3;rw[e];clear e f1 f2 f3 fc;lk;refine%[#[0]|λps fs=>k5 _ _ (am λD6 k6 _=>?_)];have t5:=af.upd (o:= .lst []) fs;have d:upd Y ps (.lst []) ps=some (.lst []):=aa;have I:pQ (upd Y ps (.lst [])) []:=λq h=>nomatch h
  have g:∀r (qs:ZN),af Y r->r ps=some (.lst (qs.map λq=>V.ref q.1))->pQ r qs->qs.length<=1->D6.nx [some (.int n),-fU,-t,-m,!u,!ps,none,none,none] r:=by
   intro r qs sm d I ql;refine k6 _ _ (am λD7 k7 _=>?_);have g:∀r (qs:ZN),af Y r->r ps=some (.lst (qs.map λq=>V.ref q.1))->pQ r qs->qs.length<=2->D7.nx [some (.int n),-fU,-t,-m,!u,!ps,none,none,none] r:=by
    intro H7 qs sm d I ql;refine k7 _ _ (am λD8 k8 _=>?_);lk;refine%[#[0]|λpl fl=>k8 _ _ (am λD9 k9 _=>aw λab hK=>?_)];lk;have u1:=af.upd (o:= .lst []) fl;have hl:upd H7 pl (.lst []) pl=some (.lst []):=aa
    generalize upd H7 pl (.lst [])=H8 at u1 hl
    have s8:=sm.trans u1;refine .inl %[%[_|SqL.of (s8 _ _ gc)]|hK _ _ (bj (xs:=[V.ref p1,V.ref p2,V.ref p3]) (λi L z=>∃(a:Addr) (o7 o8:Option V) (vs:ZM),L=[some (.int n),-fU,-t,-m,!u,!ps,!a,o7,o8]/\af H8 z/\z a=some (.lst vs)/\vs=((([Str.ofString "north",Str.ofString "a",Str.ofString "zz"]).take i).flatMap gly).map V.str/\vs.length=26*i)
     %[pl,_,_,[],rfl,λ_ _ e=>e,hl,rfl|rfl] (λi L z _ ⟨_,_,_,_,_,h,_,_⟩=>SqL.of (h _ _ (s8 _ _ gc))) ?_ ?_)]
    .rintro i v L z hv ⟨a,o7,o8,vs,rfl,B,M,ve,vl⟩;obtain⟨pp,b,tx,rfl,al,a3,an⟩:∃(pp:Addr) (b tx:Str),v= .ref pp/\Y pp=some (.tup [.str b,.str tx])/\b.length<=8/\[Str.ofString "north",Str.ofString "a",Str.ofString "zz"][i]? =some b:=by
      have il:i<3:=(Xo hv).1;obtain rfl|rfl|rfl:i=0\/i=1\/i=2:=by lia
      .exact%[_,_,_,(Za hv).symm,g1,by decide|rfl]
      .exact%[_,_,_,(Za hv).symm,g2,by decide|rfl]
      .exact%[_,_,_,(Za hv).symm,g3,by decide|rfl]
     have ac:=B _ _ (s8 _ _ al);have il:i<3:=(Xo hv).1;refine%[_,SqT.of ac|?_];refine%[rfl,_,_,rfl,_,_,rfl,rfl|?_];show nR _ _ _ [some (.int n),-fU,-t,-m,!u,!ps,!a,-b,-tx] z;refine aA λa4 as _=>?_
     lk;refine aE λab hK=>?_
     lk;refine hK _ _ λF hF=>?_
     have a5:fU.cps.size=26:=by decide +kernel
     refine bw (J:=Its fU) (n:=fU.cps.size) (D:=F) (λj ys L U=>(∃o,L=[o,-b])/\af z U/\U F=some (.lst ys)/\ys=((gly b).take j).map V.str/\ys.length=j) %[%[none|rfl],af.upd hF,aa,rfl|rfl]
      (λj _ _ _ hj _=>hj) (λ_ _ _ _=>Zi _) ?_ ?_
     .rintro j ys L U hj ⟨⟨o,rfl⟩,C,N,ye,yl⟩ x a6 ⟨O,c,hc,rfl⟩;subst O;lk;have e1:(Str.ofString ".").length=1:=rfl;have O:(b++Str.ofString ".").length=b.length+1:=by
       show(b.cps++(Str.ofString ".").cps).size=_;rw[size_append];rfl
      refine%[by rw[e1,PySem.sizeLine_eq];lia,by rw[O,PySem.sizeLine_eq,show(⟨([c].toArray)⟩:Str).length=1 from rfl];lia|CK.mk hj N (by rw[yl];exact aC ⋯) %[%[_|rfl],af.set C hF,aa,?_|by rw[Z9,yl];rfl]];have gj:(gly b)[j]? =some (b++Str.ofString "."++⟨([c].toArray)⟩):=by
       unfold gly;rw[Zl,Ye,hc];rfl
      rw[ye,Xd,gj,Zd];rfl
     .rintro ys L U ⟨_,C,N,ye,yl⟩;refine%[F,rfl,vs,C _ _ M,ys,N,by rw[PySem.sizeLine_eq];lia|λp G=>as _ _ %[p,_,_,vs++ys,rfl,B.trans (C.trans (af.upd G)),aa,?_|by rw[Z9];lia]];rw[Zn (by unfold gly;rw[Z6,Zb];exact Zi _)]at ye;rw[ve,ye,Xd,an,flatMap_append,Zd];show _=_++(List.flatMap gly [b]).map V.str;rw[List.flatMap_singleton]
    .rintro L z ⟨a,o7,o8,vs,rfl,B,M,ve,vl⟩;refine k9 _ _ ?_;lk;refine%[#[3]|λp G=>?_];have u2:=af.upd (o:= .tup [.ref u,.ref ps,.ref a]) G;have ag:upd z p (.tup [.ref u,.ref ps,.ref a]) p=some (.tup [.ref u,.ref ps,.ref a]):=aa
     generalize upd z p (.tup [.ref u,.ref ps,.ref a])=U at u2 ag
     have s9:=u1.trans (B.trans u2);have l:=sm.trans s9;exact kk p u ps a U [(p1,Str.ofString "north",PyProof.Rows.signs t),(p2,Str.ofString "a",[m]),(p3,Str.ofString "zz",PyProof.Rows.signs m)] qs _ (sc.trans l) ag (l _ _ gc) (s9 _ _ d) (Af a1 a2 (l _ _ g1) (l _ _ g2) (l _ _ g3) (λq hq=>%[s9 _ _ (I q hq).1|(I q hq).2]) ql) (u2 _ _ (by rw[M,ve];rfl)) (tw a1 a2)
   lk;refine%[%[by decide|by decide],by decide|bI (λc=>?_) λc=>g _ _ sm d I ⋯];obtain⟨x,ex,lx⟩:=qX (n/35152);obtain⟨y,ey,ly⟩:=qX (n/913952);refine%[.inl %[_|SqL.of d],%[by decide|by decide],by decide,fN,x,ex,(show(Str.ofString "a.").length+1<=sizeLine by decide),%[by decide|by decide],by decide,fN,y,ey,(show(Str.ofString "zz.").length+1<=sizeLine by decide),#[3]|λp G=>%[_,af.upd G _ _ d,by rw[Z6];exact aC ⋯|?_]];obtain⟨h1,h2,h3⟩:=Fa sm fs d I G %[Str.ofString "a",Str.ofString "zz",x,y,rfl,by decide,by decide,by decide,lx|ly];rw[l_a,l_zz];exact g _ _ h1 h2 h3 (by rw[Z9];simpa using ql)
  lk;refine%[%[by decide|by decide],by decide|bI (λc=>?_) λc=>g _ [] t5 d I ∅];obtain⟨x,ex,lx⟩:=qX (n/1352);obtain⟨y,ey,ly⟩:=qX (n/35152);refine%[.inl %[_|SqL.of d],%[by decide|by decide],by decide,fN,x,ex,(show(Str.ofString "north.").length+1<=sizeLine by decide),%[by decide|by decide],by decide,fN,y,ey,(show(Str.ofString "a.").length+1<=sizeLine by decide),#[3]|λp G=>%[_,af.upd G _ _ d,(show 0<sizeLine by decide)|?_]];obtain⟨h1,h2,h3⟩:=Fa (qs:=[]) t5 fs d I G %[Str.ofString "north",Str.ofString "a",x,y,rfl,by decide,by decide,by decide,lx|ly];rw[BN,l_a];exact g _ _ h1 h2 h3 ∅
def Ef(K:ZA):Sp:=λvs H Q _=>∃(a:Addr) (c:ZL),vs=[.ref a]/\SqL K H a (c.map V.int)/\yE H/\c.length<=63/\∀t d e f b (cs:ZH) (qs:ZN) (g:ZB),af H b->b t=some (.tup [.ref d,.ref e,.ref f])->b d=some (.lst (ci cs))->b e=some (.lst (qs.map λq=>V.ref q.1))->fT b cs qs->b f=some (.lst (g.map V.str))->g.Perm (cs.flatMap lyr)->Q (.ref t) b
theorem kl(T:Txt K mg):↥4 "_law_told_ground" ["_law_script"] (Ef K):=by
 refine T.bp.cal jD (λH vs Q E h=>?_)
 .obtain⟨a,g,rfl,o,ho,hn,L⟩:=h;refine%[rfl|λf ab A outer s e=>?_];refine%[_,(QSs.h (ah (ifS (bF cR rfl (opE bi (opE bG (aD (bY T) e rfl #[↑0,ar]) ar) ar) ar)
   (aq (aN (aD (tz T) e rfl #[aD (bY T) e rfl #[↑0,ar]])))
   bh)
   (aq (aN (aD (qT T) e rfl #[aD (xo T) e rfl #[↑0,ar],iF cR rfl (opE bi (opE bG (aD (bY T) e rfl #[↑0,ar]) ar) ar) ar])))))|?_]
  show bv _ _ _ [!a] H;refine am λD1 k1 r1=>?_
  lk;refine%[a,g,0,rfl,o,⋯|?_]
  generalize g.getD _ 0=c0
  lk;refine%[%[by decide|by decide],by decide|bI (λc=>?_) λc=>k1 _ _ ?_]
  .refine%[a,g,1,rfl,o,⋯,_,rfl|λt r u v M cs qs i y z B C p G pm=>r1 _ _ (L t r u v M cs qs i y z B C p G pm)]
  .lk;refine%[a,g,43,rfl,o,⋯,by decide,by decide|λl0 H0 xs N f0 O I hb=>?_];lk;refine%[a,g,0,rfl,nN o N,⋯|?_];lk;refine%[%[by decide|by decide],by decide,l0,xs,_,rfl,SqL.of O,λM y=>SqL.of (y _ _ O),I,hb|λt r u v U ds qs s1 ft f1 f2 f3 ac ag al z B C G d1 d3 b j J l hq an as=>?_];have i:((dcs ds).map λp=>p.2.1).Nodup:=by
    unfold dcs;rw[Yu];exact j
   have dl:(dcs ds).length=ds.length:=by unfold dcs;rw[Z6]
   have sub:∀m:ZB,m.Perm ((dcs ds).flatMap lyr)->∀x,x∈m↔x∈(ds.flatMap λp=>(iw p.2).map (·.1)):=λm pl x=>by rw[fB pl,xJ b]
   have few:∀p∈dcs ds,sK p.2.2:=λp Y=>by
    unfold dcs at Y;obtain⟨d,hd,rfl⟩:=Xr Y;exact zK (b d hd).2.2.2.2.2
   have ly:((dcs ds).flatMap lyr).length<=80:=by
    have:=STab.nodup_sub (eN i (.refl _)) λx I=>(sub _ (.refl _) x).mp I
    lia
   have P1:fT U (dcs ds) qs:=%[J,i,⋯,⋯,few,ly,λm p q n=>%[(l q n).1|(l q n).2.mono λx=>(sub m p x).mpr]|⋯]
   exact L t r u v U (dcs ds) qs _ (N.trans s1) z B C P1 G ((List.perm_ext_iff_of_nodup (tt b j) (eN i (.refl _))).mpr λx=>(sub _ (.refl _) x).symm)
def u8:Sp:=λvs H Q _=>∃(l m:Addr) (a b:Str) (ws ss:ZG),vs=[.ref l,.ref m,.str a,.str b,.int (ws.length:Int)]/\H l=some (.lst (ws.map λt=>V.ref t.1))/\(∀t∈ws,H t.1=some (.tup (t.2.map V.str)))/\H m=some (.lst (ss.map λt=>V.ref t.1))/\(∀t∈ss,H t.1=some (.tup (t.2.map V.str)))/\(∀t∈ws,t.2∈ss.map (·.2))/\Wal (ws.map (·.2)) a b/\Q (.bl true) H
theorem Ag{b:Str}:∀{us:List ZB} {a:Str} {i:Nat} {k:ZB} {x:Str},us[i]? =some k->Wal (us.drop i) x b->Wal us a b->∃y z,k=[x,y,z]/\Wal (us.drop (i+1)) y b:=λ{us a i k x} d h _=>by
 rw[Y0 (Xo d).1]at h;obtain⟨c,z,e,h⟩:=h;rw[(Xo d).2]at e;exact%[c,z,e|h]
theorem iW(T:Txt K mg):↥1 "_law_is_chain" ["_law_found","_law_some","_law_begin","_law_goal","_law_many"] u8:=by
 refine T.bn.cal cZ (λH vs Q E h=>?_)
 .obtain⟨l,m,a,b,ws,ss,rfl,n,hw,J,L,sub,g,M⟩:=h;refine%[rfl|λf G A outer s I=>?_];refine%[_,(QSs.h (ah (ifS (wT (orW (je (~~~(cbO (iI (K:=K) rfl) T.ac boot_isinstance rfl #[↑0,(blE (v:= .ty "list") rfl T.a5 boot_list rfl rfl rfl)]))) (mJ (bF eF rfl ↑↑0 ↑4))))
   (aq (aN eBl))
   bh)
   (ah (aI 5 cZ.nd rfl ↑2)
   (ah (cP PassesOwn.never rfl rfl (cF (K:=K) rfl ↑0) (aM 6 cZ.nd rfl)
   (ah (ifS (wT (orW (je (~~~(cbO (iI (K:=K) rfl) T.ac boot_isinstance rfl #[↑6,(blE (v:= .ty "tuple") rfl T.af boot_tuple rfl rfl rfl)]))) (orW (bF (sH I) rfl ↑6 ↑1) (mJ (bF eF rfl (↑6*>ar) ↑5)))))
    (aq (aN eBl))
    bh)
    (aq (aI 5 cZ.nd rfl (↑6*>ar)))))
   (aq (aN (iF cR rfl ↑5 ↑3)))))))|?_]
  show bv _ _ _ [!l,!m,-a,-b,some (.int ws.length),none,none] H;refine am λD1 k1 r1=>?_
  lk;refine%[_,.lst n,true,rfl|?_];rw[if_neg (by decide)];refine%[_,.inl %[_,SqL.of n|rfl]|?_];rw[Z6,if_neg ∅];refine k1 _ _ (am λD2 k2 r2=>?_);lk;refine k2 _ _ (am λD3 N r3=>aw λr O=>?_);lk;refine .inl %[%[_|SqL.of n]|O _ _ ?_];refine bj (xs:=ws.map λt=>V.ref t.1) (λi o j=>j=H/\∃(x:Str) (p:Option V),o=[!l,!m,-a,-b,some (.int ws.length),-x,p]/\Wal ((ws.map λt:Addr×ZB=>t.2).drop i) x b) %[rfl,a,none,rfl|g] (λi o j _ h=>h.1▸SqL.of n) ?_ ?_
  .rintro i v o j u ⟨e,x,p,rfl,wd⟩;subst e;rw[Zl]at u;obtain⟨t,B,rfl⟩:=map_eq_some_iff.mp u;have C:=Z8 B;obtain⟨y,z,U,q⟩:=Ag (k:=t.2) (by rw[Zl,B];rfl) wd g;have c:=hw t C;have d:=sub t C;rw[U]at c d;show bv _ _ _ [!l,!m,-a,-b,some (.int ws.length),-x,some (.ref t.1)] j;refine am λD4 Y r4=>?_
   lk;refine%[_,.tup c,true,rfl|?_];rw[if_neg (by decide)];refine%[t.1,m,[x,y,z],ss,rfl,rfl,c,J,L,d,false,rfl|?_];rw[if_neg (by decide)];refine%[_,SqT.of c,_,rfl,rfl|?_];rw[if_neg ∅];refine Y _ _ ?_;lk;exact%[_,SqT.of c,_,rfl,y,rfl|q]
  .rintro o j ⟨e,x,p,rfl,wd⟩;subst e;refine N _ _ ?_;rw[Z6,drop_of_length_le (by rw[Z6];exact Zi _)]at wd;obtain rfl:x=b:=wd;lk;rw[Zf trivial];exact M
theorem xK{rows:ZB}{i j a b:Nat}{u r:Str}(d:rows[i]? =some u)(c:rows[i+1]? =some r)(e:u.cps[j]? =some a)(f:r.cps[j]? =some b)(n:a≠46)(ne:a≠b):[sgn a,sgn b]∈dR rows (rows.length-1):=by
 have g:=(Xo c).1;unfold dR kS;refine mem_flatMap.mpr %[i,mem_range.mpr ⋯|mem_filterMap.mpr %[(a,b),?_|if_pos %[n|ne]]];rw[Zc,Zc,d,c];exact Z8 (i:=j) (List.getElem?_zip_eq_some.mpr %[by rw[Ye];exact e|by rw[Ye];exact f])
theorem tD{c:TT}{t u:TS}{D:lK}{d:St}{H:Hp}(h:∀T U:Hp->Prop,(∀a,t D d a->T a)->(∀a,u D d a->U a)->c d H λb a=>if b=true then T a else U a):lL c t u D d H:=h _ _ (λ_ x=>x) λ_ x=>x
def Eg(mg:ZC):Sp:=λvs H Q _=>∃(g l m:Addr) (cs:ZH) (qs:ZN) (a:ZB) (ts ss:ZG),vs=[.ref g,.ref l,.ref m]/\jk mg H g qs a ts/\H l=some (.lst (ci cs))/\bZ H cs/\a.Perm (cs.flatMap lyr)/\(∀k,k∈fM cs->k∈ts.map (·.2))/\H m=some (.lst (ss.map λt=>V.ref t.1))/\(∀t∈ss,H t.1=some (.tup (t.2.map V.str)))/\cL (cj qs) (ts.map (·.2)) (ss.map (·.2))/\∀b,af H b->Q (.bl true) b
theorem oB(T:Txt K mg):↥5 "_law_has_met" ["_law_ground_here","_law_cuts","_law_some"] (Eg mg):=by
 refine T.bi.cal bD (λH vs Q E h=>?_)
 .obtain⟨g,l,m,cs,qs,ls,ts,ss,rfl,gr,hl,ca,pl,tm,hm,a2,lk,kk⟩:=h;refine%[rfl|λf a7 A outer s hr=>?_];refine%[_,(QSs.h (ah (cP PassesOwn.never rfl rfl (cF (K:=K) rfl ↑1) (fD (K:=K) rfl rfl rfl (gsE rfl (aM 3 bD.nd rfl) (gsE rfl (aM 4 bD.nd rfl) cO)))
   (ah (aI 5 bD.nd rfl (bmO (K:=K) plainAttrs_str PySem.F.slot_str_split PySem.F.type_str_split vo rfl ↑4 #[cm]))
    (aq (cP PassesOwn.never rfl rfl (EI rfl T.ai rfl rfl #[ar,↑↑5]) (aM 6 bD.nd rfl)
    (aq (cP PassesOwn.never rfl rfl (jn rfl T.ai rfl #[↑((↑5>>↑6))]) (aM 7 bD.nd rfl)
     (ah (aI 8 bD.nd rfl (A7 (λ_ _=>rfl) (↑5>>(opE oV ↑6 ar)) ↑7))
      (aq (ifS (wT (kz (bF eF rfl ↑8 cm) (iH (bF eF rfl ↑8 (A7 (λ_ _=>rfl) (↑5>>↑6) ↑7)))))
      (ah (aI 9 bD.nd rfl (aD (cK T) hr rfl #[↑0,opE cn (opE cn ↑3 cm) ↑8]))
       (aq (ifS (bF (sH hr) rfl (eV #[↑9,(aD (cK T) hr rfl #[↑0,(opE cn (opE cn ↑3 cm) (A7 (λ_ _=>rfl) (↑5>>↑6) ↑7))]),↑3]) ↑2)
       (aq (aN eBl))
       bh)))
      bh)))))))))
   (aq (aN eBl))))|?_]
  show bv _ _ _ [!g,!l,!m,none,none,none,none,none,none,none] H;refine am λD1 k1 r1=>aw λN hK=>?_
  lk;refine .inl %[%[_|SqL.of hl]|hK _ _ ?_];refine bj (xs:=ci cs) (λi C G=>(∃o3 o4 o5 O z d y,C=[!g,!l,!m,o3,o4,o5,O,z,d,y])/\af H G) %[%[_,_,_,_,_,_,_|rfl]|λ_ _ e=>e] (λi C G _ h=>SqL.of (h.2 _ _ hl)) ?_ ?_
  .rintro i v C G hv ⟨⟨o3,o4,o5,O,z,d,y,rfl⟩,sm⟩;unfold ci at hv;rw[Zl]at hv;obtain⟨p,hp,rfl⟩:=map_eq_some_iff.mp hv;have pm:=Z8 hp;obtain⟨a3,a4,cut⟩:=ca p pm;refine%[_,SqT.of (sm _ _ a3),rfl,_,_,rfl,_,_,rfl,rfl|?_];show bv _ _ _ [!g,!l,!m,some (.str p.2.1),some (.str (Str.join nl p.2.2)),o5,O,z,d,y] G;refine am λD2 k2 _=>?_
   lk;refine%[by decide,bE (by have:=cut.text;lia)|λr fr=>k2 _ _ (aA λD3 k3 r3=>aw λN hK=>?_)];rw[show Txt.split (Str.join nl p.2.2) (Str.ofString "\n")=p.2.2 from cut.split];have s1:=sm.trans (af.upd (o:= .lst (p.2.2.map V.str)) fr);have B:upd G r (.lst (p.2.2.map V.str)) r=some (.lst (p.2.2.map V.str)):=aa
   generalize upd G r (.lst (p.2.2.map V.str))=H1 at s1 B ⊢
   have rl:(p.2.2.map V.str).length=p.2.2.length:=Z6 _;have a8:=cut.high;obtain⟨wd,w1,a9,hw⟩:=cut.wide;lk;refine%[p.2.2.length,.inl %[_,SqL.of B|rl.symm],⋯,⋯,⋯,⋯|hK _ _ ?_];refine cJ (λa C G=>(∃O z d y,C=[!g,!l,!m,some (.str p.2.1),some (.str (Str.join nl p.2.2)),!r,O,z,d,y])/\af H1 G) %[%[_,_,_,_|rfl]|λ_ _ e=>e] ?_ ?_
   .rintro a C H2 ha ⟨⟨O,z,d,y,rfl⟩,s2⟩;have U:a+1<p.2.2.length:=by lia
    have L:∀{j:Nat} (h:j<p.2.2.length),atI (p.2.2.map V.str) ((j:Nat):Int)=some (.str p.2.2[j]):=λ{j} h=>cC (by rw[Zl,Z4 h];rfl)
    have e1:(1:Int) +(a:Int)=((a+1:Nat):Int):=by lia
    have e0:((a+1:Nat):Int) -1=((a:Nat):Int):=by lia
    show vW _ _ _ _ [!g,!l,!m,some (.str p.2.1),some (.str (Str.join nl p.2.2)),!r,some (.int (1+(a:Int))),z,d,y] H2;rw[e1];refine aA λD4 k4 r4=>aw λN hK=>?_
    lk;refine%[_,SqL.of (s2 _ _ B),_,L U|?_];have wd:∀j (h:j<p.2.2.length),p.2.2[j].length=wd:=λj h=>hw _ (Yf h)
    refine%[p.2.2[a+1].length,%[bE (by rw[wd];lia)|rfl],⋯,by rw[wd];lia|hK _ _ ?_];rw[Int.toNat_natCast,wd];refine cJ (λj C G=>(∃z d y,C=[!g,!l,!m,some (.str p.2.1),some (.str (Str.join nl p.2.2)),!r,some (.int (a+1:Nat)),z,d,y])/\af H1 G) %[%[_,_,_|rfl]|s2] ?_ ?_
    .rintro j C H3 hj ⟨⟨z,d,y,rfl⟩,Y⟩;show bv _ _ _ [!g,!l,!m,some (.str p.2.1),some (.str (Str.join nl p.2.2)),!r,some (.int (a+1:Nat)),some (.int (0+(j:Int))),d,y] H3;have l0:a<p.2.2.length:=by lia
     obtain⟨I,M⟩:∃c,p.2.2[a].cps[j]? =some c:=%[_|Array.getElem?_eq_getElem (show j<p.2.2[a].cps.size by have:=wd a l0;have e:p.2.2[a].cps.size=p.2.2[a].length:=rfl;lia)]
     obtain⟨cb,J⟩:∃c,p.2.2[a+1].cps[j]? =some c:=%[_|Array.getElem?_eq_getElem (show j<p.2.2[a+1].cps.size by have:=wd _ U;have e:p.2.2[a+1].cps.size=p.2.2[a+1].length:=rfl;lia)]
     refine am λD5 k5 r5=>?_
     lk;refine%[_,SqL.of (Y _ _ B),_,by rw[e0];exact L l0|?_];have ab:∀{i c:Nat} {h:i<p.2.2.length},p.2.2[i].cps[j]? =some c->atI p.2.2[i].cps.toList (j:Int)=some c:=λ{i c h} e=>cC (by rw[Ye];exact e)
     have bl:∀{i:Nat} (h:i<p.2.2.length),p.2.2[i].length<=sizeLine:=λh=>bE (by rw[wd _ h];lia)
     refine%[_,rfl,bl l0,I,ab M|k5 _ _ (aA λD6 k6 r6=>tD λT6 U6 hT hU=>?_)];lk;have nx:U6 H3:=hU _ (k6 _ _ %[%[_,_,_|rfl]|Y]);refine bI (λc1=>?_) λ_=>nx
     refine%[_,SqL.of (Y _ _ B),_,L U,_,rfl,bl U,cb,ab J|bI (λc2=>?_) λ_=>nx];have ac:I≠46:=λe=>by rw[e]at c1;exact absurd c1 (by decide)
     have a5:I≠cb:=λe=>by rw[e]at c2;simp at c2
     have ra:=Z4 l0;have rb:=Z4 U;have an:cb≠46:=λe=>ac (cut.fall a _ _ ra rb j _ _ M J e)
     have inl:∀{i c:Nat} (h:i<p.2.2.length),p.2.2[i].cps[j]? =some c->c≠46->bK p.2.1 c∈ls:=λh e n=>(fB pl).mpr %[p,pm,_,%[n,_,Yf h|Z8 (i:=j) (by rw[Ye];exact e)]|rfl]
     have as:∀{u v:Str},cD (cj qs) (bK p.2.1 I) u->cD (cj qs) (bK p.2.1 cb) v->[u,v,p.2.1]∈ss.map (·.2):=λ{u v} lu lv=>(lk.mem _).mpr %[_,_,_,u,v,tm _ (mem_flatMap.mpr %[p,pm|Xs %[_,xK ra rb M J ac a5|by unfold sT;rw[Yt,Yt,jc,jc];rfl]]),lu,lv|rfl]
     have a6:=kg a4;have ea:∀a b:Str,(a++b).length=a.length+b.length:=λa b=>size_append
     have bb:(Str.ofString ".").length=1:=rfl;have b1:p.2.1.length+(Str.ofString ".").length<=sizeLine:=bE ⋯;have b2:∀c:Nat,(p.2.1++Str.ofString ".").length+(⟨([c].toArray)⟩:Str).length<=sizeLine:=λc=>bE (by rw[ea,show(⟨([c].toArray)⟩:Str).length=1 from rfl];lia)
     obtain⟨c2,c3,c4,gf⟩:=gr.gr;have ll:=gr.ll;have a0:=s1.trans Y;refine hT _ (am λD7 k7 r7=>?_);lk;refine%[b1,b2 _,g,c2,c3,c4,qs,ls,ts,bK p.2.1 I,by rw[<-kW];rfl,gf.up a0,gr.nd,gr.so,⋯,inl l0 M ac|λH4 u s4 lu=>k7 _ _ (tD λT7 U7 hT hU=>?_)];lk;refine%[b1,_,SqL.of (s4 _ _ (Y _ _ B)),_,L U,_,rfl,bl U,cb,ab J,b2 _,g,c2,c3,c4,qs,ls,ts,bK p.2.1 cb,by rw[<-kW];rfl,gf.up (a0.trans s4),gr.nd,gr.so,⋯,inl U J an|λH5 v s5 lv=>%[#[3]|λq fq=>?_]];have ag:=(Y.trans (s4.trans s5)).trans (af.upd (o:= .tup [.str u,.str v,.str p.2.1]) fq);have hq:upd H5 q (.tup [.str u,.str v,.str p.2.1]) q=some (.tup ([u,v,p.2.1].map V.str)):=aa
     generalize upd H5 q (.tup [.str u,.str v,.str p.2.1])=H6 at ag hq ⊢
     have a1:=s1.trans ag;refine%[q,m,[u,v,p.2.1],ss,rfl,rfl,hq,a1 _ _ hm,λt ht=>a1 _ _ (a2 t ht),as lu lv,false,rfl|?_];rw[if_neg (by decide)];exact hU _ (k6 _ _ %[%[_,_,_|rfl]|ag])
    .rintro C H3 ⟨⟨z,d,y,rfl⟩,Y⟩;exact k4 _ _ %[%[_,_,_,_|rfl]|Y]
   .rintro C H2 ⟨⟨O,z,d,y,rfl⟩,s2⟩;exact k3 _ _ %[%[_,_,_,_,_,_,_|rfl]|s1.trans s2]
  .rintro C G ⟨⟨o3,o4,o5,O,z,d,y,rfl⟩,sm⟩;refine k1 _ _ ?_;lk;exact kk G sm
theorem fT.ne{H:Hp}{cs:ZH}{qs:ZN}(h:fT H cs qs){a:ZB}(pl:a.Perm (cs.flatMap lyr)):a≠[]:=by
 obtain⟨p,b⟩:=List.exists_mem_of_length_pos h.p1;obtain⟨r,d,c,e,n⟩:=(h.ca p b).2.2.some';exact List.ne_nil_of_mem ((fB pl).mpr %[p,b,c,%[n,r,d|e]|rfl])
theorem Eh{f:Addr}{fd:FuncData}(F:Fun K "law" "law" kb f fd)(T:Txt K mg):jq P w K mg base CX0 12 f fd ["_law_script"] (qW K):=by
 refine F.ok eC (by fin2) (λdA A outer s H vs Q E c h=>?_)
 .obtain⟨a,ns,rfl,hs,ho,hn,kk⟩:=h;refine%[_,(QSs.h (ah (yR rfl rfl rfl (aD (kl T) c rfl #[↑0]) (fD (K:=K) rfl rfl rfl (gsE rfl (aM 1 eC.nd rfl) (gsE rfl (aM 2 eC.nd rfl) (gsE rfl (aM 3 eC.nd rfl) cO)))))
   (ah (aI 4 eC.nd rfl (EX (zT T) T.bq c rfl #[↥↑1,↥↑2]))
   (ah (ifS (bF qf rfl (aD (Ec T) c rfl #[↑4]) tZ)
   (aq (aN eBl))
   bh)
   (ah (aI 5 eC.nd rfl (aD (mf T) c rfl #[↑4]))
   (ah (ifS (je (~~~(aD (oB T) c rfl #[↑4,↑1,↑5])))
   (aq (aN eBl))
   bh)
   (ah (cP PassesOwn.never rfl rfl (cF (K:=K) rfl (aD (tq T) c rfl #[↑0,↑3,ar])) (fD (K:=K) rfl rfl rfl (gsE rfl (aM 6 eC.nd rfl) (gsE rfl (aM 7 eC.nd rfl) cO)))
   (ah (aI 8 eC.nd rfl (aD (cK T) c rfl #[↑4,↑6]))
    (ah (aI 9 eC.nd rfl (aD (cK T) c rfl #[↑4,↑7]))
    (ah (aI 10 eC.nd rfl (aD (ti T) c rfl #[↑5,↑8]))
    (ah (aI 11 eC.nd rfl (aD (vL T) c rfl #[↑4,↑6,↑7]))
    (aq (ifS (j7 c rfl ↑9 ↑10)
    (aq (ifS (bF qf rfl ↑11 tZ)
     (aq (aN eBl))
     bh))
    (ah (ifS (je (~~~(aD (iW T) c rfl #[↑11,↑5,↑8,↑9,(e7 c (λ_ _=>rfl) ↑10 ↑9)])))
     (aq (aN eBl))
     bh)
     (ah (bT rfl (bmO (K:=K) plainAttrs_list PySem.F.slot_list_append PySem.F.type_list_append aS rfl ↑11 #[eV ak]))
     (aq (ifS (je (~~~(aD (iW T) c rfl #[aD (vL T) c rfl #[↑4,↑6,↑7],↑5,↑8,↑9,(e7 c (λ_ _=>rfl) ↑10 ↑9)])))
     (aq (aN eBl))
     bh)))))))))))
   (aq (aN (nT (iF (B3 c) rfl (aD (mf T) c rfl #[↑4]) ↑5) (qe (iF (B3 c) rfl (pF (gF T) T.bq c rfl rfl ↑4) ↑2))))))))))))|?_]
  show bv _ _ _ [!a,none,none,none,none,none,none,none,none,none,none,none] H;refine am λD1 k1 _=>?_
  lk;refine%[a,ns,rfl,hs,ho,hn|λt l1 l2 l3 H1 cs qs nm s1 I h1 h2 P1 h3 as=>?_];lk;refine%[_,SqT.of I,rfl,_,_,rfl,_,_,rfl,_,_,rfl,rfl|k1 _ _ (am λD3 k3 _=>?_)];lk;refine%[_,.inl (SqL.of h1)|λa1 bm=>%[_,.inl (SqL.of (af.upd bm _ _ h2))|λb1 a0=>?_]];have t1:=af.upd (o:= .lst (ci cs)) bm;have a2:upd H1 a1 (.lst (ci cs)) a1=some (.lst (ci cs)):=aa
  generalize upd H1 a1 (.lst (ci cs))=H2 at t1 a2 a0 ⊢
  have t2:=af.upd (o:= .lst (qs.map λq=>V.ref q.1)) a0;have a3:upd H2 b1 (.lst (qs.map λq=>V.ref q.1)) b1=some (.lst (qs.map λq=>V.ref q.1)):=aa;have a4:=t2 _ _ a2
  generalize upd H2 b1 (.lst (qs.map λq=>V.ref q.1))=H3 at t2 a3 a4 ⊢
  have a5:=t1.trans t2;refine λg dx fg b9 dB=>BL fg b9 a4 a3 (P1.up a5) λH4 M ts t4 b pl tm=>k3 _ _ (am λD4 k4 r4=>?_)
  have J:=a5.trans t4;have h1:=J _ _ h1;have h2:=J _ _ h2;have h3:=J _ _ h3;have P4:=P1.up J;have ca:=P1.ne pl;have hs:=nN hs (s1.trans J);clear a4 a3 a0 t1 t2 a5 a2 P1 J t4 I s1 ho
  generalize H4=H4 at*
  lk;refine%[g,qs,M,ts,rfl,b|λH5 dK t5 br=>%[λcb=>?_|λr x rx=>by dsimp only;rw[if_pos ∅];exact r4 _ _ (kk H5)]];dsimp only;rw[if_neg ∅];have b:=b.up t5;have ll:=b.ll;obtain⟨c2,c3,c4,gf⟩:=b.gr;refine k4 _ _ (am λD5 k5 _=>?_);lk;refine%[g,c2,c3,c4,qs,M,ts,rfl,gf,b.nd,b.so,⋯,b.tl,b.t3|λso H6 ss s6 dT N tu lk sl=>k5 _ _ (am λD6 k6 r6=>?_)];obtain rfl:=br.one lk;have la:=nL tu (b.ties lk);have t6:=t5.trans s6;have b:=b.up s6;have ask:tf mg H6 g qs M ts (ss.map (·.2)):=%[b,lk|cb]
  lk;refine%[g,l1,so,cs,qs,M,ts,ss,rfl,b,t6 _ _ h1,(P4.up t6).ca,pl,λk hk=>(tm k).mpr (.inl hk),N,λt I=>(tu t I).2,lk|λH7 s7=>?_];lk;refine k6 _ _ (am λD7 k7 r7=>aw λds hK=>?_);have n1:1<=nm.length:=by
   rw[(as.trans pl.symm).length_eq];exact length_pos_iff.mpr ca
  have cd:nm.length<=80:=by rw[as.length_eq];exact P4.ly
  have inl:∀x∈nm,x∈M:=λx hx=>(as.trans pl.symm).mem_iff.mp hx
  lk;refine%[a,l3,16,ns,nm,rfl,nN hs (t6.trans s7),s7 _ _ (t6 _ _ h3),n1,cd,⋯|λr H8 ps s8 bt ch=> .inl %[r,rfl,%[_|SqL.of bt]|hK _ _ ?_]];have b0:=s7.trans s8;refine bj (xs:=ps.map λp=>V.ref p.1) (λi σ Y=>(∃o6 o7 o8 o9 ab ac,σ=[!a,!l1,!l2,!l3,!g,!so,o6,o7,o8,o9,ab,ac])/\af H8 Y) %[%[_,_,_,_,_,_|rfl]|λ_ _ e=>e] (λi σ Y _ h=>SqL.of (h.2 _ _ bt)) ?_ ?_
  .rintro i v σ Y hv ⟨⟨o6,o7,o8,o9,ab,ac,rfl⟩,sm⟩;rw[Zl]at hv;obtain⟨p,hp,rfl⟩:=map_eq_some_iff.mp hv;obtain⟨cl,a6,a7⟩:=ch p (Z8 hp);refine%[_,SqT.of (sm _ _ cl),rfl,_,_,rfl,_,_,rfl,rfl|?_];show bv _ _ _ [!a,!l1,!l2,!l3,!g,!so,some (.str p.2.1),some (.str p.2.2),o8,o9,ab,ac] Y;have L:=b0.trans sm;obtain⟨c2,c3,c4,gf⟩:=b.gr;refine am λD8 k8 _=>?_
   lk;refine%[g,c2,c3,c4,qs,M,ts,p.2.1,rfl,gf.up L,b.nd,b.so,⋯,inl _ a6|λH9 u s9 lu=>k8 _ _ (am λD9 k9 _=>?_)];lk;refine%[g,c2,c3,c4,qs,M,ts,p.2.2,rfl,gf.up (L.trans s9),b.nd,b.so,⋯,inl _ a7|λdV v a8 lv=>k9 _ _ (am λdX co _=>?_)];have O:=L.trans (s9.trans a8);lk;refine%[so,u,M,ss,rfl,O _ _ N,la.up O,sl|λd ct R fR a9 hd Rn Rl Rm Rd=>co _ _ (am λdY b2 _=>?_)];have C:=O.trans a9;lk;refine%[g,qs,M,ts,_,p.2.1,p.2.2,rfl,ask.up C,inl _ a6,inl _ a7|λa' b' bb bc=>?_];obtain rfl:=lu.one bb;obtain rfl:=lv.one bc;refine%[λb3 B bf=>b2 _ _ (aA λcM bl c0=>?_)|λl b3 ws B fl hl c1 m dy=>b2 _ _ (aA λcM bl c0=>?_)]
   .have gk:=dC.k (k:=Sum.inr v) (B _ _ hd);rw[kj λh=>bf ((Rm _).mp h)]at gk;lk;refine%[_,gk|?_];rw[if_pos ∅,if_neg ∅];exact bl _ _ %[%[_,_,_,_,_,_|rfl]|sm.trans (s9.trans (a8.trans (a9.trans B)))]
   .have vR:=(Rm v).mpr m.rch;have fw:fR v=ws.length:=by
     obtain⟨n,e,dn⟩:=m.dst;obtain⟨f1,f2,f3⟩:=Rd v vR;have:=f3 n dn;have:=m.min (fR v-1) (by rw[Nat.sub_add_cancel f1];exact f2);rw[Z6]at*
     lia
    have gk:∀{Y},af ct Y->dC Y d (.str v) (some (.int (ws.length:Int))):=λ{Y} sx=>by
     have g:=dC.k (k:=Sum.inr v) (sx _ _ hd);rwa[jH vR,fw]at g
    have sub:∀{U:ZG},Sho (ss.map (·.2)) u v (U.map (·.2))->∀t∈U,t.2∈ss.map (·.2):=λsh t I=>sh.sub _ (Xs %[t,I|rfl])
    lk;refine%[_,gk B|?_];rw[if_neg ∅];have al:=C.trans B;refine%[_,gk B,l,so,u,v,ws,ss,rfl,hl,c1,al _ _ N,λt I=>al _ _ (tu t I).2,sub m,m.wal|?_];lk;refine%[.inl %[_|SqL.of hl],#[0]|λq fq=>%[_,af.upd fq _ _ hl,by rw[Z6];exact aC ⋯|?_]];have sX:=af.set (o:= .lst ((ws.map λt=>V.ref t.1) ++[V.ref q])) (B.trans (af.upd (o:= .tup []) fq)) fl
    generalize upd (upd b3 q (.tup [])) l (.lst ((ws.map λt=>V.ref t.1) ++[V.ref q]))=HX at sX ⊢
    refine%[g,qs,M,ts,_,p.2.1,p.2.2,rfl,ask.up (C.trans sX),inl _ a6,inl _ a7|λa' b' bb bc=>?_];obtain rfl:=lu.one bb;obtain rfl:=lv.one bc;refine%[λc5 b4 bf=>(bf m.rch).elim|λl' c5 U b4 d0 c7 b5 G w'=>?_];have wl:U.length=ws.length:=by
     obtain⟨n,e,dn⟩:=m.dst;obtain⟨n',e',da⟩:=G.dst;have:=m.min _ da;have:=G.min _ dn;rw[Z6]at*
     lia
    have sY:=sX.trans b4;have an:=C.trans sY;refine%[_,gk sY,l',so,u,v,U,ss,by rw[wl],c7,b5,an _ _ N,λt I=>an _ _ (tu t I).2,sub G,G.wal|?_];lk;exact bl _ _ %[%[_,_,_,_,_,_|rfl]|sm.trans (s9.trans (a8.trans (a9.trans sY)))]
  .rintro σ Y ⟨⟨o6,o7,o8,o9,ab,ac,rfl⟩,sm⟩;refine k7 _ _ ?_;lk;have L:=b0.trans sm;obtain⟨c2,c3,c4,gf⟩:=b.gr;refine%[g,c2,c3,c4,qs,M,ts,rfl,gf.up L,b.nd,b.so,⋯,b.tl,b.t3|λdc H9 dd s9 d1 de dk dp d2=>?_];have ag:=L.trans s9;have e2:=lk.one dp;have el:dd.length=ss.length:=by
    have:=congrArg List.length e2;rwa[Z6,Z6,eq_comm]at this
   refine%[dc,so,_,_,rfl,rfl,de,ag _ _ N,by rw[Z6,Z6,el],λj x y hx hy=>?_,true,rfl|?_]
   .rw[Zl]at hx hy;obtain⟨t,I,rfl⟩:=map_eq_some_iff.mp hx;obtain⟨t',b6,rfl⟩:=map_eq_some_iff.mp hy;have e:=congrArg (·[j]?) e2;simp only[Zl,I,b6,map_some,Option.some.injEq]at e;exact .inr %[t.1,t'.1,t.2.map V.str,rfl,rfl,(dk t (Z8 I)).2,by rw[<-e];exact ag _ _ (tu t' (Z8 b6)).2|by simp[kE]]
   rw[if_pos rfl];have b7:=gf.up ag;refine kY b7 (.inr (.inl rfl)) %[g,c2,c3,c4,qs,M,ts,rfl,b7|λl5 dr=>%[l5,l2,_,_,rfl,rfl,aa,af.upd dr _ _ (ag _ _ (t6 _ _ h2)),rfl,λj x y hx hy=> .inl ?_|kk _]];rw[hx]at hy;refine%[Za hy|?_];rw[Zl]at hx;obtain⟨z,_,rfl⟩:=map_eq_some_iff.mp hx;rfl
end
def DI(K:ZA)(x:Str)(st:Stmt):Prop:=∃(f:Addr) (b:Value) (c d:ZI) (e:ZK) (kV g h a ct:Value),nsIn K mainGlobals x=some (some (.ref f))/\K.lookup f=some %[b,c,.func (fnOf x x (ck st) (bH st) (ai st) .none kV g h d a ct)|e]/\codeIn K a x=true/\keepIn K (.ref f)=true
theorem di_mk{K:ZA}{x:Str}{st:Stmt}{f:Addr}{d:Value}{e g:ZI}{h:ZK}{kV i j b ct:Value}(a:nsIn K mainGlobals x=some (some (.ref f)))(l:K.lookup f=some %[d,e,.func (fnOf x x (ck st) (bH st) (ai st) .none kV i j g b ct)|h])(c:codeIn K b x=true)(k:keepIn K (.ref f)=true):DI K x st:=%[f,d,e,g,h,kV,i,j,b,ct,a,l,c|k]
theorem ay{K:ZA}{h:Heap}{mg:ZC}{x:Str}{st:Stmt}{ps:ZB}(X:K.In h)(G:h.Ns mainGlobals mg)(d:DI K x st)(b:∀(kV e i:Value) (j:ZI) (g ct:Value) (us:ZF),us.length=ps.length->bindArgs (fnOf x x (ck st) (bH st) (ai st) .none kV e i j g ct) %[us|[]]=pure (ps.zip us)):aG K mg x st ps:=by
 obtain⟨f,m,n,j,o,kV,p,i,q,ct,a,l,c,k⟩:=d;exact Da X G a l c k b
theorem all_mk{l:PySem.W.OpenLaw}{w:World}{K:ZA}{h:Heap}{mg:ZC}{fa av:Addr}(X:K.In h)(G:h.Ns mainGlobals mg)(hfa:mg "law"=some (.ref fa))
 {ea dk:ZI} {eb:ZK} {ec dl dn dp aw dr:Value}
 (ed:DI K "names_by_layer" dF)
 (ee:DI K "join_deposits" ef)
 (eg:DI K "least_pointed_to" c8)
 (eh:DI K "deposits" jz)
 (ej:DI K "deposit_of" gX)
 (ek:DI K "deposit_names" cX)
 (el:DI K "links" l9)
 (em:DI K "links_by_later" dH)
 (en:DI K "links_by_earlier" c9)
 (eo:DI K "grouped" kK)
 (ep:DI K "laid_in_turn" dj)
 (eq:DI K "shortest_way" e9)
 (er:DI K "next_edge" iO)
 (es:DI K "way_to" nq)
 (et:DI K "ring" uI)
 (eu:DI K "shortest_ring" ei)
 (ev:DI K "never_laid" gY)
 (ew:DI K "untorn_links" fh)
 (ex:DI K "chain" qJ)
 (ey:DI K "is_name" i7)
 (ez:DI K "rows_of" kL)
 (e0:DI K "is_row" j9)
 (e1:DI K "lies_beneath" dm)
 (e2:DI K "letters_in" eK)
 (e3:DI K "letters" kM)
 (e4:DI K "meetings" jB)
 (e5:DI K "meetings_between" cu)
 (e6:DI K "check_cuts" hC)
 (e7:DI K "is_named_cut" fi)
 (e8:DI K "is_cut" nt)
 (fb:DI K "check_sayings" eA)
 (fc:DI K "is_saying" iP)
 (fe:DI K "is_text_among" eB)
 (ff:DI K "is_year" kO)
 (fg:DI K "layer_name" hJ)
 (fl:DI K "layers_of" fJ)
 (fm:DI K "ties_of_cuts" fj)
 (fo:DI K "ties_of_sayings" dq)
 (fp:DI K "_law_cell_at" fQ)
 (fq:DI K "_law_row" kP)
 (fr:DI K "_law_column" hV)
 (fs:DI K "_law_sign" jC)
 (ft:DI K "_law_cut" dJ)
 (fu:DI K "_law_broad" cI)
 (fv:DI K "_law_saying" hW)
 (fw:DI K "_law_ground" eM)
 (fx:DI K "_law_has_met" fS)
 (fy:DI K "_law_steps" iQ)
 (fz:DI K "_law_pairs" iR)
 (f0:DI K "_law_is_chain" fk)
 (f1:DI K "_law_great" fK)
 (f2:DI K "_law_told_ground" du)
 (ax:nsIn K mainGlobals "law"=some (some (.ref av))) (az:K.lookup av=some %[ec,ea,.func (fnOf "law" "law" (ck kb) (bH kb) (ai kb) .none dl dn dp dk aw dr)|eb]) (a0:codeIn K aw "law"=true) (ba:keepIn K (.ref av)=true)
 {ds dt dv dw dx dy dz d0 d1 d2 d3:Value}
 (bb:nsIn K mainGlobals "min"=some none)
 (bc:nsIn K mainGlobals "max"=some none)
 (bd:nsIn K mainGlobals "list"=some none)
 (be:nsIn K mainGlobals "set"=some none)
 (bf:nsIn K mainGlobals "sorted"=some none)
 (bg:nsIn K mainGlobals "len"=some none)
 (bh:nsIn K mainGlobals "reversed"=some none)
 (bi:nsIn K mainGlobals "all"=some none)
 (bj:nsIn K mainGlobals "str"=some none)
 (bk:nsIn K mainGlobals "isinstance"=some none)
 (bl:nsIn K mainGlobals "enumerate"=some none)
 (bm:nsIn K mainGlobals "zip"=some none)
 (bn:nsIn K mainGlobals "tuple"=some none)
 (bo:nsIn K mainGlobals "int"=some none)
 (bp:nsIn K mainGlobals "bool"=some none)
 (bq:nsIn K mainGlobals "range"=some none)
 (br:nsIn K mainGlobals "abs"=some none)
 (bs:nsIn K mainGlobals "LATER"=some (some ds)) (bt:aL (.int 0) ds)
 (bu:nsIn K mainGlobals "EARLIER"=some (some dt)) (bv:aL (.int 1) dt)
 (bw:nsIn K mainGlobals "LONGEST_NAME"=some (some dv)) (bx:aL (.int 8) dv)
 (bz:nsIn K mainGlobals "LETTERS"=some (some dw)) (b0:aL (.str "abcdefghijklmnopqrstuvwxyz") dw)
 (b1:nsIn K mainGlobals "MOST_ROWS"=some (some dx)) (b2:aL (.int 40) dx)
 (b3:nsIn K mainGlobals "MOST_SIGNS"=some (some dy)) (b4:aL (.int 40) dy)
 (b5:nsIn K mainGlobals "AIR"=some (some dz)) (b6:aL (.str ".") dz)
 (b7:nsIn K mainGlobals "MOST_CUTS"=some (some d0)) (b8:aL (.int 8) d0)
 (b9:nsIn K mainGlobals "MOST_SAYINGS"=some (some d1)) (ca:aL (.int 60) d1)
 (cb:nsIn K mainGlobals "FIRST_YEAR"=some (some d2)) (cc:aL (.int (-9999)) d2)
 (cd:nsIn K mainGlobals "LAST_YEAR"=some (some d3)) (ce:aL (.int 9999) d3)
 {aa:Addr}
 (aj:nsIn K mainGlobals "Ground"=some (some (.ref aa)))
 (cf:plainGet K aa Str.empty=true)
 (ch:hasDictIn K aa=true)
 (ci:plainOver K aa=true)
 (cj:findIn K (.ref aa) "__setattr__"=some (some (.builtin "object.__setattr__")))
 (cl:findIn K (.ref aa) "kept_cuts"=some none)
 (cm:findIn K (.ref aa) "kept_sayings"=some none)
 (cn:findIn K (.ref aa) "kept_layers"=some none)
 (co:findIn K (.ref aa) "kept_ties"=some none)
 {ab:Addr} {f3 f4:ZI} {f5:ZK} {f6 f7 f8 f9 d4 ga:Value}
 (cp:findIn K (.ref aa) "__init__"=some (some (.ref ab)))
 (ak:K.lookup ab=some %[f6,f3,.func (fnOf "__init__" "Ground.__init__" (ck bX) (bH bX) (ai bX) .none f7 f8 f9 f4 d4 ga)|f5])
 (al:codeIn K d4 "Ground.__init__"=true)
 (am:keepIn K (.ref ab)=true)
 (cq:isFn K (.ref ab)=true)
 (cr:makesIn K aa=true)
 (cs:keepIn K (.ref aa)=true)
 {ac:Addr} {gb gc:ZI} {gd:ZK} {ge gf gg gh d5 gi:Value}
 (ct:findIn K (.ref aa) "sayings"=some (some (.ref ac)))
 (an:K.lookup ac=some %[ge,gb,.func (fnOf "sayings" "Ground.sayings" (ck cg) (bH cg) (ai cg) .none gf gg gh gc d5 gi)|gd])
 (ao:codeIn K d5 "Ground.sayings"=true)
 (ad:keepIn K (.ref ac)=true)
 (cv:isFn K (.ref ac)=true)
 {ae:Addr} {gj gk:ZI} {gl:ZK} {gm gn go gp d6 gq:Value}
 (cw:findIn K (.ref aa) "layers"=some (some (.ref ae)))
 (ap:K.lookup ae=some %[gm,gj,.func (fnOf "layers" "Ground.layers" (ck cz) (bH cz) (ai cz) .none gn go gp gk d6 gq)|gl])
 (aq:codeIn K d6 "Ground.layers"=true)
 (af:keepIn K (.ref ae)=true)
 (cx:isFn K (.ref ae)=true)
 {ag:Addr} {gr gs:ZI} {gt:ZK} {gu gv gw gx d7 gy:Value}
 (cy:findIn K (.ref aa) "ties"=some (some (.ref ag)))
 (ar:K.lookup ag=some %[gu,gr,.func (fnOf "ties" "Ground.ties" (ck cU) (bH cU) (ai cU) .none gv gw gx gs d7 gy)|gt])
 (au:codeIn K d7 "Ground.ties"=true)
 (ah:keepIn K (.ref ag)=true)
 (c0:isFn K (.ref ag)=true)
 {d8:Addr} {c1:Obj} {c2:ZJ} {gz:Nat}
 (c3:nsIn K mainGlobals "YEAR_WORDS"=some (some (.ref d8)))
 (c4:K.lookup d8=some c1)
 (c5:c1.cls= .type "tuple")
 (c6:c1.data= .seq c2 gz)
 (c7:c2.size<=sizeLine)
 (da:aF [.str "since",.str "by"] c2.toList)
 {d9:Addr} {db:Obj} {dc:ZJ} {g0:Nat}
 (dd:nsIn K mainGlobals "LAYER_WORDS"=some (some (.ref d9)))
 (de:K.lookup d9=some db)
 (df:db.cls= .type "tuple")
 (dg:db.data= .seq dc g0)
 (dh:dc.size<=sizeLine)
 (di:aF [.str "later",.str "same"] dc.toList)
 :∃fd:FuncData,(∀(s:Shared) (v:Value),BindsTo s fd %[[v]|[]] [("_law_script",v)])/\∀base:Heap,K.In base->base.Ns mainGlobals mg->jq l.prog w K mg base CX0 12 fa fd ["_law_script"] (qW K):=by
 have e:=hfa.symm.trans (mg_of X G ax);cases e;have g1:=A9 (mg_of X G aj);subst g1;have T:Txt K mg:=%[mg_none_of X G bb,
  mg_none_of X G bc,
  mg_none_of X G bd,
  mg_none_of X G be,
  mg_none_of X G bf,
  mg_none_of X G bg,
  mg_none_of X G bh,
  mg_none_of X G bi,
  mg_none_of X G bj,
  mg_none_of X G bk,
  mg_none_of X G bl,
  mg_none_of X G bm,
  mg_none_of X G bn,
  mg_none_of X G bo,
  mg_none_of X G bp,
  mg_none_of X G bq,
  mg_none_of X G br,
  iD X G bs bt,
  iD X G bu bv,
  iD X G bw bx,
  iD X G bz b0,
  iD X G b1 b2,
  iD X G b3 b4,
  iD X G b5 b6,
  iD X G b7 b8,
  iD X G b9 ca,
  iD X G cb cc,
  iD X G cd ce,
  ay X G ed (by room),
  ay X G ee (by room),
  ay X G eg (by room),
  ay X G eh (by room),
  ay X G ej (by room),
  ay X G ek (by room),
  ay X G el (by room),
  ay X G em (by room),
  ay X G en (by room),
  ay X G eo (by room),
  ay X G ep (by room),
  ay X G eq (by room),
  ay X G er (by room),
  ay X G es (by room),
  ay X G et (by room),
  ay X G eu (by room),
  ay X G ev (by room),
  ay X G ew (by room),
  ay X G ex (by room),
  ay X G ey (by room),
  ay X G ez (by room),
  ay X G e0 (by room),
  ay X G e1 (by room),
  ay X G e2 (by room),
  ay X G e3 (by room),
  ay X G e4 (by room),
  ay X G e5 (by room),
  ay X G e6 (by room),
  ay X G e7 (by room),
  ay X G e8 (by room),
  ay X G fb (by room),
  ay X G fc (by room),
  ay X G fe (by room),
  ay X G ff (by room),
  ay X G fg (by room),
  ay X G fl (by room),
  ay X G fm (by room),
  ay X G fo (by room),
  ay X G fp (by room),
  ay X G fq (by room),
  ay X G fr (by room),
  ay X G fs (by room),
  ay X G ft (by room),
  ay X G fu (by room),
  ay X G fv (by room),
  ay X G fw (by room),
  ay X G fx (by room),
  ay X G fy (by room),
  ay X G fz (by room),
  ay X G f0 (by room),
  ay X G f1 (by room),
  ay X G f2 (by room),
  %[mg_of X G aj,cf,ch,ci|cj],
  cl,
  cm,
  cn,
  co,
  %[ab,_,%[cr,cp,cq|cs],eU ak al am|(eU ak al am).binds (by room)],
  %[ac,_,%[ct,cv|ad],eU an ao ad|(eU an ao ad).binds (by room)],
  %[ae,_,%[cw,cx|af],eU ap aq af|(eU ap aq af).binds (by room)],
  %[ag,_,%[cy,c0|ah],eU ar au ah|(eU ar au ah).binds (by room)],
  zo X G c3 c4 c5 c6 c7 da|
  zo X G dd de df dg dh di]
 exact%[fnOf "law" "law" (ck kb) (bH kb) (ai kb) .none dl dn dp dk aw dr,λs v=> .of_eq rfl|λbase _ _=>Eh (eU (st:=kb) az a0 ba) T]
theorem walk{l:PySem.W.OpenLaw}{q:Program}{b:ZB}{j:(Str->Option Value)->Heap->Prop}{e:World->Heap->Prop}{d:DefRec}{K:Params->ZA}(m:l.most=some 63)(c:d.params.defaults=[])
 (o:∀(w:World) (h:Heap),e w h->(K w.params).In h)
 (F:∀(w:World) (mg:ZC) (g:Addr) (h:Heap),(K w.params).In h->h.Ns mainGlobals mg->mg d.name=some (.ref g)->
  ∃i:FuncData,(∀(s:Shared) (u:Value),BindsTo s i %[[u]|[]] [("_law_script",u)])/\∀base:Heap,(K w.params).In base->base.Ns mainGlobals mg->jq l.prog w (K w.params) mg base CX0 12 g i ["_law_script"] (qW (K w.params))):
 PySem.W.WalkO q b j e l.row.toRowW d [] (λf vs=>PySem.call f vs):=
 L2.walk_of (n:=63) (k:=12) (x:="_law_script") (CX:=λ_=>CX0) (sp:=λw=>qW (K w.params)) m (by decide) c %[rfl,by decide,by decide|rfl] o F (λ_ _ a p r t v=>%[a,p,rfl,v,t,r|λ_=>rfl]) λ_ _ _ _ _ z=>z
end K41
end
open PySem PySem.W PyProof.Rows
set_option maxRecDepth 100000 in
theorem PySem.Challenge.cw_digbook_k41_chains_told_holds : PySem.Challenge.rw_digbook_k41_chains_told.Holds := by
 w_on;o_law;k_head;(case hw=>w_witness2)
 k_fill
 refine K41.walk (l:=PySem.Challenge.rw_digbook_k41_chains_told) rfl rfl (λw h Y=>PySem.W.kIn_of Y) ?F
 case F=>
  intro w mg fa h KX G hmg;refine' K41.all_mk KX G hmg ?_ ?_ ?_ ?_ ?_ ?_ ?_ ?_ ?_ ?_ ?_ ?_ ?_ ?_ ?_ ?_ ?_ ?_ ?_ ?_ ?_ ?_ ?_ ?_ ?_ ?_ ?_ ?_ ?_ ?_ ?_ ?_ ?_ ?_ ?_ ?_ ?_ ?_ ?_ ?_ ?_ ?_ ?_ ?_ ?_ ?_ ?_ ?_ ?_ ?_ ?_ ?_ ?ax ?az ?a0 ?ba ?bb ?bc ?bd ?be ?bf ?bg ?bh ?bi ?bj ?bk ?bl ?bm ?bn ?bo ?bp ?bq ?br ?bs ?bt ?bu ?bv ?bw ?bx ?bz ?b0 ?b1 ?b2 ?b3 ?b4 ?b5 ?b6 ?b7 ?b8 ?b9 ?ca ?cb ?cc ?cd ?ce ?aj ?cf ?ch ?ci ?cj ?cl ?cm ?cn ?co ?cp ?ak ?al ?am ?cq ?cr ?cs ?ct ?an ?ao ?ad ?cv ?cw ?ap ?aq ?af ?cx ?cy ?ar ?au ?ah ?c0 ?c3 ?c4 ?c5 ?c6 ?c7 ?da ?dd ?de ?df ?dg ?dh ?di
  any_goals (refine' K41.di_mk ?a ?l ?c ?k;(case a=>k_is);(case l=>k_is);(case c=>k_is);(case k=>k_is))
  (case ax|az|a0|ba|bb|bc|bd|be|bf|bg|bh|bi|bj|bk|bl|bm|bn|bo|bp|bq|br|bs=>k_is)
  (case bt=>exact⟨_,rfl⟩)
  (case bu=>k_is)
  (case bv=>exact⟨_,rfl⟩)
  (case bw=>k_is)
  (case bx=>exact⟨_,rfl⟩)
  (case bz=>k_is)
  (case b0=>exact⟨_,rfl⟩)
  (case b1=>k_is)
  (case b2=>exact⟨_,rfl⟩)
  (case b3=>k_is)
  (case b4=>exact⟨_,rfl⟩)
  (case b5=>k_is)
  (case b6=>exact⟨_,rfl⟩)
  (case b7=>k_is)
  (case b8=>exact⟨_,rfl⟩)
  (case b9=>k_is)
  (case ca=>exact⟨_,rfl⟩)
  (case cb=>k_is)
  (case cc=>exact⟨_,rfl⟩)
  (case cd=>k_is)
  (case ce=>exact⟨_,rfl⟩)
  (case aj|cf|ch|ci|cj|cl|cm|cn|co|cp|ak|al|am|cq|cr|cs|ct|an|ao|ad|cv|cw|ap|aq|af|cx|cy|ar|au|ah|c0|c3|c4=>k_is)
  (case c5|c6=>rfl)
  (case c7=>decide)
  (case da=>exact .cons ⟨_,rfl⟩ (.cons ⟨_,rfl⟩ (.nil)))
  (case dd|de=>k_is)
  (case df|dg=>rfl)
  (case dh=>decide)
  (case di=>exact .cons ⟨_,rfl⟩ (.cons ⟨_,rfl⟩ (.nil)))
