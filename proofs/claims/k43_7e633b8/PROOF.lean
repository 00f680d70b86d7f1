import PyProof.Rows.All
import Wide.All
import OpenK.AllK
import Wide.FinOn
import Lean
import PyProof.EqAt
import PyProof.EqKinds
import PyProof.TupleCall
import PyProof.ExcInit
import PyProof.ExcClass2
import PyProof.InstStoreFacts
import OpenK.KOwn
import PyProof.RulesAs
import PyProof.ExcAttrAll.ValueError
import KE.KIsAll
import KE.KRevSl
import KE.KRevIter
import PyProof.Rows.SortRuns
import PySem.SetTable
import PySem.SetOps
import PyProof.TupleKey
import PyProof.SetKind
import PyProof.Rows.SetObj
import KE.KDictSum
import PyProof.WalkInts
import KE.KDictOf
import PyProof.AttrMissHeap
import PyProof.DictWalks
import KE.KDictLaws
import KE.KDictList
import PySem.Challenge.RW_digbook_k43_two_orders
structure PySem.W.Fast:Prop where(tw17724091103450048392 tw7806472312520082744 tw4903366170203157801 tw10189177006149424627 tw16204477597945609052 tw5856213090053777181 tw1398030529730847485 tw17336247577512619969 tw763774810635493459 tw144878830234673668 tw15958492218670291806 tw1046004443283715779 tw13987103501353674448 tw3598259378134950975 tw1109964341014689388 tw15406931059619616835 tw10365599952144999949 tw13235407090854250007 tw7340433901453747460 tw9707938497062177184 tw1498932764677429116 tw3542988026877654858 tw5114856663687718433 tw13793517223256131559 tw6510229736534451969 tw15260096999248728151 tw491094606698493454 tw670520748332099660 tw13205547614857524392 tw13651583094185111972 tw14150649985348239910 tw5950771122772089965 tw10619770977061255681 tw10440517924794201912 tw11442115683787141395 tw9073578892683636584 tw16816583857462944284 tw1739701387028420150 tw3973714551630674862 tw13957826931330232982 tw4019519898540075109 tw9921185351045934988 tw16273351972953068693 tw17508349200175388239 tw15071752446311695485 tw10054176588886441780 tw583352367149478648 tw9583270348603919776 tw15559489284972560246 tw415203571093941453 tw8827017111989029134 tw6028674901661352265 tw9022576196811023160 tw5011983059055591163 tw14181060870883256248 tw9736016157806873046 tw2419250394144483718 tw13675337236201191148 tw15794468070119521574 tw140541397011484217 tw10518439138924800327 tw17321487914226492427 tw6236719729484191010 tw16872540699000866325 tw13822496505086669869 tw16897140384166178553 tw15433977103259953784 tw16419723164143200914 tw5781696950265043149 tw6744004427116010143 tw8762895799023808592 tw13081528635248965073 tw10178152471645389354 tw15392509499275873065 tw6325368653135171165 tw14894482060063836511 tw10825675129990493628 tw13071145059962246584 tw8809755310118679667 tw689013348024012706 tw248157142435557709 tw7926132226396699998 tw4938270975657650792 tw7982164967508835288 tw16711198080488835793 tw12886219514816070491 tw15729997292684300516 tw7479066134327611361 tw13797838733291610812 tw4418788017152283010 tw15139302043222074438 tw5254805941530776071 tw3197362535274813545 tw15190172536508397499 tw2677031990280675643 tw8270425234883770642 tw1294543762208474557 tw12302636994465957804 tw6321123623282809114 tw6720180977393652595 tw17921201903793551423 tw9831256717109326681 tw9840204451895937408 tw11352224299952341026 tw138115455196824907 tw17184570625702534646 tw15905012494625309280 tw690531118419439284 tw6777011245349727902 tw12715424762863701696 tw11334559158627400032 tw9140718849438505671 tw4327524428689448421 tw14414674101669883595 tw13311236184049826358 tw18079145625514586464 tw11399128620185630660 tw17795768831668117181 tw5921467493665010960 tw16633123467629703295 tw9757413796867961004 tw18438943235560620094 tw3778102777863238500 tw8501281532708672138 tw15551352897113366276 tw18196092862810132412 tw5282927319984056271 tw13906422041880111563 tw10150356620551185549 tw20516350729962770 tw17124903334874477462 tw15087809631596320341 tw1794768742578086848 tw7152012656811142468 tw11518220059508121864 tw8563363907679216301 tw8622127119449872516 tw3933029166513022543 tw15313262838473904721 tw12897285250422338913 tw17908445430447785480 tw15857170822944542161 tw7204768655255242394 tw12745628938031271550 tw1169973024645229433 tw13002653265222434682 tw9098683139378241741 tw13526882636664744420 tw15782419527141286001 tw16900480093891587147 tw16484211931595693870 tw13682052170511571014 tw6886159685132097485 tw8802344293695601102 tw12760140815565371895 tw4006697371926493919 tw1550651059311793091 tw10283498464872962176 tw14616429795176763312 tw11648897598609022949 tw17304620794216689055 tw3221445579750829182 tw17063180579476519131 tw9430790464837320076 tw10338937109001670571 tw1438710390249687943 tw1278424000481402599 tw12760109234595595136 tw15230311323479360388 tw17523274643961430813 tw2184841334070172673 tw9511992507925167094 tw18446568765329899091 tw15759651684048495468 tw1444598613477485836 tw14239440936765014539 tw12380174612750909288 tw9213424238109457859 tw17829200915985430571 tw3817981466650579586 tw5493900404479515165 tw3704172909020119944 tw13894089195261069492 tw4898547068857336124 tw12266661875177026937 tw15043141135343692499 tw12004808061727068374 tw13906245140139267515 tw1055109298068949244 tw1366603854754256159 tw4755007679912201216 tw3097231556587453234 tw14005654628252303549 tw1811794196925362997 tw7527384885355306406 tw9671936512626326420 tw16514331174030571453 tw11912590712254949435 tw11740811449382593846 tw15401945951250578853 tw9341473854703440062 tw14326115419254035881 tw307238122249112840 tw5625204178708676178 tw9575043975116390499 tw83589965156518706 tw4193513118137396732 tw2618212773094096410 tw14488651966321937578 tw13609640209152138031 tw11034791444493842357 tw14082907957990326550 tw10208084797923547047 tw7098310393525258323 tw3827318202012838042 tw2208184093656023156 tw18075175800665343258 tw15688359057039933578 tw8149796296112479443 tw12080221310790190834 tw1889457823613350479 tw10079161976441177541 tw967699792720140042 tw6786957366221398968 tw13583470367295221191 tw12677457689885981392 tw2864362631277555630 tw8014748625451894444 tw11158485539156040116 tw7287369985074945569 tw1682585620134357411 tw14157581356996350387 tw985714781865861972 tw9468923775065240789 tw9086366401499682500 tw8534090415285595187 tw6448189216374228301 tw6229232880312376474 tw6064381502202177290 tw4578402329422434014 tw3629968923874851480 tw3579330572183247363 tw3492844707501369444 tw3482205846271362324 tw3296971719568522475 tw3272170769095601968 tw2799942633937940844 tw18135841643924002999 tw17960585946862197023 tw17704561109527720299:0=0)
theorem Z0{α:Sort _}{b:Prop}{a:α}:a=a∨b:=Or.inl rfl
theorem Z1{α:Sort _}{b:Prop}{a:α}:b∨a=a:=Or.inr rfl
theorem Z2:type_of% @PySem.wpAny_bind:=@PySem.wpAny_bind
theorem Z3:type_of% @PySem.wpAny_pure:=@PySem.wpAny_pure
theorem Z4:type_of% @List.getElem?_eq_getElem:=@List.getElem?_eq_getElem
theorem Z5:type_of% @List.length_map:=@List.length_map
theorem Z6:type_of% @PySem.Heap.get?_push_of_some:=@PySem.Heap.get?_push_of_some
theorem Z7:type_of% @List.mem_of_getElem?:=@List.mem_of_getElem?
theorem Z8:type_of% @List.length_append:=@List.length_append
theorem Z9:type_of% @Option.some.inj:=@Option.some.inj
theorem Za:type_of% @Array.length_toList:=@Array.length_toList
theorem Zb:type_of% @List.getD_eq_getElem?_getD:=@List.getD_eq_getElem?_getD
theorem Zc:type_of% @List.map_append:=@List.map_append
theorem Zd:type_of% @List.append_assoc:=@List.append_assoc
theorem Ze:type_of% @decide_eq_true:=@decide_eq_true
theorem Zf:type_of% @Nat.lt_of_lt_of_le:=@Nat.lt_of_lt_of_le
theorem Zg:type_of% @decide_eq_false:=@decide_eq_false
theorem Zh:type_of% @Nat.le_refl:=@Nat.le_refl
theorem Zi:type_of% @PySem.Heap.get?_push_size:=@PySem.Heap.get?_push_size
theorem Zj:type_of% @List.mem_cons_of_mem:=@List.mem_cons_of_mem
theorem Zk:type_of% @List.getElem?_map:=@List.getElem?_map
theorem Zl:type_of% @List.mem_cons_self:=@List.mem_cons_self
theorem Zm:type_of% @List.take_of_length_le:=@List.take_of_length_le
theorem Zn:type_of% @of_decide_eq_true:=@of_decide_eq_true
theorem Zo:type_of% @List.size_toArray:=@List.size_toArray
theorem Zp:type_of% @PySem.Heap.size_push:=@PySem.Heap.size_push
theorem Zq:type_of% @List.length_cons:=@List.length_cons
theorem Zr:type_of% @Nat.ne_of_lt:=@Nat.ne_of_lt
theorem Zs:type_of% @Bool.false_ne_true:=@Bool.false_ne_true
theorem Zt:type_of% @PySem.Heap.lt_size:=@PySem.Heap.lt_size
theorem Zu:type_of% @Bool.and_eq_true:=@Bool.and_eq_true
theorem Zv:type_of% @List.any_cons:=@List.any_cons
theorem Zw:type_of% @List.append_nil:=@List.append_nil
theorem Zx:type_of% @Bool.false_eq_true:=@Bool.false_eq_true
theorem Zy:type_of% @List.filterMap_cons:=@List.filterMap_cons
theorem Zz:type_of% @List.filter_append:=@List.filter_append
theorem Y0:type_of% @List.filter_cons_of_neg:=@List.filter_cons_of_neg
theorem Y1:type_of% @List.filter_cons_of_pos:=@List.filter_cons_of_pos
theorem Y2:type_of% @List.filter_nil:=@List.filter_nil
theorem Y3:type_of% @List.getElem?_append_left:=@List.getElem?_append_left
theorem Y4:type_of% @List.getElem?_append_right:=@List.getElem?_append_right
theorem Y5:type_of% @List.getElem?_take_of_lt:=@List.getElem?_take_of_lt
theorem Y6:type_of% @List.getElem_mem:=@List.getElem_mem
theorem Y7:type_of% @Nat.le_succ:=@Nat.le_succ
theorem Y8:type_of% @Nat.le_trans:=@Nat.le_trans
theorem Y9:type_of% @List.length_drop:=@List.length_drop
theorem Ya:type_of% @List.length_filter_le:=@List.length_filter_le
theorem Yb:type_of% @List.length_range:=@List.length_range
theorem Yc:type_of% @List.length_singleton:=@List.length_singleton
theorem Yd:type_of% @List.length_take:=@List.length_take
theorem Ye:type_of% @List.lookup_cons:=@List.lookup_cons
theorem Yf:type_of% @Nat.lt_succ_of_lt:=@Nat.lt_succ_of_lt
theorem Yg:type_of% @Nat.lt_succ_self:=@Nat.lt_succ_self
theorem Yh:type_of% @List.map_congr_left:=@List.map_congr_left
theorem Yi:type_of% @List.map_cons:=@List.map_cons
theorem Yj:type_of% @List.map_map:=@List.map_map
theorem Yk:type_of% @List.mem_append:=@List.mem_append
theorem Yl:type_of% @List.mem_append_left:=@List.mem_append_left
theorem Ym:type_of% @List.mem_append_right:=@List.mem_append_right
theorem Yn:type_of% @List.mem_cons:=@List.mem_cons
theorem Yo:type_of% @List.mem_of_mem_take:=@List.mem_of_mem_take
theorem Yp:type_of% @Nat.ne_of_gt:=@Nat.ne_of_gt
theorem Yq:type_of% @List.nodup_append:=@List.nodup_append
theorem Yr:type_of% @List.nodup_iff_pairwise_ne:=@List.nodup_iff_pairwise_ne
theorem Ys:type_of% @List.nodup_nil:=@List.nodup_nil
theorem Yt:type_of% @Nat.not_lt_zero:=@Nat.not_lt_zero
theorem Yu:type_of% @List.not_mem_nil:=@List.not_mem_nil
theorem Yv:type_of% @Bool.or_eq_false_iff:=@Bool.or_eq_false_iff
theorem Yw:type_of% @List.pairwise_map:=@List.pairwise_map
theorem Yx:type_of% @List.take_add_one:=@List.take_add_one
theorem Yy:type_of% @List.take_append_drop:=@List.take_append_drop
theorem Yz:type_of% @Array.toArray_toList:=@Array.toArray_toList
theorem X0:type_of% @Nat.zero_le:=@Nat.zero_le
theorem X1:type_of% @List.getElem?_of_mem:=@List.getElem?_of_mem
theorem X2:type_of% @List.Pairwise.imp_of_mem:=@List.Pairwise.imp_of_mem
theorem X3:type_of% @Int.eq_ofNat_of_zero_le:=@Int.eq_ofNat_of_zero_le
theorem X4:type_of% @Nat.lt_irrefl:=@Nat.lt_irrefl
theorem X5:type_of% @List.getElem?_eq_none:=@List.getElem?_eq_none
theorem X6{α:Type _}{l:List α}{i:Nat}{a:α}(h:l[i]?=some a):∃h:i<l.length,l[i]=a:=List.getElem?_eq_some_iff.mp h
theorem X7{α:Type _}{a:α}{s t:List α}(h:a∈s++t):a∈s∨a∈t:=List.mem_append.mp h
theorem X8{α:Type _}{a b:α}(h:a∈[b]):a=b:=List.mem_singleton.mp h
theorem X9{α β:Type _}{f:α->β}{l:List α}{b:β}(h:b∈l.map f):∃a,a∈l/\f a=b:=List.mem_map.mp h
theorem Xa{α β:Type _}{f:α->β}{l:List α}{b:β}(h:∃a,a∈l/\f a=b):b∈l.map f:=List.mem_map.mpr h
open Array (forIn_toList getElem?_toList length_toList mem_toList_iff size_append size_map toArray_toList toList_append toList_extract toList_push)
open Bool (and_eq_true false_eq_true or_eq_false_iff or_eq_true)
open List (all_eq_true all_map any_cons any_eq_true any_map append_nil countP_cons ext_getElem filterMap_cons filter_append filter_cons filter_cons_of_neg filter_cons_of_pos filter_nil find?_cons flatten_cons foldl_cons forIn_cons forIn_nil getD_eq_getElem?_getD getElem?_append_left getElem?_append_right getElem?_drop getElem?_map getElem?_take_of_lt getElem_mem length_append length_cons length_drop length_eq_zero_iff length_filter_le length_map length_nil length_range length_singleton length_take length_zip lookup_cons map_append map_congr_left map_cons map_drop map_id map_map map_nil map_take mem_append mem_append_left mem_append_right mem_cons mem_cons_of_mem mem_cons_self mem_filterMap mem_flatMap mem_map mem_of_mem_take mem_range mem_singleton nodup_append nodup_cons nodup_iff_pairwise_ne nodup_nil nodup_range not_mem_nil of_mem_zip pairwise_map range_succ replicate_succ size_toArray take_add_one take_append_drop take_of_length_le toList_toArray)
open Nat (add_mod add_mul add_zero le_add_right le_of_lt le_refl le_succ le_trans le_zero lt_of_lt_of_le lt_succ_of_lt lt_succ_self mod_lt mul_add mul_assoc ne_of_gt ne_of_lt not_lt_zero pow_add pow_succ sub_self succ_pos zero_add zero_le)
open Option (getD_none isSome_map map_eq_some_iff)
open PyProof.Rows (boot_abs boot_all boot_int boot_isinstance boot_list boot_max boot_min boot_set boot_sorted boot_str boot_tuple)
open PySem.F (args_list_ne_2 called_set entry_list_ne plainAttrs_dict plainAttrs_list plainAttrs_str slot_dict_get slot_list_ne slot_str_join type_dict_get type_str_join)
open PySem.Heap (SameBut get?_push_of_some get?_push_size get?_update_other get?_update_self lt_size push)
open PySem.W (KatTups Looks callWith_K cellsFrom_some codeIn emptyDict findIn fnOf handedIn hasDictIn instObj isFn keepIn kia_one kitOne kitx_dict kitx_list lookIn makesIn methodObj mg_none_of mg_of nsIn plainGet plainGet_of plainOver takerIn)
set_option maxHeartbeats 0
set_option Elab.async false
set_option linter.all false
set_option maxRecDepth 100000
namespace L2
open PySem PySem.Spec PyProof.Rows
noncomputable abbrev Key:=Sum Int Str
noncomputable def iw:Key->Value->Bool
 | .inl k,v=>Value.isInt k v
 | .inr x,v=>Value.isStrOf x v
noncomputable def keyH(w:World):Key->Int
 | .inl k=>hashInt k
 | .inr x=>hashStr w x
theorem aY:∀{k:Key} {v:Value},iw k v=true->(∃i t,k=Sum.inl i/\v=Value.int i t)\/(∃x t,k=Sum.inr x/\v=Value.str x t)
 | .inl i,v,h=>by
   obtain⟨t,e⟩:=Value.isInt_shape (k:=i) (v:=v) h;exact .inl ⟨i,t,rfl,e⟩
 | .inr x,v,h=>by
   obtain⟨t,e⟩:=Value.isStrOf_shape (x:=x) (v:=v) h;exact .inr ⟨x,t,rfl,e⟩
theorem sO(i:Int)(t:Tok):iw (.inl i) (.int i t)=true:=by simp[iw,Value.isInt]
theorem cO(x:Str)(t:Tok):iw (.inr x) (.str x t)=true:=by simp[iw,Value.isStrOf]
theorem zP(a b:Int):decide ((Sum.inl a:Key)=Sum.inl b)=(a==b):=by
 by_cases e:a=b
 ·subst e;simp
 ·have h: ¬ (Sum.inl a:Key)=Sum.inl b:=fun q=>e (Sum.inl.inj q)
  rw[Zg h];exact(beq_eq_false_iff_ne.mpr e).symm
theorem zQ(a b:Str):decide ((Sum.inr a:Key)=Sum.inr b)=decide (a=b):=by
 by_cases e:a=b
 ·subst e;simp
 ·have h: ¬ (Sum.inr a:Key)=Sum.inr b:=fun q=>e (Sum.inr.inj q)
  rw[Zg h,Zg e]
theorem zR(a:Int)(b:Str):decide ((Sum.inl a:Key)=Sum.inr b)=false:=Zg (fun q=>nomatch q)
theorem zS(a:Str)(b:Int):decide ((Sum.inr a:Key)=Sum.inl b)=false:=Zg (fun q=>nomatch q)
noncomputable def aA(prog:Program)(w:World):PySem.KeyKind prog w Key where
 is:=iw
 hash:=keyH w
 inj:=fun v a b ha hb=>by
  rcases aY ha with⟨i,t,rfl,rfl⟩|⟨x,t,rfl,rfl⟩
  ·rcases aY hb with⟨j,u,rfl,e⟩|⟨y,u,rfl,e⟩
   ·injection e with e1 _;rw[e1]
   ·exact nomatch e
  ·rcases aY hb with⟨j,u,rfl,e⟩|⟨y,u,rfl,e⟩
   ·exact nomatch e
   ·injection e with e1 _;rw[e1]
 byValue:=fun k v h=>by
  rcases aY h with⟨i,t,rfl,rfl⟩|⟨x,t,rfl,rfl⟩<;> rfl
 pyHash:=fun hv h=>by
  rcases aY hv with⟨i,t,rfl,rfl⟩|⟨x,t,rfl,rfl⟩
  ·exact wpAny_pyHash_int h
  ·exact wpAny_pyHash_str h
 eqBool:=fun hu hv h=>by
  rcases aY hu with⟨i,t,rfl,rfl⟩|⟨x,t,rfl,rfl⟩
  ·rcases aY hv with⟨j,u,rfl,rfl⟩|⟨y,u,rfl,rfl⟩
   ·rw[zP]at h;exact wpAny_eqBool_int h
   ·rw[zR]at h;exact SeqAt.EqAt.int_str i t y u _ _ _ _ h
  ·rcases aY hv with⟨j,u,rfl,rfl⟩|⟨y,u,rfl,rfl⟩
   ·rw[zS]at h;exact SeqAt.EqAt.str_int x t j u _ _ _ _ h
   ·rw[zQ]at h;exact wpAny_eqBool_str h
 «strs»:=fun k x t v h=>by
  rcases aY h with⟨i,u,rfl,e⟩|⟨y,u,rfl,e⟩
  ·exact nomatch e
  ·injection e with e1 _
   subst e1;cases v<;> rfl
theorem oJ(prog:Program)(w:World)(i:Int)(t:Tok):(aA prog w).is (.inl i) (.int i t)=true:=sO i t
theorem oK(prog:Program)(w:World)(x:Str)(t:Tok):(aA prog w).is (.inr x) (.str x t)=true:=cO x t
inductive V where
 | non|bl (b:Bool)|int (i:Int)|str (x:Str)|byt (b:Array UInt8)|flt (b:UInt64)|ref (a:Addr)|ty (n:String)
 deriving DecidableEq
def aJ:V->Value->Prop
 | .non,u=>u=Value.none
 | .bl b,u=>u=Value.bool b
 | .int i,u=>∃t,u=Value.int i t
 | .str x,u=>∃t,u=Value.str x t
 | .byt b,u=>∃t,u=Value.bytes b t
 | .flt b,u=>∃t,u=Value.float b t
 | .ref a,u=>u=Value.ref a
 | .ty n,u=>u=Value.type n
abbrev aF:List V->List Value->Prop:=Paired aJ
theorem aF.length{xs:List V}{us:List Value}(r:aF xs us):xs.length=us.length:=Paired.length r
theorem aF.get:∀{xs:List V} {us:List Value} {i:Nat} {x:V},aF xs us->xs[i]? =some x->∃u,us[i]? =some u/\aJ x u
 | _,_,_,_,.nil,e=>by simp at e
 | _,_,0,_,.cons r _,e=>by simp at e;subst e;exact⟨_,rfl,r⟩
 | _,_,i+1,x,.cons _ t,e=>by
   obtain⟨u,h1,h2⟩:=aF.get (i:=i) (x:=x) t (by simpa using e);exact⟨u,by simpa using h1,h2⟩
theorem aF.append:∀{xs ys:List V} {us ws:List Value},aF xs us->aF ys ws->aF (xs++ys) (us++ws)
 | _,_,_,_,.nil,s=>s
 | _,_,_,_,.cons r t,s=> .cons r (aF.append t s)
theorem aF.take:∀{xs:List V} {us:List Value} (n:Nat),aF xs us->aF (xs.take n) (us.take n)
 | _,_,0,_=> .nil
 | _,_,_+1,.nil=> .nil
 | _,_,n+1,.cons r t=> .cons r (aF.take n t)
theorem aF.drop:∀{xs:List V} {us:List Value} (n:Nat),aF xs us->aF (xs.drop n) (us.drop n)
 | _,_,0,r=>r
 | _,_,_+1,.nil=> .nil
 | _,_,n+1,.cons _ t=>aF.drop n t
def eG:Option V->Option Value->Prop
 | some v,some u=>aJ v u
 | none,none=>True
 | _,_=>False
noncomputable def KV{κ:Type}:List (κ×V)->List (κ×Value)->Prop:=Paired fun(p:κ×V) (q:κ×Value)=>p.1=q.1/\aJ p.2 q.2
noncomputable def kV:Key->V
 | .inl i=> .int i
 | .inr x=> .str x
inductive HO where
 | lst (xs:List V)
 | tup (xs:List V)
 | dK (kvs:List (Key×V))|dT (kvs:List (List Key×V))
 | set (S:Int->Bool) (n:Nat)
 | ins (C dx:Addr) (fs:List (Str×V))
 | own (x:Addr)
 | xd (fs:List (Str×V))
 | met (f x:Addr)
 | rng (lo hi:Int)
 | frz (o:Obj) (u:HO)
 | tbl (ps:Array Value)
 | ext (φ:Heap->Prop)
noncomputable abbrev Hp:=Addr->Option HO
noncomputable def upd(H:Hp)(a:Addr)(o:HO):Hp:=fun b=>if b=a then some o else H b
theorem aa:upd H a o a=some o:=by unfold upd;rw[if_pos rfl]
theorem ai{H:Hp}{a b:Addr}{o:HO}(h:b≠a):upd H a o b=H b:=by unfold upd;rw[if_neg h]
theorem BC{H:Hp}(h:H a=some o)(h':H b=some u)(d:o≠u):a≠b:=by
 intro e;subst e;rw[h]at h';exact d (Z9 h')
theorem aq{H:Hp}{a b:Addr}{o:HO}(h:H a=some o)(h':H b=none):a≠b:=by
 intro e;subst e;rw[h]at h';cases h'
section
variable(P:Program)(w:World)
def bh(H:Hp)(h:Heap)(a:Addr):HO->Prop
 | .lst xs=>xs.length<=sizeLine/\∃(its:List Value) (n:Nat),aF xs its/\h.get? a=some {cls:= .type "list",data:= .seq its.toArray n}
 | .tup xs=>xs.length<=sizeLine/\∃its:List Value,aF xs its/\IsTup h a its.toArray
 | .dK kvs=>kvs.length<=sizeLine/\(a==sysModules)=false/\∃vs,KV kvs vs/\h.DictOf (aA P w) a vs
 | .dT kvs=>kvs.length<=sizeLine/\(a==sysModules)=false/\∃xs:List (List Key×Addr×Value),
  Paired (fun(p:List Key×V) (q:List Key×Addr×Value)=>p.1=q.1/\H q.2.1=some (.tup (p.1.map kV))/\aJ p.2 q.2.2) kvs xs/\
  ∃o es ep,h.get? a=some o/\o.ExactDict/\o.data= .dict es ep/\es.toList=xs.map (entryOfKey (tupleKind (aA P w)))/\(xs.map (·.1)).Nodup
 | .set S n=>h.SetOf (intKind P w) a S n
 | .ins C dx fs=>H dx=some (.own a)/\fs.length<=1000/\dx≠a/\h.get? a=some (instObj C dx)/\
  ∃mA,h.Ns1 dx mA/\(∀f,eG (fs.lookup f) (mA f))/\PySem.Within mA (fs.map (·.1))
 | .own _=>∃o,h.get? a=some o
 | .xd fs=>∃mA,h.Ns1 a mA/\∀f,eG (fs.lookup f) (mA f)
 | .rng lo hi=>∃t u v,h.get? a=some {cls:= .type "range",data:= .fields #[.int lo t,.int hi u,.int 1 v]}
 | .frz o u=>h.get? a=some o/\bh H h a u
 | .tbl ps=>h.get? a=some {cls:= .none,data:= .fields ps}
 | .met f x=>h.get? a=some (methodObj (.ref f) (.ref x))
 | .ext φ=>φ h/\(∃o,h.get? a=some o)/\∀h1 h2:Heap,φ h1->(∀o,h1.get? a=some o->h2.get? a=some o)->φ h2
def HOk(H:Hp)(h:Heap):Prop:=∀a o,H a=some o->bh P w H h a o
end
section
variable{P:Program}{w:World}{H H':Hp}{h h':Heap}{a:Addr}{o:HO}
theorem bh.lt(x:bh P w H h a o):a<h.objs.size:=by
 cases o with
 | lst xs=>obtain⟨_,_,_,_,e⟩:=x;exact Zt e
 | tup xs=>obtain⟨_,_,_,p⟩:=x;exact p.lt
 | dK kvs=>obtain⟨_,_,_,_,o,_,_,e,_⟩:=x;exact Zt e
 | dT kvs=>obtain⟨_,_,_,_,o,_,_,e,_⟩:=x;exact Zt e
 | set S n=>obtain⟨o,_,_,_,e,_⟩:=x;exact Zt e
 | ins C dx fs=>obtain⟨_,_,_,e,_⟩:=x;exact Zt e
 | own y=>obtain⟨_,e⟩:=x;exact Zt e
 | xd fs=>obtain⟨_,⟨_,_,_,e,_⟩,_⟩:=x;exact Zt e
 | rng lo hi=>obtain⟨_,_,_,e⟩:=x;exact Zt e
 | frz ob u=>obtain⟨e,_⟩:=x;exact Zt e
 | tbl ps=>exact Zt (show h.get? a=some _ from x)
 | met f y=>exact Zt (show h.get? a=some _ from x)
 | ext φ=>obtain⟨_,⟨_,e⟩,_⟩:=x;exact Zt e
theorem Paired.mapP{F G:α->β->Prop}:∀{l₁:List α} {l₂:List β},Paired F l₁ l₂->(∀a b,F a b->G a b)->Paired G l₁ l₂
 | _,_,.nil,_=> .nil
 | _,_,.cons r t,f=> .cons (f _ _ r) (Paired.mapP t f)
theorem bh.stay(x:bh P w H h a o)(k:∀b u,(b=a\/H b=some (.own a))->h.get? b=some u->h'.get? b=some u)
 (ho:∀b,H b=some (.own a)->H' b=some (.own a)) (ht:∀b xs,H b=some (.tup xs)->H' b=some (.tup xs)):bh P w H' h' a o:=by
 induction o with
 | lst xs=>obtain⟨z,its,n,r,e⟩:=x;exact⟨z,its,n,r,k _ _ (.inl rfl) e⟩
 | tup xs=>obtain⟨z,its,r,ob,e,c⟩:=x;exact⟨z,its,r,ob,k _ _ (.inl rfl) e,c⟩
 | dK kvs=>obtain⟨z,y,vs,r,ob,es,ep,e,c⟩:=x;exact⟨z,y,vs,r,ob,es,ep,k _ _ (.inl rfl) e,c⟩
 | dT kvs=>
   obtain⟨z,y,xs,r,ob,es,ep,e,c⟩:=x;exact⟨z,y,xs,Paired.mapP r fun p q z=>⟨z.1,ht _ _ z.2.1,z.2.2⟩,ob,es,ep,k _ _ (.inl rfl) e,c⟩
 | set S n=>obtain⟨ob,es,ep,t,e,c⟩:=x;exact⟨ob,es,ep,t,k _ _ (.inl rfl) e,c⟩
 | ins C dx fs=>
   obtain⟨d,z,ne,e,mA,⟨od,es,ep,e2,c⟩,r⟩:=x;exact⟨ho _ d,z,ne,k _ _ (.inl rfl) e,mA,⟨od,es,ep,k _ _ (.inr d) e2,c⟩,r⟩
 | own y=>obtain⟨ob,e⟩:=x;exact⟨ob,k _ _ (.inl rfl) e⟩
 | xd fs=>obtain⟨mA,⟨od,es,ep,e,c⟩,r⟩:=x;exact⟨mA,⟨od,es,ep,k _ _ (.inl rfl) e,c⟩,r⟩
 | rng lo hi=>obtain⟨t,u,v,e⟩:=x;exact⟨t,u,v,k _ _ (.inl rfl) e⟩
 | frz ob u ih=>obtain⟨e,q⟩:=x;exact⟨k _ _ (.inl rfl) e,ih q⟩
 | tbl ps=>
   have e:h.get? a=some {cls:= .none,data:= .fields ps}:=x;show h'.get? a=some {cls:= .none,data:= .fields ps};exact k a _ (.inl rfl) e
 | met f y=>
   have e:h.get? a=some (methodObj (.ref f) (.ref y)):=x;show h'.get? a=some (methodObj (.ref f) (.ref y));exact k a _ (.inl rfl) e
 | ext φ=>obtain⟨p,⟨o,e⟩,st⟩:=x;exact⟨st _ _ p fun o q=>k _ _ (.inl rfl) q,⟨o,k _ _ (.inl rfl) e⟩,st⟩
theorem HOk.lt(x:HOk P w H h)(e:H a=some o):a<h.objs.size:=(x a o e).lt
theorem HOk.fresh(x:HOk P w H h)(e:h.objs.size<=a):H a=none:=by
 cases q:H a with
 | none=>rfl
 | some u=>exact absurd (Zf (x.lt q) e) (X4 _)
theorem HOk.kept(x:HOk P w H h)(k:∀b u,h.get? b=some u->h'.get? b=some u):HOk P w H h':=fun a o e=>
 (x a o e).stay (fun b u _ q=>k b u q) (fun _ q=>q) fun _ _ q=>q
theorem HOk.laid(x:HOk P w H h)(k:∀b u,h.get? b=some u->h'.get? b=some u)(hp:h.objs.size<=a)(new:bh P w (upd H a o) h' a o):HOk P w (upd H a o) h':=fun b u e=>by
 have hn:=x.fresh hp;by_cases hb:b=a
 ·subst hb;rw[aa]at e;cases e;exact new
 ·rw[ai hb]at e;exact(x b u e).stay (fun c v _ q=>k c v q) (fun c q=>by rw[ai (aq q hn)];exact q) fun c xs q=>by rw[ai (aq q hn)];exact q
end
def Rd(H:Hp)(a:Addr)(u:HO):Prop:=H a=some u\/∃o,H a=some (.frz o u)
theorem Rd.ok{P:Program}{w:World}{H:Hp}{h:Heap}{a:Addr}{u:HO}(r:Rd H a u)(x:HOk P w H h):bh P w H h a u:=by
 rcases r with r|⟨o,r⟩
 ·exact x a u r
 ·obtain⟨_,q⟩:=x a _ r;exact q
def Mut:Option HO->Prop
 | some (.lst _)=>True
 | some (.dK _)=>True
 | some (.dT _)=>True
 | some (.set _ _)=>True
 | some (.ins _ _ _)=>True
 | some (.ext _)=>True
 | _=>False
section
variable{P:Program}{w:World}{H:Hp}{h h':Heap}{x e:Addr}{o':HO}
theorem HOk.write(ok:HOk P w H h)(mu:Mut (H x))(he:e=x\/H e=some (.own x))(k:∀b u,b≠e->h.get? b=some u->h'.get? b=some u)(heo:∃u,h'.get? e=some u)
 (new:bh P w (upd H x o') h' x o'):HOk P w (upd H x o') h':=fun b u q=>by
 have nown:∀c y,H c=some (.own y)->c≠x:=fun c y r z=>by subst z;rw[r]at mu;exact mu
 have ntup:∀c xs,H c=some (.tup xs)->c≠x:=fun c xs r z=>by subst z;rw[r]at mu;exact mu
 by_cases hb:b=x
 ·subst hb;rw[aa]at q;cases q;exact new
 ·rw[ai hb]at q;by_cases hbe:b=e
  ·have q':H b=some (.own x):=by
    rcases he with z|z
    ·exact absurd (hbe.trans z) hb
    ·rw[hbe];exact z
   rw[q]at q';cases q';obtain⟨v,hv⟩:=heo;exact⟨v,by rw[hbe];exact hv⟩
  ·refine(ok b u q).stay (fun c v hc r=>k c v ?_ r) (fun c r=>by rw[ai (nown c b r)];exact r) fun c xs r=>by rw[ai (ntup c xs r)];exact r
   rcases hc with rfl|hc
   ·exact hbe
   ·rintro rfl;rcases he with z|z
    ·exact nown c b hc z
    ·rw[hc]at z;cases z;exact hb rfl
end
structure Un (fs ex:List Addr) (H H':Hp) (h h':Heap):Prop where
 keep:∀b o,h.get? b=some o->H b=none->b∉fs->b∉ex->h'.get? b=some o
 slot:∀b o,h.get? b=some o->H b=none->b∈fs->b∉ex->∃sl,h'.get? b=some {o with slots:=sl}
 free:∀b o,h.get? b=some o->H b=none->b∉ex->H' b=none
 there:∀b o,h.get? b=some o->b∉ex->∃o',h'.get? b=some o'
 tups:∀b xs,H b=some (.tup xs)->H' b=some (.tup xs)
 frzs:∀b o u,H b=some (.frz o u)->H' b=some (.frz o u)
 tbls:∀b ps,H b=some (.tbl ps)->∃more,H' b=some (.tbl (ps++more))
section
variable{fs fs' ex ex':List Addr}{H H1 H2:Hp}{h h1 h2 h':Heap}{a x e:Addr}{o:HO}
theorem Un.any(u:Un fs ex H H1 h h1)(q:h.get? b=some ob)(n:H b=none)(hx:b∉ex):∃sl,h1.get? b=some {ob with slots:=sl}:=by
 by_cases hb:b∈fs
 ·exact u.slot b ob q n hb hx
 ·exact⟨ob.slots,u.keep b ob q n hb hx⟩
theorem Un.trans(a:Un fs ex H H1 h h1)(b:Un fs ex H1 H2 h1 h2):Un fs ex H H2 h h2 where
 keep:=fun c ob q n hc hx=>b.keep c ob (a.keep c ob q n hc hx) (a.free c ob q n hx) hc hx
 slot:=fun c ob q n hc hx=>by
  obtain⟨sl,e1⟩:=a.slot c ob q n hc hx;obtain⟨sl',e2⟩:=b.slot c _ e1 (a.free c ob q n hx) hc hx;exact⟨sl',e2⟩
 free:=fun c ob q n hx=>by
  obtain⟨o',e1⟩:=a.there c ob q hx;exact b.free c o' e1 (a.free c ob q n hx) hx
 there:=fun c ob q hx=>by
  obtain⟨o',e1⟩:=a.there c ob q hx;exact b.there c o' e1 hx
 tups:=fun c xs q=>b.tups c xs (a.tups c xs q)
 frzs:=fun c ob xs q=>b.frzs c ob xs (a.frzs c ob xs q)
 tbls:=fun c ps q=>by
  obtain⟨m1,e1⟩:=a.tbls c ps q;obtain⟨m2,e2⟩:=b.tbls c _ e1;exact⟨m1++m2,by rw[e2,Array.append_assoc]⟩
theorem Un.kept(k:∀b u,h.get? b=some u->h'.get? b=some u):Un fs ex H H h h':=
 ⟨fun b ob q _ _ _=>k b ob q,fun b ob q _ _ _=>⟨ob.slots,k b ob q⟩,fun _ _ _ n _=>n,fun b ob q _=>⟨ob,k b ob q⟩,fun _ _ q=>q,fun _ _ _ q=>q,fun _ ps q=>⟨#[],by rw[q];simp⟩⟩
theorem Un.refl:Un fs ex H H h h:=Un.kept fun _ _ q=>q
theorem Un.laid(k:∀b u,h.get? b=some u->h'.get? b=some u)(hp:h.objs.size<=a)(hn:H a=none):Un fs ex H (upd H a o) h h' where
 keep:=fun b u q _ _ _=>k b u q
 slot:=fun b u q _ _ _=>⟨u.slots,k b u q⟩
 free:=fun b u q n _=>by rw[ai (Zr (Zf (Zt q) hp))];exact n
 there:=fun b u q _=>⟨u,k b u q⟩
 tups:=fun b xs q=>by rw[ai (aq q hn)];exact q
 frzs:=fun b u xs q=>by rw[ai (aq q hn)];exact q
 tbls:=fun b ps q=>⟨#[],by rw[ai (aq q hn),q];simp⟩
theorem Un.write(mu:Mut (H x))(he:e=x\/H e=some (.own x))(k:∀b u,b≠e->h.get? b=some u->h'.get? b=some u)(heo:∃u,h'.get? e=some u):Un fs ex H (upd H x o) h h':=by
 have hx:∀b,H b=none->b≠x:=fun b n z=>by subst z;rw[n]at mu;exact mu
 have hb:∀b,H b=none->b≠e:=fun b n z=>by
  subst z;rcases he with r|r
  ·exact hx b n r
  ·rw[n]at r;cases r
 have hm:∀b u,H b=some u-> ¬ Mut (some u)->b≠x:=fun b u q nm z=>by subst z;rw[q]at mu;exact nm mu
 refine⟨fun b u q n _ _=>k b u (hb b n) q,fun b u q n _ _=>⟨u.slots,k b u (hb b n) q⟩,fun b u q n _=>by rw[ai (hx b n)];exact n,fun b u q _=>?_,
  fun b xs q=>by rw[ai (hm b _ q fun z=>z)];exact q,fun b u xs q=>by rw[ai (hm b _ q fun z=>z)];exact q,fun b ps q=>⟨#[],by rw[ai (hm b _ q fun z=>z),q];simp⟩⟩
 by_cases hbe:b=e
 ·subst hbe;exact heo
 ·exact⟨u,k b u hbe q⟩
end
noncomputable def trk(h:Heap)(H:Hp):List Addr:=(List.range h.objs.size).filter fun a=>(H a).isSome
noncomputable def nt(h:Heap)(H:Hp):Heap:=PySem.W.hideAll h (trk h H)
theorem sP(h:Heap)(H:Hp):(nt h H).objs.size=h.objs.size:=PySem.W.hideAll_size _ _
theorem u5(e:h.get? b=some o)(n:H b=none):(nt h H).get? b=some o:=
 PySem.W.hideAll_get _ e fun hm=>by
  have q:(H b).isSome=true:=(List.mem_filter.mp hm).2;rw[n]at q;simp at q
theorem xO(e:(nt h H).get? b=some o):h.get? b=some o/\H b=none:=by
 have e':h.get? b=some o:=PySem.W.of_hideAll (trk h H) e;refine⟨e',?_⟩;cases q:H b with
 | none=>rfl
 | some x=>
   have hm:b∈trk h H:=List.mem_filter.mpr ⟨mem_range.mpr (Zt e'),by simp[q]⟩;have z:(nt h H).get? b=none:=PySem.W.hideAll_none (trk h H) hm;rw[z]at e;cases e
noncomputable def xP(g h:Heap)(L:Addr):List (Addr×Obj):=(List.range h.objs.size).filterMap fun a=>if a=L\/(g.get? a).isSome=true then none else(h.get? a).map fun o=>(a,o)
noncomputable def rest(g h:Heap)(L d:Addr):List (Addr×Obj):=(xP g h L).filter fun p=>decide (p.1≠d)
structure Mod (K:PySem.W.Frag) (mg:Str->Option Value) (base:Heap):Prop where
 kin:K.In base
 glob:base.Ns mainGlobals mg
 blt:∃mb,base.Ns builtinsNs mb/\∀x:Str,x≠"__name__"->mb x=bootBuiltins x
 nolimit:base.NoLimit
structure Cx where
 prog:Program
 w:World
 K:PySem.W.Frag
 mg:Str->Option Value
 base:Heap
 A:Around
 N:List Str
 s₀:Shared
 H₀:Hp
 env:Env
 outer:List Env
 stack:List Env
 ex:List Addr
 fn:Str->Bool
 calm:Bool
 pn:List (Addr×Obj)
 xe:Value->Shared->Prop
noncomputable def frs(l:List Env):List Addr:=l.filterMap (·.frame)
noncomputable abbrev Cx.fs(X:Cx):List Addr:=frs X.outer
def Vis(sc:Scope)(x:Str):Prop:=sc.names.lookup x=some .local\/sc.names.lookup x=some .cell\/sc.names.lookup x=some .free
def Loc(sc:Scope)(x:Str):Prop:=sc.names.lookup x=some .local\/sc.names.lookup x=some .cell
def Look(env:Env)(h:Heap)(m:Str->Option Value)(x:Str)(u:Value):Prop:=
 (env.kindOf x=some .local/\m x=some u)\/((env.kindOf x=some .cell\/env.kindOf x=some .free)/\∃c,env.cells.lookup x=some c/\h.IsCell c (some u))
structure Cx.Ok (X:Cx):Prop where
 mod:Mod X.K X.mg X.base
 kind:X.env.scope.kind= .function
 glob:X.env.globals=mainGlobals
 blt:X.env.builtins=builtinsNs
 above:X.s₀.heap.objs.size<=X.env.locals
 inj:∀x y c,X.env.cells.lookup x=some c->X.env.cells.lookup y=some c->x=y
 has:∀x,(X.env.kindOf x=some .cell\/X.env.kindOf x=some .free)->∃c,X.env.cells.lookup x=some c
 cab:∀x c,X.fn x=true->X.env.cells.lookup x=some c->X.s₀.heap.objs.size<=c
 hd:X.calm=true->X.A.handled=none
 frames:X.A.frames=some X.stack
 stk:X.stack=X.outer\/(X.stack=X.env::X.outer/\X.env.frame=some X.env.locals)
 exf:∀b∈X.ex,b≠X.env.locals/\∀x c,X.env.cells.lookup x=some c->c≠b
 bs:∀b o,X.base.get? b=some o->X.s₀.heap.get? b=some o/\X.H₀ b=none
 bsz:X.base.objs.size<=X.s₀.heap.objs.size
 noex:∀b o,X.base.get? b=some o->b∉X.ex
 exfs:∀b∈X.ex,b∉X.fs
 funs:X.s₀.heap.FunFrames X.base X.outer
 frf:∀b∈X.fs,X.H₀ b=none
structure Inv (X:Cx) (pins:List (Addr×Obj)) (σ:List (Option V)) (H:Hp) (s:Shared):Prop where
 ok:X.Ok
 os:s.os=X.s₀.os
 bare:AllBare s.gens
 base:Un X.fs X.ex X.H₀ H X.s₀.heap s.heap
 loc:∃m,s.heap.Ns X.env.locals m/\∀(i:Nat) (x:Str) (v:V),X.N[i]? =some x->σ[i]? =some (some v)->Vis X.env.scope x->∃u,aJ v u/\Look X.env s.heap m x u
 cell:∀x c,X.env.cells.lookup x=some c->∃v,s.heap.IsCell c v
 free:H X.env.locals=none
 freeC:∀x c,X.env.cells.lookup x=some c->H c=none
 pin:∀p∈X.pn++pins,s.heap.get? p.1=some p.2/\H p.1=none/\p.1≠X.env.locals/\p.1∉X.fs/\∀v,p.2.data≠ .cell v
 hok:HOk X.prog X.w H s.heap
 len:σ.length=X.N.length
section
variable{X:Cx}{pins:List (Addr×Obj)}{σ:List (Option V)}{H H':Hp}{s:Shared}{h':Heap}
theorem Cx.Ok.nofr(ok:X.Ok)(e:X.base.get? b=some o):b∉X.fs:=fun hb=>by
 have:=(ok.funs.mem hb).1;rw[e]at this;cases this
theorem Inv.bs(I:Inv X pins σ H s):∀b o,X.base.get? b=some o->s.heap.get? b=some o/\H b=none:=fun b o e=>
 ⟨I.base.keep b o (I.ok.bs b o e).1 (I.ok.bs b o e).2 (I.ok.nofr e) (I.ok.noex b o e),I.base.free b o (I.ok.bs b o e).1 (I.ok.bs b o e).2 (I.ok.noex b o e)⟩
theorem Inv.bk(I:Inv X pins σ H s):∀b o,X.base.get? b=some o->s.heap.get? b=some o:=fun b o e=>(I.bs b o e).1
theorem Inv.mod(I:Inv X pins σ H s):Mod X.K X.mg X.base:=I.ok.mod
theorem Inv.kIn(I:Inv X pins σ H s):X.K.In s.heap:=I.ok.mod.kin.keeps I.bk
theorem Inv.lt(I:Inv X pins σ H s):X.env.locals<s.heap.objs.size:=let⟨_,hn,_⟩:=I.loc;hn.lt
theorem Inv.sz(I:Inv X pins σ H s):X.s₀.heap.objs.size<=s.heap.objs.size:=Y8 I.ok.above (le_of_lt I.lt)
theorem Inv.nofs(I:Inv X pins σ H s)(h:s.heap.objs.size<=a):a∉X.fs:=fun hb=>by
 obtain⟨_,o,ho,_⟩:=I.ok.funs.mem hb;exact absurd (Zf (Zt ho) (Y8 I.sz h)) (X4 _)
theorem Inv.cne(I:Inv X pins σ H s):∀x c,X.env.cells.lookup x=some c->c≠X.env.locals:=fun x c e z=>by
 obtain⟨v,o,ho,hd⟩:=I.cell x c e;obtain⟨m,⟨o',es,ep,ho',hd',_⟩,_⟩:=I.loc;rw[z,ho']at ho;cases ho;rw[hd']at hd;cases hd
theorem Inv.funs(I:Inv X pins σ H s):s.heap.FunFrames X.base X.outer:=by
 have all:∀(l:List Env),(∀b∈frs l,b∈X.fs)->X.s₀.heap.FunFrames X.base l->s.heap.FunFrames X.base l:=by
  intro l
  induction l with
  | nil=>intro _ _;trivial
  | cons env r ih=>
    intro hs hl;obtain⟨hk,⟨L,o,hf,hn,ho,hd⟩,hr⟩:=hl;have hL:L∈X.fs:=hs L (by unfold frs;rw[Zy,hf];exact Zl);obtain⟨sl,e⟩:=I.base.slot L o ho (I.ok.frf L hL) hL fun z=>I.ok.exfs L z hL
    exact⟨hk,⟨L,_,hf,hn,e,hd⟩,ih (fun b hb=>hs b (by unfold frs;rw[Zy,hf];exact Zj _ hb)) hr⟩
 exact all X.outer (fun _ hb=>hb) I.ok.funs
theorem Inv.stack(I:Inv X pins σ H s):s.heap.FunFrames X.base X.stack:=by
 rcases I.ok.stk with e|⟨e,hf⟩
 ·rw[e];exact I.funs
 ·rw[e];obtain⟨m,hn,_⟩:=I.loc;refine .cons (by rw[I.ok.kind];decide) hf hn ?_ I.funs;exact Heap.get?_none_of_le (Y8 I.ok.bsz I.ok.above)
theorem Inv.stkSub(I:Inv X pins σ H s):∀b∈frs X.stack,b∈X.env.locals::X.fs:=fun b hb=>by
 rcases I.ok.stk with e|⟨e,hf⟩
 ·rw[e]at hb;exact Zj _ hb
 ·rw[e]at hb;unfold frs at hb;rw[Zy,hf]at hb;exact hb
theorem Inv.stkFree(I:Inv X pins σ H s):∀b∈frs X.stack,H b=none:=fun b hb=>by
 rcases mem_cons.mp (I.stkSub b hb)with e|hb
 ·rw[e];exact I.free
 ·obtain⟨_,o,ho,_⟩:=I.ok.funs.mem hb;exact I.base.free b o ho (I.ok.frf b hb) fun z=>I.ok.exfs b z hb
theorem Inv.step{d':Drawn}{ch:List Addr}(I:Inv X pins σ H s)
 (hch:∀b∈ch,(b∈X.ex\/X.s₀.heap.objs.size<=b)/\b≠X.env.locals/\(∀x c,X.env.cells.lookup x=some c->c≠b)/\∀p∈X.pn++pins,p.1≠b)
 (keep:∀b o,b≠X.env.locals->b∉X.fs->b∉ch->s.heap.get? b=some o->H b=none->h'.get? b=some o)
 (slot:∀b o,b≠X.env.locals->b∈X.fs->b∉ch->s.heap.get? b=some o->H b=none->∃sl,h'.get? b=some {o with slots:=sl}) (free:∀b o,b∉ch->s.heap.get? b=some o->H b=none->H' b=none)
 (there:∀b o,b∉ch->s.heap.get? b=some o->∃o',h'.get? b=some o')
 (tups:∀b xs,H b=some (.tup xs)->H' b=some (.tup xs)) (frzs:∀b o u,H b=some (.frz o u)->H' b=some (.frz o u)) (tbls:∀b ps,H b=some (.tbl ps)->∃more,H' b=some (.tbl (ps++more)))
 (ns:∀m,s.heap.Ns X.env.locals m->h'.Ns X.env.locals m) (hok:HOk X.prog X.w H' h') (hg:AllBare g'):
 Inv X pins σ H' {s with heap:=h',gens:=g',drawn:=d',toks:=t'}:=by
 have neL:∀b o,X.s₀.heap.get? b=some o->b≠X.env.locals:=fun b o e=>Zr (Zf (Zt e) I.ok.above)
 have neC:∀b o,X.s₀.heap.get? b=some o->b∉X.ex->b∉ch:=fun b o e hx hb=>by
  rcases(hch b hb).1 with z|z
  ·exact hx z
  ·exact absurd (Zf (Zt e) z) (X4 _)
 have cellK:∀x c,X.env.cells.lookup x=some c->∀v,s.heap.IsCell c v->h'.IsCell c v:=fun x c e v ⟨o,ho,hd⟩=>by
  have nch:c∉ch:=fun z=>(hch c z).2.2.1 x c e rfl
  by_cases hc:c∈X.fs
  ·obtain⟨sl,q⟩:=slot c o (I.cne x c e) hc nch ho (I.freeC x c e);exact⟨_,q,hd⟩
  ·exact⟨o,keep c o (I.cne x c e) hc nch ho (I.freeC x c e),hd⟩
 refine⟨I.ok,I.os,hg,⟨fun b o e n hb hx=>?_,fun b o e n hb hx=>?_,fun b o e n hx=>?_,fun b o e hx=>?_,fun b xs e=>tups b xs (I.base.tups b xs e),fun b o xs e=>frzs b o xs (I.base.frzs b o xs e),fun b ps e=>?_⟩,?_,fun x c e=>?_,?_,fun x c e=>?_,fun p hp=>?_,hok,I.len⟩
 ·exact keep b o (neL b o e) hb (neC b o e hx) (I.base.keep b o e n hb hx) (I.base.free b o e n hx)
 ·obtain⟨sl,e1⟩:=I.base.slot b o e n hb hx;obtain⟨sl',e2⟩:=slot b _ (neL b o e) hb (neC b o e hx) e1 (I.base.free b o e n hx);exact⟨sl',e2⟩
 ·obtain⟨o',e1⟩:=I.base.there b o e hx;exact free b o' (neC b o e hx) e1 (I.base.free b o e n hx)
 ·obtain⟨o',e1⟩:=I.base.there b o e hx;exact there b o' (neC b o e hx) e1
 ·obtain⟨m1,e1⟩:=I.base.tbls b ps e;obtain⟨m2,e2⟩:=tbls b _ e1;exact⟨m1++m2,by rw[e2,Array.append_assoc]⟩
 ·obtain⟨m,hn,hl⟩:=I.loc;refine⟨m,ns m hn,fun i x v e1 e2 e3=>?_⟩;obtain⟨u,r,l⟩:=hl i x v e1 e2 e3;refine⟨u,r,?_⟩;rcases l with l|⟨k,c,e,z⟩
  ·exact .inl l
  ·exact .inr ⟨k,c,e,cellK x c e _ z⟩
 ·obtain⟨v,z⟩:=I.cell x c e;exact⟨v,cellK x c e v z⟩
 ·obtain⟨m,⟨o,_,_,ho,_⟩,_⟩:=I.loc;exact free _ o (fun z=>(hch _ z).2.1 rfl) ho I.free
 ·obtain⟨v,o,ho,hd⟩:=I.cell x c e;exact free c o (fun z=>(hch c z).2.2.1 x c e rfl) ho (I.freeC x c e)
 ·obtain⟨e,n,ne,nf,d⟩:=I.pin p hp;have nch:p.1∉ch:=fun z=>(hch p.1 z).2.2.2 p hp rfl
  exact⟨keep p.1 p.2 ne nf nch e n,free p.1 p.2 nch e n,ne,nf,d⟩
theorem Inv.un{t':Nat}(I:Inv X pins σ H s)(u:Un X.fs [] H H' s.heap h')(hok:HOk X.prog X.w H' h'):Inv X pins σ H' {s with heap:=h',toks:=t'}:=by
 obtain⟨m,⟨o,es,ep,ho,r⟩,_⟩:=id I.loc;obtain⟨sl,hL⟩:=u.any ho I.free (by simp);exact I.step (g':=s.gens) (d':=s.drawn) (ch:=[]) (fun _ z=>nomatch z) (fun b o _ hb _ e n=>u.keep b o e n hb (by simp)) (fun b o _ hb _ e n=>u.slot b o e n hb (by simp)) (fun b o _ e n=>u.free b o e n (by simp)) (fun b o _ e=>u.there b o e (by simp)) u.tups u.frzs u.tbls (fun m' hm=>by
  obtain⟨o',es',ep',ho',r'⟩:=hm;rw[ho]at ho';cases ho';exact⟨_,es',ep',hL,r'⟩) hok I.bare
theorem Inv.call{d':Drawn}{ch:List Addr}(I:Inv X pins σ H s)(u:Un (frs X.stack) ch H H' s.heap h')(hok:HOk X.prog X.w H' h')(hg:AllBare g')
 (hch:∀b∈ch,(b∈X.ex\/X.s₀.heap.objs.size<=b)/\b≠X.env.locals/\(∀x c,X.env.cells.lookup x=some c->c≠b)/\∀p∈X.pn++pins,p.1≠b):
 Inv X pins σ H' {s with heap:=h',gens:=g',drawn:=d',toks:=t'}:=by
 obtain⟨m,⟨o,es,ep,ho,r⟩,_⟩:=id I.loc;obtain⟨sl,hL⟩:=u.any ho I.free fun z=>(hch _ z).2.1 rfl
 exact I.step (ch:=ch) hch (fun b o hL hb hc e n=>u.keep b o e n (fun z=>(mem_cons.mp (I.stkSub b z)).elim hL hb) hc) (fun b o _ _ hc e n=>u.any e n hc) (fun b o hc e n=>u.free b o e n hc) (fun b o hc e=>u.there b o e hc) u.tups u.frzs u.tbls (fun m' hm=>by
  obtain⟨o',es',ep',ho',r'⟩:=hm;rw[ho]at ho';cases ho';exact⟨_,es',ep',hL,r'⟩) hok hg
theorem Inv.turned{it:Addr}(I:Inv X pins σ H s)(k:∀b o,b≠it->s.heap.get? b=some o->h'.get? b=some o)(hn:H it=none)(hL:it≠X.env.locals)
 (h1:it∈X.ex\/X.s₀.heap.objs.size<=it) (h2:∀x c,X.env.cells.lookup x=some c->c≠it) (h3:∀p∈X.pn++pins,p.1≠it):Inv X pins σ H {s with heap:=h',toks:=t'}:=by
 have nit:∀b u,H b=some u->b≠it:=fun b u e z=>by rw[z,hn]at e;cases e
 refine I.step (g':=s.gens) (d':=s.drawn) (ch:=[it]) (fun b hb=>?_) (fun b o _ _ hc e _=>k b o (fun z=>hc (by simp[z])) e) (fun b o _ _ hc e _=>⟨o.slots,k b o (fun z=>hc (by simp[z])) e⟩) (fun _ _ _ _ n=>n)
  (fun b o hc e=>⟨o,k b o (fun z=>hc (by simp[z])) e⟩) (fun _ _ e=>e) (fun _ _ _ e=>e) (fun b ps e=>⟨#[],by rw[e];simp⟩) (fun m hm=>?_) (fun b u e=>?_) I.bare
 ·have e:b=it:=by simpa using hb
  subst e;exact⟨h1,hL,h2,h3⟩
 ·obtain⟨o,es,ep,ho,r⟩:=hm;exact⟨o,es,ep,k _ o (Ne.symm hL) ho,r⟩
 ·refine(I.hok b u e).stay (fun c v hc q=>k c v ?_ q) (fun _ q=>q) fun _ _ q=>q
  rcases hc with z|z
  ·rw[z];exact nit b u e
  ·exact nit c _ z
theorem Inv.tok(I:Inv X pins σ H s)(t:Nat):Inv X pins σ H {s with toks:=t}:=I.un (h':=s.heap) (t':=t) Un.refl I.hok
theorem Inv.kept(I:Inv X pins σ H s)(k:∀b u,s.heap.get? b=some u->h'.get? b=some u):Inv X pins σ H {s with heap:=h',toks:=t'}:=I.un (Un.kept k) (I.hok.kept k)
theorem Inv.laid{a:Addr}{o:HO}{t':Nat}(I:Inv X pins σ H s)(k:∀b u,s.heap.get? b=some u->h'.get? b=some u)(hp:s.heap.objs.size<=a)(new:bh X.prog X.w (upd H a o) h' a o):
 Inv X pins σ (upd H a o) {s with heap:=h',toks:=t'}:=I.un (Un.laid k hp (I.hok.fresh hp)) (I.hok.laid k hp new)
theorem Inv.write(I:Inv X pins σ H s)(mu:Mut (H x))(he:e=x\/H e=some (.own x))(k:∀b u,b≠e->s.heap.get? b=some u->h'.get? b=some u)(heo:∃u,h'.get? e=some u)
 (new:bh X.prog X.w (upd H x o) h' x o):Inv X pins σ (upd H x o) {s with heap:=h',toks:=t'}:=I.un (Un.write mu he k heo) (I.hok.write mu he k heo new)
theorem Inv.pins_of(I:Inv X pins σ H s)(h:∀p∈pins',s.heap.get? p.1=some p.2/\H p.1=none/\p.1≠X.env.locals/\p.1∉X.fs/\∀v,p.2.data≠ .cell v):Inv X pins' σ H s:=
 ⟨I.ok,I.os,I.bare,I.base,I.loc,I.cell,I.free,I.freeC,fun p hp=>(X7 hp).elim (fun z=>I.pin p (Yl _ z)) (h p),I.hok,I.len⟩
theorem kC{N:List Str}(hN:N.Nodup){i j:Nat}{x:Str}(a:N[i]? =some x)(b:N[j]? =some x):i=j:=by
 obtain⟨h1,e1⟩:=X6 a;obtain⟨h2,e2⟩:=X6 b;exact(List.getElem_inj hN).mp (e1.trans e2.symm)
theorem sQ{A:Around}{E:Value->Shared->Prop}{i:Nat}{x:Str}{v:V}{u:Value}{Q:Unit->Shared->Prop}(I:Inv X pins σ H s)(hN:X.N.Nodup)(hi:X.N[i]? =some x)(hx:Loc X.env.scope x)(r:aJ v u)
 (h:∀s',Inv X pins (σ.set i (some v)) H s'->(∃a,SameBut a s.heap s'.heap/\(a=X.env.locals\/X.env.cells.lookup x=some a))->Q () s') (hf:X.fn x=true\/X.env.scope.names.lookup x=some .local):wpAny M A (storeName X.env x u) Q E s:=by
 obtain⟨m,hn,hl⟩:=id I.loc;have hcls:(X.env.scope.kind== .class||(X.env.scope.kind== .module&&X.env.locals != X.env.globals))=false:=by rw[I.ok.kind];rfl
 have hiσ:i<σ.length:=by rw[I.len];exact(X6 hi).1
 have cne:=I.cne;have tracked:∀{a:Addr} {h':Heap},(∃o,s.heap.get? a=some o/\H a=none)->SameBut a s.heap h'->HOk X.prog X.w H h':=fun{a h'} ha hs b ob e=>by
  obtain⟨_,_,hfree⟩:=ha;refine(I.hok b ob e).stay (fun c w' hc q=>(hs.2 c ?_).trans q) (fun _ q=>q) fun _ _ q=>q
  rintro rfl;rcases hc with rfl|hc
  ·rw[hfree]at e;cases e
  ·rw[hfree]at hc;cases hc
 rcases hx with hk|hk
 ·refine wpAny_storeName_local hk hn (fun h' hn' hs=>?_) hcls;obtain⟨oL,_,_,hoL,_⟩:=id hn;refine h _ ⟨I.ok,I.os,I.bare,⟨fun b o e n hb hx=>?_,fun b o e n hb hx=>?_,I.base.free,fun b o e hx=>?_,I.base.tups,I.base.frzs,I.base.tbls⟩,⟨_,hn',fun j y v' e1 e2 e3=>?_⟩,fun y c e=>?_,I.free,I.freeC,fun p hp=>?_,tracked ⟨oL,hoL,I.free⟩ hs,by simpa using I.len⟩ ⟨_,hs,.inl rfl⟩
  ·exact(hs.2 b (Zr (Zf (Zt e) I.ok.above))).trans (I.base.keep b o e n hb hx)
  ·obtain⟨sl,e1⟩:=I.base.slot b o e n hb hx;exact⟨sl,(hs.2 b (Zr (Zf (Zt e) I.ok.above))).trans e1⟩
  ·obtain⟨o',e1⟩:=I.base.there b o e hx;exact⟨o',(hs.2 b (Zr (Zf (Zt e) I.ok.above))).trans e1⟩
  ·by_cases hj:j=i
   ·subst hj;rw[hi]at e1;cases e1;rw[List.getElem?_set_self hiσ]at e2;cases e2;exact⟨u,r,.inl ⟨hk,by simp⟩⟩
   ·rw[List.getElem?_set_ne (Ne.symm hj)]at e2;obtain⟨u',r',q⟩:=hl j y v' e1 e2 e3;refine⟨u',r',?_⟩;rcases q with⟨k,e⟩|⟨k,c,e,z⟩
    ·refine .inl ⟨k,?_⟩;have:y≠x:=fun e=>hj (kC hN e1 (e▸hi))
     simp[this,e]
    ·exact .inr ⟨k,c,e,z.sameBut hs (cne y c e)⟩
  ·obtain⟨w',z⟩:=I.cell y c e;exact⟨w',z.sameBut hs (cne y c e)⟩
  ·obtain⟨e,n,ne,nf,d⟩:=I.pin p hp;exact⟨(hs.2 p.1 ne).trans e,n,ne,nf,d⟩
 ·have hfn:X.fn x=true:=by
   rcases hf with z|z
   ·exact z
   ·rw[z]at hk;cases hk
  obtain⟨c,hc⟩:=I.ok.has x (.inl hk);obtain⟨w',z⟩:=I.cell x c hc;refine wpAny_storeName_cell I.ok.kind hk hc z (fun h' hc' hs=>?_);obtain⟨oc,hoc,hocd⟩:=id z;refine h {s with heap:=h'} ⟨I.ok,I.os,I.bare,⟨fun b o e n hb hx=>?_,fun b o e n hb hx=>?_,I.base.free,fun b o e hx=>?_,I.base.tups,I.base.frzs,I.base.tbls⟩,⟨m,hn.sameBut hs (Ne.symm (cne x c hc)),fun j y v' e1 e2 e3=>?_⟩,fun y c' e=>?_,I.free,I.freeC,fun p hp=>?_,tracked ⟨oc,hoc,I.freeC x c hc⟩ hs,by simpa using I.len⟩ ⟨c,hs,.inr hc⟩
  ·exact(hs.2 b (Zr (Zf (Zt e) (I.ok.cab x c hfn hc)))).trans (I.base.keep b o e n hb hx)
  ·obtain⟨sl,e1⟩:=I.base.slot b o e n hb hx;exact⟨sl,(hs.2 b (Zr (Zf (Zt e) (I.ok.cab x c hfn hc)))).trans e1⟩
  ·obtain⟨o',e1⟩:=I.base.there b o e hx;exact⟨o',(hs.2 b (Zr (Zf (Zt e) (I.ok.cab x c hfn hc)))).trans e1⟩
  ·by_cases hj:j=i
   ·subst hj;rw[hi]at e1;cases e1;rw[List.getElem?_set_self hiσ]at e2;cases e2;exact⟨u,r,.inr ⟨.inl hk,c,hc,hc'⟩⟩
   ·rw[List.getElem?_set_ne (Ne.symm hj)]at e2;obtain⟨u',r',q⟩:=hl j y v' e1 e2 e3;refine⟨u',r',?_⟩;rcases q with q|⟨k,c',e,z'⟩
    ·exact .inl q
    ·refine .inr ⟨k,c',e,z'.sameBut hs ?_⟩;rintro rfl;exact hj (kC hN e1 (I.ok.inj _ _ _ e hc▸hi))
  ·by_cases hcc:c'=c
   ·subst hcc;exact⟨_,hc'⟩
   ·obtain⟨w2,z2⟩:=I.cell y c' e;exact⟨w2,z2.sameBut hs hcc⟩
  ·obtain⟨e,n,ne,nf,d⟩:=I.pin p hp;refine⟨(hs.2 p.1 ?_).trans e,n,ne,nf,d⟩;intro q;rw[q,hoc]at e;have q':oc=p.2:=Z9 e;exact d w' (by rw[<-q'];exact hocd)
theorem kD(I:Inv X pins σ H s)(hN:X.N.Nodup)(hi:X.N[i]? =some x)(hx:Loc X.env.scope x)(r:aJ v u)
 (h:∀s',Inv X pins (σ.set i (some v)) H s'->Q () s') (hf:X.fn x=true\/X.env.scope.names.lookup x=some .local):wpAny M A (storeName X.env x u) Q E s:=
 sQ I hN hi hx r (fun s' I' _=>h s' I') hf
theorem Inv.call'(I:Inv X pins σ H s)(ho:s'.os=s.os)(u:Un (frs X.stack) ch H H' s.heap s'.heap)(hok:HOk X.prog X.w H' s'.heap)(hg:AllBare s'.gens)
 (hch:∀b∈ch,(b∈X.ex\/X.s₀.heap.objs.size<=b)/\b≠X.env.locals/\(∀x c,X.env.cells.lookup x=some c->c≠b)/\∀p∈X.pn++pins,p.1≠b):Inv X pins σ H' s':=by
 obtain⟨h',g',d',t',o'⟩:=s';have e:o'=s.os:=ho;subst e;exact I.call (g':=g') (t':=t') (d':=d') u hok hg hch
end
noncomputable abbrev XK:=Value->Option Addr->Hp->Prop
noncomputable abbrev St:=List (Option V)
noncomputable abbrev VK:=V->Hp->Prop
noncomputable abbrev TE:=St->Hp->VK->Prop
noncomputable abbrev TT:=St->Hp->(Bool->Hp->Prop)->Prop
noncomputable abbrev TA:=St->Hp->(List V->Hp->Prop)->Prop
structure jb where
 nx:St->Hp->Prop
 rt:VK
 bk:St->Hp->Prop:=fun _ _=>False
 ct:St->Hp->Prop:=fun _ _=>False
noncomputable abbrev TS:=jb->St->Hp->Prop
def EP(X:Cx)(pins:List (Addr×Obj))(σ:St)(Q:VK)(u:Value)(s':Shared):Prop:=∃v H',Inv X pins σ H' s'/\aJ v u/\Q v H'
def TP(X:Cx)(pins:List (Addr×Obj))(σ:St)(Q:Bool->Hp->Prop)(b:Bool)(s':Shared):Prop:=∃H',Inv X pins σ H' s'/\Q b H'
def AP(X:Cx)(pins:List (Addr×Obj))(σ:St)(Q:List V->Hp->Prop)(us:List Value)(s':Shared):Prop:=∃vs H',Inv X pins σ H' s'/\aF vs us/\Q vs H'
def SP(X:Cx)(pins:List (Addr×Obj))(D:jb)(f:Flow)(s':Shared):Prop:=
 match f with
 | .next=>∃σ' H',Inv X pins σ' H' s'/\D.nx σ' H'
 | .brk=>∃σ' H',Inv X pins σ' H' s'/\D.bk σ' H'
 | .cont=>∃σ' H',Inv X pins σ' H' s'/\D.ct σ' H'
 | .ret u=>∃v σ' H',Inv X pins σ' H' s'/\aJ v u/\D.rt v H'
def PE(X:Cx)(e:Expr)(t:TE):Prop:=
 ∀(pins:List (Addr×Obj)) (s:Shared) (σ:St) (H:Hp) (Q:VK),Inv X pins σ H s->t σ H Q->wpAny (model X.prog X.w) X.A (eval e X.env) (EP X pins σ Q) X.xe s
def PT(X:Cx)(e:Expr)(t:TT):Prop:=
 ∀(pins:List (Addr×Obj)) (s:Shared) (σ:St) (H:Hp) (Q:Bool->Hp->Prop),Inv X pins σ H s->t σ H Q->wpAny (model X.prog X.w) X.A (isTrue e X.env (eval e X.env)) (TP X pins σ Q) X.xe s
def PW(X:Cx)(e:Expr)(t:TT):Prop:=
 ∀(whole:Sem Value) (pins:List (Addr×Obj)) (s:Shared) (σ:St) (H:Hp) (Q:Bool->Hp->Prop),Inv X pins σ H s->t σ H Q->wpAny (model X.prog X.w) X.A (isTrue e X.env whole) (TP X pins σ Q) X.xe s
theorem PW.pt{X:Cx}(h:PW X e t):PT X e t:=h _
def PA(X:Cx)(es:List Expr)(t:TA):Prop:=
 ∀(pos:Pos) (pins:List (Addr×Obj)) (s:Shared) (σ:St) (H:Hp) (Q:List V->Hp->Prop),Inv X pins σ H s->t σ H Q->wpAny (model X.prog X.w) X.A (spliced (backTo pos (starEach es X.env))) (AP X pins σ Q) X.xe s
def PS(X:Cx)(st:Stmt)(t:TS):Prop:=
 ∀(pins:List (Addr×Obj)) (s:Shared) (σ:St) (H:Hp) (D:jb),Inv X pins σ H s->t D σ H->wpAny (model X.prog X.w) X.A (exec st X.env) (SP X pins D) X.xe s
def PSs(X:Cx)(st:List Stmt)(t:TS):Prop:=
 ∀(pins:List (Addr×Obj)) (s:Shared) (σ:St) (H:Hp) (D:jb),Inv X pins σ H s->t D σ H->wpAny (model X.prog X.w) X.A (execs st X.env) (SP X pins D) X.xe s
theorem thn{α:Type}{t:Sem α}{Q Q':α->Shared->Prop}{M:Model}{A:Around}{E:Value->Shared->Prop}{s:Shared}(h:wpAny M A t Q E s)(hQ:∀a s,Q a s->Q' a s):wpAny M A t Q' E s:=wpAny_mono h hQ fun _ _ x=>x
section
variable{X:Cx}
def asI(x:V)(f:Int->Prop):Prop:=match x with| .int i=>f i|_=>False
def asB(x:V)(f:Bool->Prop):Prop:=match x with| .bl i=>f i|_=>False
def asR(x:V)(f:Addr->Prop):Prop:=match x with| .ref i=>f i|_=>False
theorem BD:asI (.int i) f=f i:=rfl
theorem BE:asB (.bl i) f=f i:=rfl
theorem BF:asR (.ref i) f=f i:=rfl
theorem fN{x:V}{f:Int->Prop}(h:asI x f):∃i,x= .int i/\f i:=by
 cases x<;> first|exact⟨_,rfl,h⟩|exact h.elim
theorem mC{x:V}{f:Bool->Prop}(h:asB x f):∃i,x= .bl i/\f i:=by
 cases x<;> first|exact⟨_,rfl,h⟩|exact h.elim
theorem dM{x:V}{f:Addr->Prop}(h:asR x f):∃i,x= .ref i/\f i:=by
 cases x<;> first|exact⟨_,rfl,h⟩|exact h.elim
theorem BG:asI x f=∃i,x= .int i/\f i:=propext ⟨fN,fun⟨_,e,q⟩=>by subst e;exact q⟩
theorem BH:asB x f=∃i,x= .bl i/\f i:=propext ⟨mC,fun⟨_,e,q⟩=>by subst e;exact q⟩
theorem BI:asR x f=∃i,x= .ref i/\f i:=propext ⟨dM,fun⟨_,e,q⟩=>by subst e;exact q⟩
def oM:Nat->TE
 | 0,some v::_,H,Q=>Q v H
 | i+1,_::σ,H,Q=>oM i σ H Q
 | _,_,_,_=>False
theorem zT:oM 0 (some v::σ) H Q=Q v H:=rfl
theorem zU:oM (i+1) (o::σ) H Q=oM i σ H Q:=rfl
theorem u9:∀{i:Nat} {σ:St},oM i σ H Q->∃v,σ[i]? =some (some v)/\Q v H
 | 0,some v::_,h=>⟨v,rfl,h⟩
 | 0,none::_,h=>h.elim
 | 0,[],h=>h.elim
 | _+1,[],h=>h.elim
 | i+1,_::σ,h=>u9 (i:=i) (σ:=σ) h
def tC(v:V):TE:=fun _ H Q=>Q v H
theorem va(hN:X.N[i]? =some x)(hv:Vis X.env.scope x)(hd:(x==("__debug__":Str))=false)(hcd:(x==("__classdict__":Str))=false):PE X (.Name x pos) (oM i):=by
 intro pins s σ H Q I h;obtain⟨v,e,h⟩:=u9 h;obtain⟨m,hn,hl⟩:=I.loc;obtain⟨u,r,l⟩:=hl i x v hN e hv;have fin:EP X pins σ Q u s:=⟨v,H,I,r,h⟩
 rcases l with⟨hk,hm⟩|⟨hk,c,hc,hcell⟩
 ·exact wpAny_Name (wpAny_loadName_local I.ok.kind hk hn hm fin) hd
 ·rcases hk with hk|hk
  ·exact wpAny_Name (wpAny_loadName_cell I.ok.kind hk hc hcell fin) hd
  ·exact wpAny_Name (wpAny_loadName_free I.ok.kind hk hc hcell fin hcd) hd
theorem zV{i j pos}:PE X (.Constant (.int i) j pos) (tC (.int i)):=fun _ _ _ H _ I h=>wpAny_Constant_int ⟨.int i,H,I.tok _,⟨_,rfl⟩,h⟩
theorem BJ{b j pos}:PE X (.Constant (.bool b) j pos) (tC (.bl b)):=fun _ _ _ H _ I h=>Constant_bool ⟨.bl b,H,I,rfl,h⟩
theorem zW{j pos}:PE X (.Constant .none j pos) (tC .non):=fun _ _ _ H _ I h=>Constant_none ⟨.non,H,I,rfl,h⟩
theorem zX{x j pos}:PE X (.Constant (.str x) j pos) (tC (.str x)):=fun _ _ _ H _ I h=>Calls.Constant_str ⟨.str x,H,I.tok _,⟨_,rfl⟩,h⟩
def Gl(X:Cx)(x:Str):Prop:=X.env.kindOf x=some .globalImplicit
theorem nu(I:Inv X pins σ H s)(hg:Gl X x)(hm:X.mg x=some u)(h:Q u s)
 (hd:(x==("__debug__":Str))=false):wpAny (model X.prog X.w) X.A (eval (.Name x pos) X.env) Q E s:=
 Calls.Name_function_global I.ok.kind hg (Calls.loadGlobal_global (by rw[I.ok.glob];exact I.mod.glob.keeps I.bk) hm h) hd
theorem gY(I:Inv X pins σ H s)(hg:Gl X x)(hm:X.mg x=none)(hv:bootBuiltins x=some u)(h:Q u s)
 (hn:x≠"__name__":=by decide) (hd:(x==("__debug__":Str))=false:=by decide):wpAny (model X.prog X.w) X.A (eval (.Name x pos) X.env) Q E s:=by
 obtain⟨mb,h1,h2⟩:=I.mod.blt;exact Calls.Name_function_global I.ok.kind hg (Calls.loadGlobal_builtin (by rw[I.ok.glob];exact I.mod.glob.keeps I.bk) hm (by rw[I.ok.blt];exact h1.keeps I.bk) ((h2 x hn).trans hv) h) hd
theorem xQ(hg:Gl X x)(hm:X.mg x=some u)(r:aJ v u)(hd:(x==("__debug__":Str))=false):PE X (.Name x pos) (tC v):=
 fun _ _ _ H _ I h=>nu I hg hm ⟨v,H,I,r,h⟩ hd
theorem xR(hg:Gl X x)(hm:X.mg x=none)(hv:bootBuiltins x=some u)(r:aJ v u)(hn:x≠"__name__")(hd:(x==("__debug__":Str))=false):PE X (.Name x pos) (tC v):=
 fun _ _ _ H _ I h=>gY I hg hm hv ⟨v,H,I,r,h⟩ hn hd
variable{a b:Expr}{ta tb:TE}{pos:Pos}
def PC(X:Cx)(op:CmpOp)(a b:Expr)(t:TE):Prop:=
 ∀(pins:List (Addr×Obj)) (s:Shared) (σ:St) (H:Hp) (Q:VK),Inv X pins σ H s->t σ H Q->
  wpAny (model X.prog X.w) X.A (eval a X.env) (fun v s₁=>wpAny (model X.prog X.w) X.A (eval b X.env) (fun u s₂=>wpAny (model X.prog X.w) X.A (compareOp op v u) (EP X pins σ Q) X.xe s₂) X.xe s₁) X.xe s
theorem BK(b:Expr)(h:op≠ .In)(h2:op≠ .NotIn):behindInMarks op b=false:=by
 have e1:(op==CmpOp.In)=false:=by cases op<;> first|rfl|exact absurd rfl h
 have e2:(op==CmpOp.NotIn)=false:=by cases op<;> first|rfl|exact absurd rfl h2
 cases b<;> simp[behindInMarks,e1,e2]
def tB(t:TE):TT:=fun σ H Q=>t σ H fun x H1=>asB x fun c=>Q c H1
theorem vb{op:CmpOp}(h:PC X op a b t)(h1:behindInMarks op b=false):PT X (.Compare a [op] [b] pos) (tB t):=by
 intro pins s σ H Q I hw;refine wpAny_isTrue_Compare1 (thn (h pins s σ H _ I hw) fun v s1 h1=>thn h1 fun u s2 h2=>thn h2 fun c s3 ⟨x,H1,I1,r1,q1⟩=>?_) h1;obtain⟨d,rfl,q⟩:=mC q1;cases r1;exact wpAny_truthy_bool ⟨H1,I1,q⟩
variable{tA tB':TT}{rest:List Expr}
def xS(t u:TT):TT:=fun σ H Q=>t σ H fun c H1=>if c=true then u σ H1 Q else Q false H1
def tOr(t u:TT):TT:=fun σ H Q=>t σ H fun c H1=>if c=true then Q true H1 else u σ H1 Q
def zY(t:TT):TT:=fun σ H Q=>t σ H fun c H1=>Q (!c) H1
theorem xT(ha:PT X a tA):PW X (.BoolOp .And [a] pos) tA:=by
 intro wh pins s σ H Q I h;refine isTrue_and (thn (ha pins s σ H Q I h) fun c s1 e=>?_);cases c with
 | true=>exact isTrue_and_nil e
 | false=>exact e
theorem zZ(ha:PT X a tA):PW X (.BoolOp .Or [a] pos) tA:=by
 intro wh pins s σ H Q I h;refine isTrue_or (thn (ha pins s σ H Q I h) fun c s1 e=>?_);cases c with
 | false=>exact isTrue_or_nil e
 | true=>exact e
theorem z0(ha:PT X a tA)(hb:PW X (.BoolOp .And (b::rest) pos) tB'):PW X (.BoolOp .And (a::b::rest) pos) (xS tA tB'):=by
 intro wh pins s σ H Q I h;refine isTrue_and (thn (ha pins s σ H _ I h) fun c s1 ⟨H1,I1,q1⟩=>?_);cases c with
 | true=>exact hb wh pins s1 σ H1 Q I1 q1
 | false=>exact⟨H1,I1,q1⟩
theorem BL(ha:PT X a tA)(hb:PW X (.BoolOp .Or (b::rest) pos) tB'):PW X (.BoolOp .Or (a::b::rest) pos) (tOr tA tB'):=by
 intro wh pins s σ H Q I h;refine isTrue_or (thn (ha pins s σ H _ I h) fun c s1 ⟨H1,I1,q1⟩=>?_);cases c with
 | true=>exact⟨H1,I1,q1⟩
 | false=>exact hb wh pins s1 σ H1 Q I1 q1
theorem z1(ha:PT X a tA):PT X (.UnaryOp .Not a pos) (zY tA):=by
 intro pins s σ H Q I h;exact isTrue_not (ha pins s σ H (fun c H1=>Q (!c) H1) I h)
def vc(ta tb:TE):TE:=fun σ H Q=>ta σ H fun x H1=>asB x fun c=>if c=true then tb σ H1 Q else Q (.bl false) H1
def z3(ta tb:TE):TE:=fun σ H Q=>ta σ H fun x H1=>asB x fun c=>if c=true then Q (.bl true) H1 else tb σ H1 Q
theorem z4{op}(h:PE X a t):PE X (.BoolOp op [a] pos) t:=fun pins s σ H Q I hw=>BoolOp_one (h pins s σ H Q I hw)
theorem z5(ha:PE X a ta)(hb:PE X (.BoolOp .And (b::rest) pos) tb):PE X (.BoolOp .And (a::b::rest) pos) (vc ta tb):=by
 intro pins s σ H Q I h;refine BoolOp_and (thn (ha pins s σ H _ I h) fun v s1 ⟨x,H1,I1,r1,q1⟩=>?_);obtain⟨c,rfl,q1⟩:=mC q1;cases r1;refine wpAny_truthy_bool ?_;cases c with
 | true=>exact hb pins s1 σ H1 Q I1 q1
 | false=>exact⟨.bl false,H1,I1,rfl,q1⟩
theorem BM(ha:PE X a ta)(hb:PE X (.BoolOp .Or (b::rest) pos) tb):PE X (.BoolOp .Or (a::b::rest) pos) (z3 ta tb):=by
 intro pins s σ H Q I h;refine BoolOp_or (thn (ha pins s σ H _ I h) fun v s1 ⟨x,H1,I1,r1,q1⟩=>?_);obtain⟨c,rfl,q1⟩:=mC q1;cases r1;refine wpAny_truthy_bool ?_;cases c with
 | false=>exact hb pins s1 σ H1 Q I1 q1
 | true=>exact⟨.bl true,H1,I1,rfl,q1⟩
end
def SqL(K:PySem.W.Frag)(H:Hp)(a:Addr)(xs:List V):Prop:=
 Rd H a (.lst xs)\/
  ∃(o:Obj) (its:Array Value) (n:Nat),K.lookup a=some o/\o.cls= .type "list"/\o.dict=none/\o.data= .seq its n/\its.size<=sizeLine/\aF xs its.toList
def SqT(K:PySem.W.Frag)(H:Hp)(a:Addr)(xs:List V):Prop:=
 Rd H a (.tup xs)\/
  ∃(o:Obj) (its:Array Value) (n:Nat),K.lookup a=some o/\o.cls= .type "tuple"/\o.data= .seq its n/\its.size<=sizeLine/\aF xs its.toList
noncomputable def absV:Value->Option V
 | .none=>some .non
 | .bool b=>some (.bl b)
 | .int i _=>some (.int i)
 | .str x _=>some (.str x)
 | .bytes b _=>some (.byt b)
 | .float b _=>some (.flt b)
 | .ref a=>some (.ref a)
 | .type n=>some (.ty n)
 | _=>none
theorem aJ.abs(r:aJ x u):absV u=some x:=by
 cases x with
 | non=>cases r;rfl
 | bl _=>cases r;rfl
 | int _=>obtain⟨t,rfl⟩:=r;rfl
 | str _=>obtain⟨t,rfl⟩:=r;rfl
 | byt _=>obtain⟨t,rfl⟩:=r;rfl
 | flt _=>obtain⟨t,rfl⟩:=r;rfl
 | ref _=>cases r;rfl
 | ty _=>cases r;rfl
theorem aJ.inj(r:aJ x u)(q:aJ y u):x=y:=Z9 (r.abs.symm.trans q.abs)
theorem aF.inj:∀{xs ys:List V} {us:List Value},aF xs us->aF ys us->xs=ys
 | _,_,_,.nil,.nil=>rfl
 | _,_,_,.cons r t,.cons r' t'=>by rw[r.inj r',aF.inj t t']
section
variable{X:Cx}{pins:List (Addr×Obj)}{σ:St}{H:Hp}{s:Shared}{a:Addr}{xs ys:List V}
theorem SqL.of{K:PySem.W.Frag}(h:H a=some (.lst xs)):SqL K H a xs:= .inl (.inl h)
theorem SqT.of{K:PySem.W.Frag}(h:H a=some (.tup xs)):SqT K H a xs:= .inl (.inl h)
theorem Inv.list(I:Inv X pins σ H s)(h:SqL X.K H a xs):∃its:List Value,aF xs its/\PlainL s.heap a its.toArray/\xs.length<=sizeLine:=by
 rcases h with h|⟨o,its,n,hk,hc,hd,hs,hz,r⟩
 ·obtain⟨z,its,n,r,e⟩:=h.ok I.hok;exact⟨its,r,⟨_,n,e,rfl,rfl,rfl⟩,z⟩
 ·refine⟨its.toList,r,⟨o,n,I.kIn a o hk,hc,hd,by simpa using hs⟩,?_⟩;have e:=r.length;simp only[Za]at e
  lia
theorem Inv.tuple(I:Inv X pins σ H s)(h:SqT X.K H a xs):∃its:List Value,aF xs its/\IsTup s.heap a its.toArray/\xs.length<=sizeLine:=by
 rcases h with h|⟨o,its,n,hk,hc,hs,hz,r⟩
 ·obtain⟨z,its,r,p⟩:=h.ok I.hok;exact⟨its,r,p,z⟩
 ·refine⟨its.toList,r,⟨o,I.kIn a o hk,hc,n,by simpa using hs⟩,?_⟩;have e:=r.length;simp only[Za]at e
  lia
theorem Inv.list_inj(I:Inv X pins σ H s)(h:SqL X.K H a xs)(h':SqL X.K H a ys):xs=ys:=by
 obtain⟨its,r,⟨o,n,e,_,_,d⟩,_⟩:=I.list h;obtain⟨its',r',⟨o',n',e',_,_,d'⟩,_⟩:=I.list h';rw[e]at e';cases e';rw[d]at d';injection d' with d1 _
 have:its=its':=by simpa using congrArg Array.toList d1
 subst this;exact r.inj r'
theorem Inv.tuple_inj(I:Inv X pins σ H s)(h:SqT X.K H a xs)(h':SqT X.K H a ys):xs=ys:=by
 obtain⟨its,r,⟨o,e,_,n,d⟩,_⟩:=I.tuple h;obtain⟨its',r',⟨o',e',_,n',d'⟩,_⟩:=I.tuple h';rw[e]at e';cases e';rw[d]at d';injection d' with d1 _
 have:its=its':=by simpa using congrArg Array.toList d1
 subst this;exact r.inj r'
end
noncomputable abbrev Cx.wish(X:Cx)(E:Value->Shared->Prop):Cx:={X with xe:=E}
noncomputable abbrev Cx.nox(X:Cx):Cx:=X.wish fun _ _=>False
theorem Cx.Ok.wish{X:Cx}(ok:X.Ok)(E:Value->Shared->Prop):(X.wish E).Ok:=
 ⟨ok.mod,ok.kind,ok.glob,ok.blt,ok.above,ok.inj,ok.has,ok.cab,ok.hd,ok.frames,ok.stk,ok.exf,ok.bs,ok.bsz,ok.noex,ok.exfs,ok.funs,ok.frf⟩
theorem Cx.Ok.unwish{X:Cx}{E:Value->Shared->Prop}(ok:(X.wish E).Ok):X.Ok:=
 ⟨ok.mod,ok.kind,ok.glob,ok.blt,ok.above,ok.inj,ok.has,ok.cab,ok.hd,ok.frames,ok.stk,ok.exf,ok.bs,ok.bsz,ok.noex,ok.exfs,ok.funs,ok.frf⟩
section
variable{X:Cx}{pins:List (Addr×Obj)}{σ:St}{H:Hp}{s:Shared}{E:Value->Shared->Prop}
theorem Inv.wish(I:Inv X pins σ H s)(E:Value->Shared->Prop):Inv (X.wish E) pins σ H s:=⟨I.ok.wish E,I.os,I.bare,I.base,I.loc,I.cell,I.free,I.freeC,I.pin,I.hok,I.len⟩
theorem Inv.unwish(I:Inv (X.wish E) pins σ H s):Inv X pins σ H s:=⟨I.ok.unwish,I.os,I.bare,I.base,I.loc,I.cell,I.free,I.freeC,I.pin,I.hok,I.len⟩
theorem SP.unwish{D:jb}{f:Flow}{s':Shared}(h:SP (X.wish E) pins D f s'):SP X pins D f s':=by
 cases f with
 | next=>obtain⟨σ',H',I,q⟩:=h;exact⟨σ',H',I.unwish,q⟩
 | brk=>obtain⟨σ',H',I,q⟩:=h;exact⟨σ',H',I.unwish,q⟩
 | cont=>obtain⟨σ',H',I,q⟩:=h;exact⟨σ',H',I.unwish,q⟩
 | ret u=>obtain⟨v,σ',H',I,r,q⟩:=h;exact⟨v,σ',H',I.unwish,r,q⟩
theorem PSs.nox{st:List Stmt}(h:PSs X.nox st t):PSs X st t:=fun pins s σ H D I hw=>
 wpAny_mono (h pins s σ H D (I.wish _) hw) (fun _ _ q=>q.unwish) fun _ _ z=>False.elim z
end
section
variable{X:Cx}{st:Stmt}{rest:List Stmt}{t u:TS}{e:Expr}{te:TE}{pos:Pos}
def vd:TS:=fun D σ H=>D.nx σ H
def bg(t u:TS):TS:=fun D σ H=>t {D with nx:=u D} σ H
theorem xU:PSs X [] vd:=fun _ _ σ H _ I h=>wpAny_execs_nil ⟨σ,H,I,h⟩
theorem ve(h1:PS X st t)(h2:PSs X rest u):PSs X (st::rest) (bg t u):=by
 intro pins s σ H D I h;refine wpAny_execs_cons (thn (h1 pins s σ H {D with nx:=u D} I h) fun f s1 q=>?_);cases f with
 | next=>
   obtain⟨σ',H',I',q⟩:=q;exact h2 pins s1 σ' H' D I' q
 | ret v=>exact q
 | brk=>exact q
 | cont=>exact q
theorem xV(h1:PS X st t):PSs X [st] t:=by
 intro pins s σ H D I h;refine wpAny_execs_cons (thn (h1 pins s σ H D I h) fun f s1 q=>?_);cases f with
 | next=>exact wpAny_execs_nil q
 | ret v=>exact q
 | brk=>exact q
 | cont=>exact q
theorem Inv.quiet{pins:List (Addr×Obj)}{σ:St}{H:Hp}{s:Shared}(I:Inv X pins σ H s):interactive X.env=false:=by simp[interactive,I.ok.kind]
def iz(te:TE):TS:=fun D σ H=>te σ H fun _ H1=>D.nx σ H1
theorem xW(he:PE X e te)(hs:swapsWith e none pos.line X.env=pure false):PS X (.Expr e pos) (iz te):=by
 intro pins s σ H D I h;exact wpAny_Expr_any (thn (he pins s σ H _ I h) fun v s1 ⟨x,H1,I1,r1,q1⟩=>⟨σ,H1,I1,q1⟩) I.quiet hs
def eM(te:TE):TS:=fun D σ H=>te σ H D.rt
theorem z6(he:PE X e te):PS X (.Return (some e) pos) (eM te):=by
 intro pins s σ H D I h;exact wpAny_Return_some (thn (he pins s σ H _ I h) fun v s1 ⟨x,H1,I1,r1,q1⟩=>⟨x,σ,H1,I1,r1,q1⟩)
def j2(c:TT)(t u:TS):TS:=fun D σ H=>c σ H fun b H1=>if b=true then t D σ H1 else u D σ H1
theorem BN{c:Expr}{a b:List Stmt}(hc:PT X c tc)(ha:PSs X a t)(hb:PSs X b u):PS X (.If c a b pos) (j2 tc t u):=by
 intro pins s σ H D I h;refine wpAny_If (thn (hc pins s σ H _ I h) fun d s1 ⟨H1,I1,q1⟩=>?_);cases d with
 | true=>exact ha pins s1 σ H1 D I1 q1
 | false=>exact hb pins s1 σ H1 D I1 q1
def vf:TS:=fun _ _ _=>False
theorem vg:PS X st vf:=fun _ _ _ _ _ _ h=>h.elim
end
noncomputable abbrev TG:=V->St->Hp->(St->Hp->Prop)->Prop
noncomputable abbrev TGs:=List V->St->Hp->(St->Hp->Prop)->Prop
def PG(X:Cx)(target:Expr)(t:TG):Prop:=
 ∀(pins:List (Addr×Obj)) (s:Shared) (σ:St) (H:Hp) (v:V) (u:Value) (Q:St->Hp->Prop),Inv X pins σ H s->aJ v u->t v σ H Q->
  wpAny (model X.prog X.w) X.A (assign target X.env u) (fun _ s'=>∃σ' H',Inv X pins σ' H' s'/\Q σ' H') X.xe s
def PGs(X:Cx)(ts:List Expr)(t:TGs):Prop:=
 ∀(pins:List (Addr×Obj)) (s:Shared) (σ:St) (H:Hp) (vs:List V) (us:List Value) (Q:St->Hp->Prop),Inv X pins σ H s->aF vs us->t vs σ H Q->
  wpAny (model X.prog X.w) X.A (assignInOrder ((assignEach ts X.env).map (·.2)) us) (fun _ s'=>∃σ' H',Inv X pins σ' H' s'/\Q σ' H') X.xe s
section
variable{X:Cx}{pos:Pos}
def jL(i:Nat):TG:=fun v σ H Q=>Q (σ.set i (some v)) H
theorem xX(hN:X.N.Nodup)(hi:X.N[i]? =some x)(hx:Loc X.env.scope x)(hf:X.fn x=true\/X.env.scope.names.lookup x=some .local):PG X (.Name x pos) (jL i):=by
 intro pins s σ H v u Q I r h;exact wpAny_assign_Name (kD I hN hi hx r (fun s' I'=>⟨_,H,I',h⟩) hf)
def z7:TGs:=fun vs σ H Q=>vs=[]/\Q σ H
def vh(t:TG)(u:TGs):TGs:=fun vs σ H Q=>∃v r,vs=v::r/\t v σ H fun σ' H'=>u r σ' H' Q
theorem xY:PGs X [] z7:=by
 intro pins s σ H vs us Q I r h;obtain⟨e,h⟩:=h;subst e;cases r;exact assignInOrder_nil ⟨σ,H,I,h⟩
theorem vk{e:Expr}{u:TGs}(h1:PG X e t)(h2:PGs X es u)
 (hs:(assignEach (e::es) X.env).map (·.2)=assign e X.env::(assignEach es X.env).map (·.2)):PGs X (e::es) (vh t u):=by
 intro pins s σ H vs us Q I r h;obtain⟨v,vr,e1,h⟩:=h;subst e1;cases r with
 | cons r rr=>
   rw[hs];refine assignInOrder_cons (thn (h1 pins s σ H _ _ _ I r h) fun _ s1 ⟨σ1,H1,I1,q1⟩=>?_);exact h2 pins s1 σ1 H1 _ _ Q I1 rr q1
def xZ(K:PySem.W.Frag)(n:Nat)(t:TGs):TG:=fun v σ H Q=>asR v fun a=>∃xs,SqT K H a xs/\xs.length=n/\t xs σ H Q
theorem z8(hc:X.calm=true)(h:PGs X es t)
 (hn:(assignEach es X.env).length=n) (hst:(assignEach es X.env).findIdx? (·.1)=none):PG X (.Tuple es k pos) (xZ X.K n t):=by
 intro pins s σ H v u Q I r hw;obtain⟨a,e1,xs,hq,hl,hw⟩:=dM hw;clear ‹xZ _ _ _ _ _ _ _›;subst e1;cases r;obtain⟨its,rv,ht,hz⟩:=I.tuple hq;refine assign_Tuple_tuple (I.ok.hd hc) ht (by simp[hn,<-hl,rv.length]) hst fun h' hx=>?_
 have I1:Inv X pins σ H {s with heap:=h'}:=I.kept (t':=s.toks) fun b o e=>hx b o (Zr (Zt e)) e
 exact h pins _ σ H xs _ Q I1 (by simpa using rv) hw
def oN(te:TE)(g:TG):TS:=fun D σ H=>te σ H fun x H1=>g x σ H1 D.nx
theorem z9{tg e:Expr}{g:TG}(he:PE X e te)(hg:PG X tg g)(hs:swapsWithSole [tg] e pos.line X.env=pure false)(hw:swappedStores [tg] e X.env=pure none)
 (h1:(assignEach [tg] X.env).map (·.2)=[assign tg X.env]):PS X (.Assign [tg] e pos) (oN te g):=by
 intro pins s σ H D I h;refine wpAny_Assign_stores (thn (he pins s σ H _ I h) fun v s1 ⟨x,H1,I1,r1,q1⟩=>?_) hs hw;rw[h1];exact thn (hg pins s1 σ H1 x v _ I1 r1 q1) fun _ s2 q=>q
theorem vm{i:Nat}{x:Str}{e:Expr}(hN:X.N.Nodup)(hi:X.N[i]? =some x)(hx:Loc X.env.scope x)(he:PE X e te)(hs:swapsWith e (some (.Name x pos')) pos.line X.env=pure false)(hf:X.fn x=true\/X.env.scope.names.lookup x=some .local):
 PS X (.Assign [.Name x pos'] e pos) (oN te (jL i)):=by
 intro pins s σ H D I h;refine wpAny_Assign_Name (thn (he pins s σ H _ I h) fun v s1 ⟨y,H1,I1,r1,q1⟩=>?_) hs;exact kD I1 hN hi hx r1 (fun s2 I2=>⟨_,H1,I2,q1⟩) hf
end
section
variable{X:Cx}{pos:Pos}
def vo(c:TT)(tb:TS):TS:=fun D σ H=>∃W:Nat->St->Hp->Prop,(∃m,W m σ H)/\∀m σ H,W m σ H->
 c σ H fun b H1=>if b=true then∃N:St->Hp->Prop,(∀σ' H',N σ' H'->∃m',m'<m/\W m' σ' H')/\tb {D with nx:=N,ct:=N,bk:=D.nx} σ H1 else D.nx σ H1
theorem vp(hp:PassesOwn (model X.prog X.w) X.A X.env X.xe)(hc:PT X c tc)(hb:PSs X body tb):PS X (.While c body [] pos) (vo tc tb):=by
 intro pins s σ H D I h;obtain⟨W,⟨m0,w0⟩,turn⟩:=h;refine wpAny_While (codeAny_whileLoop (fun n s'=>∃σ' H',Inv X pins σ' H' s'/\W n σ' H') ?_ m0 ⟨σ,H,I,w0⟩);rintro n s1 ⟨σ1,H1,I1,w1⟩;refine wpAny_passesOwn hp (thn (hc pins s1 σ1 H1 _ I1 (turn n σ1 H1 w1)) fun b s2 ⟨H2,I2,q2⟩=>?_);cases b with
 | true=>
   obtain⟨N,hN,q2⟩:=q2;rw[if_pos rfl];refine wpAny_passesOwn hp (thn (hb pins s2 σ1 H2 _ I2 q2) fun f s3 q3=>?_);cases f with
   | next=>
     obtain⟨σ3,H3,I3,n3⟩:=q3;obtain⟨m',hm,w3⟩:=hN σ3 H3 n3;exact⟨m',hm,σ3,H3,I3,w3⟩
   | cont=>
     obtain⟨σ3,H3,I3,n3⟩:=q3;obtain⟨m',hm,w3⟩:=hN σ3 H3 n3;exact⟨m',hm,σ3,H3,I3,w3⟩
   | brk=>exact q3
   | ret v=>exact q3
 | false=>
   rw[if_neg Zs];exact wpAny_execs_nil ⟨σ1,H2,I2,q2⟩
end
structure It where
 go:Nat->Hp->Prop
 yld:Nat->Hp->V->Hp->Prop
 stop:Nat->Hp->Prop
def j3(X:Cx)(pins:List (Addr×Obj))(H:Hp)(b:Addr):Prop:=
 H b=none/\b≠X.env.locals/\b∉X.fs/\(b∈X.ex\/X.s₀.heap.objs.size<=b)/\(∀x c,X.env.cells.lookup x=some c->c≠b)/\∀p∈X.pn++pins,p.1≠b
theorem Inv.fpOk{X:Cx}(I:Inv X pins σ H s)(hb:s.heap.objs.size<=b)(hn:H' b=none):j3 X pins H' b:=by
 refine⟨hn,Yp (Zf I.lt hb),I.nofs hb,.inr (Y8 I.sz hb),fun x c e z=>?_,fun p hp z=>?_⟩
 ·obtain⟨v,q⟩:=I.cell x c e;exact absurd (Zf q.lt (by rw[z];exact hb)) (X4 _)
 ·exact absurd (Zf (Zt (I.pin p hp).1) (by rw[z];exact hb)) (X4 _)
structure nv (P:Program) (w:World) (K:PySem.W.Frag) (tg:Expr) (J:It) (fp:List Addr) (it:Addr) (tn:Nat->Heap->Prop):Prop where
 mem:it∈fp
 obj:∀i h,tn i h->∀b∈fp,∃o,h.get? b=some o/\∀v,o.data≠ .cell v
 keep:∀i h h',tn i h->(∀b∈fp,∀o,h.get? b=some o->h'.get? b=some o)->tn i h'
 item:∀(X:Cx),X.prog=P->X.w=w->X.K=K->X.calm=true->∀(i:Nat) (pins:List (Addr×Obj)) (s:Shared) (σ:St) (H:Hp) (E:Value->Shared->Prop),Inv X pins σ H s->(∀b∈fp,j3 X pins H b)->tn i s.heap->J.go i H->
  wpAny (model P w) X.A (pyNext (.ref it)) (fun r s1=>∃u,r=some u/\
   wpAny (model P w) X.A (letOwnedTupleGo tg (.ref it) u) (fun _ s2=>∃x H',Inv X pins σ H' s2/\aJ x u/\J.yld i H x H'/\tn (i+1) s2.heap/\∀b∈fp,H' b=none) E s1) E s
 done:∀(X:Cx),X.prog=P->X.w=w->X.K=K->X.calm=true->∀(i:Nat) (pins:List (Addr×Obj)) (s:Shared) (σ:St) (H:Hp) (E:Value->Shared->Prop),Inv X pins σ H s->(∀b∈fp,j3 X pins H b)->tn i s.heap->J.stop i H->
  wpAny (model P w) X.A (pyNext (.ref it)) (fun r s1=>r=none/\Inv X pins σ H s1) E s
 self:∀(A:Around) (i:Nat) (s:Shared) (Q:Value->Shared->Prop) (E:Value->Shared->Prop),tn i s.heap->Q (.ref it) s->wpAny (model P w) A (pyIter (.ref it)) Q E s
noncomputable abbrev TI:=St->Hp->(It->Hp->Prop)->Prop
def PIE(X:Cx)(pins:List (Addr×Obj))(σ:St)(tg:Expr)(R:It->Hp->Prop)(itv:Value)(s2:Shared):Prop:=
 ∃(it:Addr) (fp:List Addr) (tn:Nat->Heap->Prop) (J:It) (H':Hp),itv= .ref it/\Inv X pins σ H' s2/\nv X.prog X.w X.K tg J fp it tn/\tn 0 s2.heap/\(∀b∈fp,j3 X pins H' b)/\R J H'
def PI(X:Cx)(tg bx:Expr)(wi:TI):Prop:=
 ∀(pins:List (Addr×Obj)) (s:Shared) (σ:St) (H:Hp) (R:It->Hp->Prop),Inv X pins σ H s->wi σ H R->
  wpAny (model X.prog X.w) X.A (eval bx X.env) (fun v s1=>wpAny (model X.prog X.w) X.A (pyIter v) (PIE X pins σ tg R) X.xe s1) X.xe s
theorem oO(ho:s.heap.get? it=some o)(hc:o.cls= .type n)(hd:o.data= .fields vs)
 (hn:["enumerate","zip","dict_itemiterator","dict_reverseitemiterator","odict_iterator","itertools.zip_longest","itertools.pairwise"].contains n=false) (hQ:Q () s):wpAny M A (letOwnedTupleGo tg (.ref it) u) Q E s:=by
 unfold letOwnedTupleGo;cases tg<;> first
  | exact Z3 hQ
  |(cases u<;> first
   | exact Z3 hQ
   |(refine Z2 (wpAny_load ho ?_)
     rw[hc,hd];show wpAny M A (if(["enumerate","zip","dict_itemiterator","dict_reverseitemiterator","odict_iterator","itertools.zip_longest","itertools.pairwise"].contains n&&vs[0]? ==some (rawInt _))=true then _ else _) Q E s;rw[if_neg (by intro h;rw[hn,Bool.false_and]at h;cases h)];exact Z3 hQ))
noncomputable def Itl(K:PySem.W.Frag)(a:Addr):It:=
 ⟨fun i H=>∃xs x,SqL K H a xs/\xs[i]? =some x,fun i H x H'=>H'=H/\∀xs,SqL K H a xs->xs[i]? =some x,fun i H=>∃xs,SqL K H a xs/\xs.length<=i⟩
noncomputable def Itt(K:PySem.W.Frag)(a:Addr):It:=
 ⟨fun i H=>∃xs x,SqT K H a xs/\xs[i]? =some x,fun i H x H'=>H'=H/\∀xs,SqT K H a xs->xs[i]? =some x,fun i H=>∃xs,SqT K H a xs/\xs.length<=i⟩
noncomputable def Itr(lo:Int)(n:Nat):It:=⟨fun i _=>i<n,fun i H x H'=>H'=H/\x= .int (lo+i),fun i _=>n<=i⟩
theorem sR{P:Program}{K:PySem.W.Frag}(a it:Addr):nv P w K tg (Itl K a) [it] it (fun i h=>h.IsListIter it a i) where
 mem:=by simp
 obj:=fun i h st b hb=>by
  have e:b=it:=by simpa using hb
  subst e;obtain⟨o,e,c,d⟩:=st;exact⟨o,e,fun v z=>by rw[d]at z;cases z⟩
 keep:=fun i h h' st k=>st.at fun o e=>k it (by simp) o e
 item:=by
  intro X hP hw hK hc i pins s σ H E I hf st hg;subst hP hw hK;obtain⟨xs,x,hq,hx⟩:=hg;obtain⟨its,rv,p,hz⟩:=I.list hq;obtain⟨u,hu,ru⟩:=rv.get hx;obtain⟨f0,f1,f2,f3,f4,f5⟩:=hf it (by simp);refine wpAny_pyNext_list_item st p.isList (x:=u) (by simpa using hu) fun h' st' sb=>?_
  have I1:Inv X pins σ H {s with heap:=h'}:=I.turned (t':=s.toks) (fun b o hb e=>(sb.2 b hb).trans e) f0 f1 f3 f4 f5;obtain⟨o,e,c,d⟩:=id st';exact⟨u,rfl,oO (s:={s with heap:=h'}) e c d (by decide) ⟨x,H,I1,ru,⟨rfl,fun ys hy=>by rw[I.list_inj hy hq];exact hx⟩,st',fun b hb=>(hf b hb).1⟩⟩
 done:=by
  intro X hP hw hK hc i pins s σ H E I hf st hg;subst hP hw hK;obtain⟨xs,hq,hx⟩:=hg;obtain⟨its,rv,p,hz⟩:=I.list hq;obtain⟨f0,f1,f2,f3,f4,f5⟩:=hf it (by simp);have hl:=rv.length;exact wpAny_pyNext_list_end (I.ok.hd hc) st p.isList (by simp;lia) fun h' eb=>⟨rfl,I.turned (t':=s.toks) (fun b o hb e=>eb b o hb e) f0 f1 f3 f4 f5⟩
 self:=fun _ _ _ _ _ st h=>wpAny_pyIter_listiter st h
theorem qo{P:Program}{K:PySem.W.Frag}(a it:Addr):nv P w K tg (Itt K a) [it] it (fun i h=>h.IsTupleIter it a i) where
 mem:=by simp
 obj:=fun i h st b hb=>by
  have e:b=it:=by simpa using hb
  subst e;obtain⟨o,e,c,d⟩:=st;exact⟨o,e,fun v z=>by rw[d]at z;cases z⟩
 keep:=fun i h h' st k=>st.at fun o e=>k it (by simp) o e
 item:=by
  intro X hP hw hK hc i pins s σ H E I hf st hg;subst hP hw hK;obtain⟨xs,x,hq,hx⟩:=hg;obtain⟨its,rv,p,hz⟩:=I.tuple hq;obtain⟨u,hu,ru⟩:=rv.get hx;obtain⟨f0,f1,f2,f3,f4,f5⟩:=hf it (by simp);refine wpAny_pyNext_tuple_item st (show s.heap.IsTuple a its.toArray from p) (x:=u) (by simpa using hu) fun h' st' sb=>?_
  have I1:Inv X pins σ H {s with heap:=h'}:=I.turned (t':=s.toks) (fun b o hb e=>(sb.2 b hb).trans e) f0 f1 f3 f4 f5;obtain⟨o,e,c,d⟩:=id st';exact⟨u,rfl,oO (s:={s with heap:=h'}) e c d (by decide) ⟨x,H,I1,ru,⟨rfl,fun ys hy=>by rw[I.tuple_inj hy hq];exact hx⟩,st',fun b hb=>(hf b hb).1⟩⟩
 done:=by
  intro X hP hw hK hc i pins s σ H E I hf st hg;subst hP hw hK;obtain⟨xs,hq,hx⟩:=hg;obtain⟨its,rv,p,hz⟩:=I.tuple hq;obtain⟨f0,f1,f2,f3,f4,f5⟩:=hf it (by simp);have hl:=rv.length;exact wpAny_pyNext_tuple_end (I.ok.hd hc) st (show s.heap.IsTuple a its.toArray from p) (by simp;lia) fun h' eb=>⟨rfl,I.turned (t':=s.toks) (fun b o hb e=>eb b o hb e) f0 f1 f3 f4 f5⟩
 self:=fun _ _ _ _ _ st h=>wpAny_pyIter_tupleiter st h
theorem qp{P:Program}{K:PySem.W.Frag}(it:Addr)(lo:Int)(n:Nat):nv P w K tg (Itr lo n) [it] it (fun i h=>IsRangeIter h it (lo+(i:Nat)*1) ((n:Int) -(i:Nat)) 1) where
 mem:=by simp
 obj:=fun i h st b hb=>by
  have e:b=it:=by simpa using hb
  subst e;exact⟨_,st,fun v z=>by
   have z':Data.fields _=Data.cell v:=z;cases z'⟩
 keep:=fun i h h' st k=>k it (by simp) _ st
 item:=by
  intro X hP hw hK hc i pins s σ H E I hf st hg;subst hP hw hK;obtain⟨f0,f1,f2,f3,f4,f5⟩:=hf it (by simp);have W:=Walks.range (prog:=X.prog) (w:=X.w) (I.ok.hd hc) it lo 1 n;refine W.item i s _ _ hg st fun v h' tk hv st' kk=>?_
  obtain⟨t,rfl⟩:=hv;have I1:Inv X pins σ H {s with heap:=h',toks:=tk}:=I.turned (fun b o hb e=>kk b o (by simpa using hb) e) f0 f1 f3 f4 f5;refine⟨_,rfl,oO (s:={s with heap:=h',toks:=tk}) (n:="range_iterator") st' rfl rfl (by decide) ⟨.int (lo+i),H,I1,⟨t,?_⟩,⟨rfl,rfl⟩,st',fun b hb=>(hf b hb).1⟩⟩;rw[Int.mul_one]
 done:=by
  intro X hP hw hK hc i pins s σ H E I hf st hg;subst hP hw hK;obtain⟨f0,f1,f2,f3,f4,f5⟩:=hf it (by simp);exact wpAny_pyNext_range_end (I.ok.hd hc) st (by have:n<=i:=hg;lia) fun h' eb=>⟨rfl,I.turned (t':=s.toks) (fun b o hb e=>eb b o hb e) f0 f1 f3 f4 f5⟩
 self:=fun _ _ _ _ _ st h=>wpAny_pyIter_rangeiter st h
section
variable{X:Cx}{tg:Expr}
theorem vq{R:It->Hp->Prop}{lo hi:Int}(I:Inv X pins σ H s)(h1: -(2^62)<=lo)(h2:lo<2^62)(h3: -(2^62)<=hi)(h4:hi<2^62)
 (q:R (Itr lo (hi-lo).toNat) H):wpAny (model X.prog X.w) X.A (pyIter (.ref s.heap.objs.size)) (PIE X pins σ tg R) E {s with heap:=s.heap.push {cls:= .type "range",data:= .fields #[.int lo t,.int hi u,.int 1 v]},toks:=tk}:=by
 refine wpAny_pyIter_range (IsRange.new ..) (small_one h1 h2 h3 h4) ?_;have I1:Inv X pins σ H {s with heap:=s.heap.push {cls:= .type "range",data:= .fields #[.int lo t,.int hi u,.int 1 v]},toks:=tk}:=I.kept fun b o e=>Z6 _ e
 refine⟨(s.heap.push {cls:= .type "range",data:= .fields #[.int lo t,.int hi u,.int 1 v]}).objs.size,[(s.heap.push {cls:= .type "range",data:= .fields #[.int lo t,.int hi u,.int 1 v]}).objs.size],_,_,H,rfl,
  I1.kept (t':=tk) fun b o e=>Z6 _ e,qp _ lo (hi-lo).toNat,?_,fun b hb=>?_,q⟩
 ·have e1:lo+((0:Nat):Int)*1=lo:=by simp
  have e2:(((hi-lo).toNat:Nat):Int) -((0:Nat):Int)=Builtin.Range.rangeSize lo hi 1:=by rw[rangeSize_one];split<;> lia
  show IsRangeIter _ _ (lo+((0:Nat):Int)*1) ((((hi-lo).toNat:Nat):Int) -((0:Nat):Int)) 1;rw[e1,e2];exact Zi _ rfl
 ·have e:b=(s.heap.push {cls:= .type "range",data:= .fields #[.int lo t,.int hi u,.int 1 v]}).objs.size:=by simpa using hb
  subst e;exact I1.fpOk (Zh _) (I1.hok.fresh (Zh _))
def vt(ta:TA):TI:=fun σ H R=>ta σ H fun vs H1=>∃j:Int,vs=[.int j]/\ -(2^62)<=j/\j<2^62/\R (Itr 0 j.toNat) H1
theorem sS{a:Expr}(hg:Gl X "range")(hm:X.mg "range"=none)(ha:PA X [a] ta)(hs:starEach [a] X.env=[(false,eval a X.env)]):PI X tg (.Call (.Name "range" p) [a] [] pos) (vt ta):=by
 intro pins s σ H R I h;refine Call_ (gY I hg hm boot_range (PyProof.Rows.callWith_type1 (thn (ha pos pins s σ H _ I h) fun us s1 ⟨vs,H1,I1,r1,q1⟩=>?_) hs rfl));obtain⟨j,e,q1,q2,q⟩:=q1;subst e;cases r1 with
 | cons r rr=>
   cases rr;obtain⟨t,rfl⟩:=r;exact call_range_1 (vq I1 (by lia) (by lia) q1 q2 (by simpa using q))
def vv(wi:TI)(g:TG)(tb:TS):TS:=fun D σ H=>wi σ H fun J H1=>∃W:Nat->Nat->St->Hp->Prop,(∃m,W 0 m σ H1)/\∀i m σ H,W i m σ H->
 (J.stop i H/\D.nx σ H)\/(J.go i H/\∃N:St->Hp->Prop,(∀σ' H',N σ' H'->∃m',m'<m/\W (i+1) m' σ' H')/\∀x H',J.yld i H x H'->g x σ H' fun σ2 H2=>tb {D with nx:=N,ct:=N,bk:=D.nx} σ2 H2)
noncomputable def jc(fp:List Addr)(h:Heap):List (Addr×Obj):=fp.filterMap fun b=>(h.get? b).map fun o=>(b,o)
theorem dN(hb:b∈fp)(e:h.get? b=some o):(b,o)∈jc fp h:=mem_filterMap.mpr ⟨b,hb,by rw[e];rfl⟩
theorem sT(hp:p∈jc fp h):p.1∈fp/\h.get? p.1=some p.2:=by
 obtain⟨b,hb,e⟩:=mem_filterMap.mp hp;cases q:h.get? b with
 | none=>rw[q]at e;cases e
 | some o=>
   rw[q]at e;have e':(b,o)=p:=Z9 e;subst e';exact⟨hb,q⟩
theorem Inv.pinned(I:Inv X pins σ H s)(hf:∀b∈fp,j3 X pins H b)(ho:∀b∈fp,∃o,s.heap.get? b=some o/\∀v,o.data≠ .cell v):Inv X (pins++jc fp s.heap) σ H s:=
 I.pins_of fun p hp=>(X7 hp).elim (fun z=>I.pin p (Ym _ z)) fun z=>by
  obtain⟨hb,e⟩:=sT z;obtain⟨f0,f1,f2,_⟩:=hf p.1 hb;obtain⟨o,e',d⟩:=ho p.1 hb;rw[e]at e';cases e';exact⟨e,f0,f1,f2,d⟩
theorem Inv.unpinned(I:Inv X (pins++pl) σ H s):Inv X pins σ H s:=I.pins_of fun p hp=>I.pin p (Ym _ (Yl _ hp))
theorem Aa(hp:PassesOwn (model X.prog X.w) X.A X.env X.xe)(hc:X.calm=true)(hi:PI X tg bx wi)(hg:PG X tg g)(hb:PSs X body tb)
 (hs:∀x,foldedSetIterable bx X.env x=pure x):PS X (.For tg bx body [] pos) (vv wi g tb):=by
 intro pins s σ H D I h;refine wpAny_For (thn (hi pins s σ H _ I h) fun v s1 h1=>thn h1 fun itv s2 h2=>?_) hs;obtain⟨it,fp,tn,J,H2,e,I2,T,st2,f2,W,⟨m0,w0⟩,turn⟩:=h2;subst e;have stat:∀{H':Hp},(∀b∈fp,H' b=none)->∀b∈fp,j3 X pins H' b:=fun hn b hb=>⟨hn b hb,(f2 b hb).2⟩
 refine codeAny_forLoop_any (fun n s'=>∃i σ' H',Inv X pins σ' H' s'/\tn i s'.heap/\(∀b∈fp,H' b=none)/\W i n σ' H') ?_ m0 ⟨0,σ,H2,I2,st2,fun b hb=>(f2 b hb).1,w0⟩;rintro n s3 ⟨i,σ3,H3,I3,st3,fr3,w3⟩;rcases turn i n σ3 H3 w3 with⟨stop,qn⟩|⟨go,N,hN,step⟩
 ·refine wpAny_passesOwn hp (thn (T.done X rfl rfl rfl hc i pins s3 σ3 H3 X.xe I3 (stat fr3) st3 stop) fun r s4 ⟨hr,I4⟩=>?_);subst hr;exact wpAny_execs_nil ⟨σ3,H3,I4,qn⟩
 ·refine wpAny_passesOwn hp (thn (T.item X rfl rfl rfl hc i pins s3 σ3 H3 X.xe I3 (stat fr3) st3 go) fun r s4 ⟨u,hr,h4⟩=>?_);subst hr;refine wpAny_passesOwn hp (thn h4 fun _ s5 ⟨x,H5,I5,r5,y5,st5,fr5⟩=>?_);have I5':=I5.pinned (stat fr5) (T.obj _ _ st5);refine wpAny_passesOwn hp (thn (hg _ s5 σ3 H5 x u _ I5' r5 (step x H5 y5)) fun _ s6 ⟨σ6,H6,I6,q6⟩=>?_);refine wpAny_passesOwn hp (thn (hb _ s6 σ6 H6 _ I6 q6) fun f s7 q7=>?_);have again:∀{σ7:St} {H7:Hp},Inv X (pins++jc fp s5.heap) σ7 H7 s7->N σ7 H7->∃m,m<n/\∃i σ' H',Inv X pins σ' H' s7/\tn i s7.heap/\(∀b∈fp,H' b=none)/\W i m σ' H':=fun{σ7 H7} I7 n7=>by
   obtain⟨m',hm,w7⟩:=hN σ7 H7 n7;refine⟨m',hm,i+1,σ7,H7,I7.unpinned,T.keep _ _ _ st5 fun b hb o e=>(I7.pin (b,o) (Ym _ (Ym _ (dN hb e)))).1,fun b hb=>?_,w7⟩;obtain⟨o,e,d⟩:=T.obj _ _ st5 b hb;exact(I7.pin (b,o) (Ym _ (Ym _ (dN hb e)))).2.1
  cases f with
  | next=>obtain⟨σ7,H7,I7,n7⟩:=q7;exact again I7 n7
  | cont=>obtain⟨σ7,H7,I7,n7⟩:=q7;exact again I7 n7
  | brk=>obtain⟨σ7,H7,I7,q7⟩:=q7;exact⟨σ7,H7,I7.unpinned,q7⟩
  | ret v=>obtain⟨x7,σ7,H7,I7,r7,q7⟩:=q7;exact⟨x7,σ7,H7,I7.unpinned,r7,q7⟩
end
theorem bd{K:PySem.W.Frag}{g:TG}{tb:TS}{D:jb}(Pv:Nat->St->Hp->Prop)(h0:Pv 0 σ H)(hl:∀i σ H,i<=xs.length->Pv i σ H->SqL K H a xs)
 (hs:∀i x σ H,xs[i]? =some x->Pv i σ H->g x σ H fun σ2 H2=>tb {D with nx:=Pv (i+1),ct:=Pv (i+1),bk:=D.nx} σ2 H2) (hd:∀σ H,Pv xs.length σ H->D.nx σ H):
 ∃W:Nat->Nat->St->Hp->Prop,(∃m,W 0 m σ H)/\∀i m σ H,W i m σ H->
  ((Itl K a).stop i H/\D.nx σ H)\/((Itl K a).go i H/\∃N:St->Hp->Prop,(∀σ' H',N σ' H'->∃m',m'<m/\W (i+1) m' σ' H')/\∀x H',(Itl K a).yld i H x H'->g x σ H' fun σ2 H2=>tb {D with nx:=N,ct:=N,bk:=D.nx} σ2 H2):=by
 refine⟨fun i m σ H=>m=xs.length-i/\i<=xs.length/\Pv i σ H,⟨xs.length,by simp,X0 _,h0⟩,?_⟩;rintro i m σ H ⟨rfl,hi,p⟩;have q:=hl i σ H hi p;by_cases hlt:i<xs.length
 ·refine .inr ⟨⟨xs,xs[i],q,by simp[hlt]⟩,Pv (i+1),fun σ' H' p'=>⟨xs.length-(i+1),by lia,rfl,hlt,p'⟩,fun x H' y=>?_⟩;obtain⟨e,y⟩:=y;subst e;exact hs i x σ _ (y xs q) p
 ·have e:i=xs.length:=by lia
  subst e;exact .inl ⟨⟨xs,q,Zh _⟩,hd σ H p⟩
theorem cP{lo:Int}{g:TG}{tb:TS}{D:jb}(Pv:Nat->St->Hp->Prop)(h0:Pv 0 σ H)
 (hs:∀i σ H,i<n->Pv i σ H->g (.int (lo+i)) σ H fun σ2 H2=>tb {D with nx:=Pv (i+1),ct:=Pv (i+1),bk:=D.nx} σ2 H2) (hd:∀σ H,Pv n σ H->D.nx σ H):
 ∃W:Nat->Nat->St->Hp->Prop,(∃m,W 0 m σ H)/\∀i m σ H,W i m σ H->
  ((Itr lo n).stop i H/\D.nx σ H)\/((Itr lo n).go i H/\∃N:St->Hp->Prop,(∀σ' H',N σ' H'->∃m',m'<m/\W (i+1) m' σ' H')/\∀x H',(Itr lo n).yld i H x H'->g x σ H' fun σ2 H2=>tb {D with nx:=N,ct:=N,bk:=D.nx} σ2 H2):=by
 refine⟨fun i m σ H=>m=n-i/\i<=n/\Pv i σ H,⟨n,by simp,X0 _,h0⟩,?_⟩;rintro i m σ H ⟨rfl,hi,p⟩;by_cases hlt:i<n
 ·refine .inr ⟨hlt,Pv (i+1),fun σ' H' p'=>⟨n-(i+1),by lia,rfl,hlt,p'⟩,fun x H' y=>?_⟩;obtain⟨e,y⟩:=y;subst e y;exact hs i σ _ hlt p
 ·have e:i=n:=by lia
  subst e;exact .inl ⟨Zh _,hd σ H p⟩
noncomputable abbrev R2:=V->V->Hp->VK->Prop
def OpR(X:Cx)(f:Value->Value->Sem Value)(r:R2):Prop:=
 ∀(pins:List (Addr×Obj)) (s:Shared) (σ:St) (H:Hp) (x y:V) (v u:Value) (Q:VK),Inv X pins σ H s->aJ x v->aJ y u->r x y H Q->
  wpAny (model X.prog X.w) X.A (f v u) (EP X pins σ Q) X.xe s
def UnR(X:Cx)(f:Value->Sem Value)(r:V->Hp->VK->Prop):Prop:=
 ∀(pins:List (Addr×Obj)) (s:Shared) (σ:St) (H:Hp) (x:V) (v:Value) (Q:VK),Inv X pins σ H s->aJ x v->r x H Q->
  wpAny (model X.prog X.w) X.A (f v) (EP X pins σ Q) X.xe s
def bN(X:Cx)(f:Value)(r:List V->Hp->VK->Prop):Prop:=
 ∀(pins:List (Addr×Obj)) (s:Shared) (σ:St) (H:Hp) (xs:List V) (us:List Value) (Q:VK),Inv X pins σ H s->aF xs us->r xs H Q->
  wpAny (model X.prog X.w) X.A (call f us) (EP X pins σ Q) X.xe s
def TruR(X:Cx)(r:V->Hp->(Bool->Hp->Prop)->Prop):Prop:=
 ∀(pins:List (Addr×Obj)) (s:Shared) (σ:St) (H:Hp) (x:V) (v:Value) (Q:Bool->Hp->Prop),Inv X pins σ H s->aJ x v->r x H Q->
  wpAny (model X.prog X.w) X.A (truthy v) (TP X pins σ Q) X.xe s
def tOp(r:R2)(ta tb:TE):TE:=fun σ H Q=>ta σ H fun x H1=>tb σ H1 fun y H2=>r x y H2 Q
def tUn(r:V->Hp->VK->Prop)(ta:TE):TE:=fun σ H Q=>ta σ H fun x H1=>r x H1 Q
def rI(C:Int->Int->Prop)(g:Int->Int->V):R2:=fun x y H Q=>asI x fun i=>asI y fun j=>C i j/\Q (g i j) H
def rI0(g:Int->Int->V):R2:=fun x y H Q=>asI x fun i=>asI y fun j=>Q (g i j) H
def rU(g:Int->V):V->Hp->VK->Prop:=fun x H Q=>asI x fun i=>Q (g i) H
section
variable{X:Cx}{a b c:Expr}{ta tb tc:TE}{pos:Pos}
theorem Ab(ha:PE X a ta)(hb:PE X b tb){pins:List (Addr×Obj)}{s:Shared}{σ:St}{H:Hp}{R:V->V->Hp->Prop}(I:Inv X pins σ H s)
 (h:ta σ H fun x H1=>tb σ H1 fun y H2=>R x y H2) {Q:Value->Shared->Prop} {f:Value->Value->Sem Value}
 (hf:∀v u s2 x y H2,Inv X pins σ H2 s2->aJ x v->aJ y u->R x y H2->wpAny (model X.prog X.w) X.A (f v u) Q X.xe s2):
 wpAny (model X.prog X.w) X.A (eval a X.env) (fun v s₁=>wpAny (model X.prog X.w) X.A (eval b X.env) (fun u s₂=>wpAny (model X.prog X.w) X.A (f v u) Q X.xe s₂) X.xe s₁) X.xe s:=by
 refine thn (ha pins s σ H _ I h) fun v s1 ⟨x,H1,I1,r1,q1⟩=>?_
 refine thn (hb pins s1 σ H1 _ I1 q1) fun u s2 ⟨y,H2,I2,r2,q2⟩=>?_
 exact hf v u s2 x y H2 I2 r1 r2 q2
theorem BO{r:R2}(ho:OpR X (binaryOp op) r)(ha:PE X a ta)(hb:PE X b tb):PE X (.BinOp a op b pos) (tOp r ta tb):=by
 intro pins s σ H Q I h;exact wpAny_BinOp (Ab ha hb I h fun v u s2 x y H2 I2 rx ry q=>ho pins s2 σ H2 x y v u Q I2 rx ry q)
theorem BP(ho:UnR X (unaryOp op) r)(ha:PE X a ta):PE X (.UnaryOp op a pos) (tUn r ta):=by
 intro pins s σ H Q I h;exact UnaryOp_ (thn (ha pins s σ H _ I h) fun v s1 ⟨x,H1,I1,r1,q1⟩=>ho pins s1 σ H1 x v Q I1 r1 q1)
theorem opI{f:Value->Value->Sem Value}{C:Int->Int->Prop}{g:Int->Int->Int}
 (rule:∀(i j:Int) (t u:Tok) (s:Shared) (Q:Value->Shared->Prop) (E:Value->Shared->Prop),C i j->Q (.int (g i j) s.toks) {s with toks:=s.toks+1}->wpAny (model X.prog X.w) X.A (f (.int i t) (.int j u)) Q E s):
 OpR X f (rI C fun i j=> .int (g i j)):=by
 intro pins s σ H x y v u Q I rx ry h;obtain⟨i,rfl,h2⟩:=fN h;obtain⟨j,rfl,hc,q⟩:=fN h2;obtain⟨t,rfl⟩:=rx;obtain⟨t',rfl⟩:=ry;exact rule i j t t' s _ _ hc ⟨.int (g i j),H,I.tok _,⟨_,rfl⟩,q⟩
theorem BQ{g:Int->Int->Int}
 (rule:∀(i j:Int) (t u:Tok) (s:Shared) (Q:Value->Shared->Prop) (E:Value->Shared->Prop),Q (.int (g i j) s.toks) {s with toks:=s.toks+1}->wpAny (model X.prog X.w) X.A (f (.int i t) (.int j u)) Q E s):
 OpR X f (rI0 fun i j=> .int (g i j)):=by
 intro pins s σ H x y v u Q I rx ry h;obtain⟨i,rfl,h2⟩:=fN h;obtain⟨j,rfl,q⟩:=fN h2;obtain⟨t,rfl⟩:=rx;obtain⟨t',rfl⟩:=ry;exact rule i j t t' s _ _ ⟨.int (g i j),H,I.tok _,⟨_,rfl⟩,q⟩
theorem x4{g:Int->Int->Bool}
 (rule:∀(i j:Int) (t u:Tok) (s:Shared) (Q:Value->Shared->Prop) (E:Value->Shared->Prop),Q (.bool (g i j)) s->wpAny (model X.prog X.w) X.A (f (.int i t) (.int j u)) Q E s):
 OpR X f (rI0 fun i j=> .bl (g i j)):=by
 intro pins s σ H x y v u Q I rx ry h;obtain⟨i,rfl,h2⟩:=fN h;obtain⟨j,rfl,q⟩:=fN h2;obtain⟨t,rfl⟩:=rx;obtain⟨t',rfl⟩:=ry;exact rule i j t t' s _ _ ⟨.bl (g i j),H,I,rfl,q⟩
def BR(i j:Int):Prop:=0<j/\j<1073741824
def vw(i j:Int):Prop:=(-(2^64)<i/\i<2^64)\/(-(2^64)<j/\j<2^64)
theorem vw.ok{i j:Int}(h:vw i j):IntMulOk i j:=by
 rcases h with⟨h1,h2⟩|⟨h1,h2⟩
 ·exact .of_left (intBits_le_64 h1 h2)
 ·exact .of_right (intBits_le_64 h1 h2)
theorem vx:OpR X (binaryOp .Add) (rI0 fun i j=> .int (i+j)):=BQ fun _ _ _ _ _ _ _ q=>add_int q
theorem Ac:OpR X (binaryOp .Sub) (rI0 fun i j=> .int (i-j)):=BQ fun _ _ _ _ _ _ _ q=>sub_int q
theorem vy:OpR X (binaryOp .Mult) (rI vw fun i j=> .int (i*j)):=opI fun _ _ _ _ _ _ _ hc q=>mul_int q hc.ok
theorem x5:OpR X (binaryOp .FloorDiv) (rI BR fun i j=> .int (i/j)):=opI fun i j _ _ _ _ _ hc q=>by
 have h1:(0:Int)<j:=hc.1;have h2:j<1073741824:=hc.2;exact floordiv_int (by lia) (by rw[Int.fdiv_eq_ediv_of_nonneg i (by lia)];exact q) (.inl (PyProof.noPylong_small (by lia)))
theorem Ad:OpR X (binaryOp .Mod) (rI (fun _ j=>0<j) fun i j=> .int (i%j)):=opI fun i j _ _ _ _ _ hc q=>by
 have h1:(0:Int)<j:=hc;exact mod_int' (by lia) (by rw[Int.fmod_eq_emod_of_nonneg i (by lia)];exact q)
theorem unI{g:Int->Int}
 (rule:∀(i:Int) (t:Tok) (s:Shared) (Q:Value->Shared->Prop) (E:Value->Shared->Prop),Q (.int (g i) s.toks) {s with toks:=s.toks+1}->wpAny (model X.prog X.w) X.A (f (.int i t)) Q E s):
 UnR X f (rU fun i=> .int (g i)):=by
 intro pins s σ H x v Q I rx h;obtain⟨i,rfl,q⟩:=fN h;obtain⟨t,rfl⟩:=rx;exact rule i t s _ _ ⟨.int (g i),H,I.tok _,⟨_,rfl⟩,q⟩
theorem Ae:UnR X (unaryOp .USub) (rU fun i=> .int (-i)):=unI fun _ _ _ _ _ q=>neg_int q
end
noncomputable def Af:V->V->Bool
 | .non,.non=>true| .non,.int _=>true| .int _,.non=>true| .non,.bl _=>true| .bl _,.non=>true| .non,.str _=>true| .str _,.non=>true
 | .int _,.int _=>true| .bl _,.bl _=>true| .str _,.str _=>true| .byt _,.byt _=>true
 | .int _,.str _=>true| .str _,.int _=>true| .bl _,.str _=>true| .str _,.bl _=>true
 | _,_=>false
def rEq:R2:=fun x y H Q=>Af x y=true/\Q (.bl (decide (x=y))) H
def rNe:R2:=fun x y H Q=>Af x y=true/\Q (.bl (!decide (x=y))) H
theorem rZ:decide (V.int i=V.int j)=(i==j):=by
 rw[Bool.eq_iff_iff];simp
theorem vz:decide (V.bl i=V.bl j)=(i==j):=by
 rw[Bool.eq_iff_iff];simp
theorem r0:decide (V.str i=V.str j)=(i==j):=by
 rw[Bool.eq_iff_iff];simp
theorem r8:decide (V.byt i=V.byt j)=(i.toList==j.toList):=by
 rw[Bool.eq_iff_iff];cases i;cases j;simp
section
variable{X:Cx}{a b c:Expr}{ta tb tc:TE}{pos:Pos}
theorem aO(I:Inv X pins σ H s)(q:Q (.bl k) H)(e:k=k'):EP X pins σ Q (.bool k') s:=by
 subst e;exact⟨.bl k,H,I,rfl,q⟩
theorem BS:OpR X (compareOp .Eq) rEq:=by
 intro pins s σ H x y v u Q I rx ry h;obtain⟨hs,q⟩:=h;cases x with
 | non=>
   cases rx;cases y with
   | non=>cases ry;exact PySem.EqNone.eq_none_none (aO I q (by simp))
   | bl j=>cases ry;exact PySem.EqNone.eq_none_bool (aO I q (by simp))
   | int j=>obtain⟨t',rfl⟩:=ry;exact PySem.EqNone.eq_none_int (aO I q (by simp))
   | str j=>obtain⟨t',rfl⟩:=ry;exact PySem.EqNone.eq_none_str (aO I q (by simp))
   | _=>exact absurd (show false=true from hs) Zs
 | bl i=>
   cases rx;cases y with
   | non=>cases ry;exact PySem.EqNone.eq_bool_none (aO I q (by simp))
   | bl j=>cases ry;exact eq_bool (aO I q vz)
   | str j=>obtain⟨t',rfl⟩:=ry;exact PySem.EqMixed.eq_bool_str (aO I q (by simp))
   | _=>exact absurd (show false=true from hs) Zs
 | int i=>
   obtain⟨t,rfl⟩:=rx;cases y with
   | non=>cases ry;exact PySem.EqNone.eq_int_none (aO I q (by simp))
   | int j=>obtain⟨t',rfl⟩:=ry;exact eq_int (aO I q rZ)
   | str j=>obtain⟨t',rfl⟩:=ry;exact PySem.EqMixed.eq_int_str (aO I q (by simp))
   | _=>exact absurd (show false=true from hs) Zs
 | str i=>
   obtain⟨t,rfl⟩:=rx;cases y with
   | non=>cases ry;exact PySem.EqNone.eq_str_none (aO I q (by simp))
   | bl j=>cases ry;exact PySem.EqMixed.eq_str_bool (aO I q (by simp))
   | int j=>obtain⟨t',rfl⟩:=ry;exact PySem.EqMixed.eq_str_int (aO I q (by simp))
   | str j=>obtain⟨t',rfl⟩:=ry;exact eq_str (aO I q r0)
   | _=>exact absurd (show false=true from hs) Zs
 | byt i=>
   obtain⟨t,rfl⟩:=rx;cases y with
   | byt j=>obtain⟨t',rfl⟩:=ry;exact PySem.W.eq_bytes (aO I q r8)
   | _=>exact absurd (show false=true from hs) Zs
 | _=>cases y<;> exact absurd (show false=true from hs) Zs
theorem BT:OpR X (compareOp .NotEq) rNe:=by
 intro pins s σ H x y v u Q I rx ry h;obtain⟨hs,q⟩:=h;cases x with
 | non=>
   cases rx;cases y with
   | non=>cases ry;exact PySem.EqNone.ne_none_none (aO I q (by simp))
   | bl j=>cases ry;exact PySem.EqNone.ne_none_bool (aO I q (by simp))
   | int j=>obtain⟨t',rfl⟩:=ry;exact PySem.EqNone.ne_none_int (aO I q (by simp))
   | str j=>obtain⟨t',rfl⟩:=ry;exact PySem.EqNone.ne_none_str (aO I q (by simp))
   | _=>exact absurd (show false=true from hs) Zs
 | bl i=>
   cases rx;cases y with
   | non=>cases ry;exact PySem.EqNone.ne_bool_none (aO I q (by simp))
   | bl j=>cases ry;exact ne_bool (aO I q (congrArg not vz))
   | str j=>obtain⟨t',rfl⟩:=ry;exact PySem.EqMixed.ne_bool_str (aO I q (by simp))
   | _=>exact absurd (show false=true from hs) Zs
 | int i=>
   obtain⟨t,rfl⟩:=rx;cases y with
   | non=>cases ry;exact PySem.EqNone.ne_int_none (aO I q (by simp))
   | int j=>obtain⟨t',rfl⟩:=ry;exact ne_int (aO I q (congrArg not rZ))
   | str j=>obtain⟨t',rfl⟩:=ry;exact PySem.EqMixed.ne_int_str (aO I q (by simp))
   | _=>exact absurd (show false=true from hs) Zs
 | str i=>
   obtain⟨t,rfl⟩:=rx;cases y with
   | non=>cases ry;exact PySem.EqNone.ne_str_none (aO I q (by simp))
   | bl j=>cases ry;exact PySem.EqMixed.ne_str_bool (aO I q (by simp))
   | int j=>obtain⟨t',rfl⟩:=ry;exact PySem.EqMixed.ne_str_int (aO I q (by simp))
   | str j=>obtain⟨t',rfl⟩:=ry;exact ne_str (aO I q (congrArg not r0))
   | _=>exact absurd (show false=true from hs) Zs
 | byt i=>
   obtain⟨t,rfl⟩:=rx;cases y with
   | byt j=>obtain⟨t',rfl⟩:=ry;exact PySem.W.ne_bytes (aO I q (congrArg not r8))
   | _=>exact absurd (show false=true from hs) Zs
 | _=>cases y<;> exact absurd (show false=true from hs) Zs
theorem BU:OpR X (compareOp .Lt) (rI0 fun i j=> .bl (decide (i<j))):=x4 fun _ _ _ _ _ _ _ q=>lt_int q
theorem BV:OpR X (compareOp .LtE) (rI0 fun i j=> .bl (decide (i<=j))):=x4 fun _ _ _ _ _ _ _ q=>le_int q
theorem BW:OpR X (compareOp .Gt) (rI0 fun i j=> .bl (decide (j<i))):=x4 fun _ _ _ _ _ _ _ q=>gt_int q
theorem BX:OpR X (compareOp .GtE) (rI0 fun i j=> .bl (decide (j<=i))):=x4 fun _ _ _ _ _ _ _ q=>ge_int q
theorem sU:OpR X (compareOp .In) (fun x y H Q=>∃i j,x= .str i/\y= .str j/\Q (.bl (!(Builtin.Str.occurrences j i 0 j.length 1).isEmpty)) H):=by
 intro pins s σ H x y v u Q I rx ry h;obtain⟨i,j,rfl,rfl,q⟩:=h;obtain⟨t,rfl⟩:=rx;obtain⟨t',rfl⟩:=ry;exact in_str (aO I q rfl)
theorem Ag:OpR X (compareOp .Is) (fun x y H Q=>y= .non/\Q (.bl (decide (x= .non))) H):=by
 intro pins s σ H x y v u Q I rx ry h;obtain⟨rfl,q⟩:=h;cases ry;refine is_none_gen (aO I q ?_);cases x<;> first
  |(cases rx;rfl)
  |(obtain⟨t,rfl⟩:=rx;rfl)
theorem x6:OpR X (compareOp .IsNot) (fun x y H Q=>y= .non/\Q (.bl (!decide (x= .non))) H):=by
 intro pins s σ H x y v u Q I rx ry h;obtain⟨rfl,q⟩:=h;cases ry;refine isnot_none_gen (aO I q ?_);cases x<;> first
  |(cases rx;rfl)
  |(obtain⟨t,rfl⟩:=rx;rfl)
theorem OpR.or(h:OpR X f r)(h':OpR X f r'):OpR X f (fun x y H Q=>r x y H Q\/r' x y H Q):=by
 intro pins s σ H x y v u Q I rx ry q;rcases q with q|q
 ·exact h pins s σ H x y v u Q I rx ry q
 ·exact h' pins s σ H x y v u Q I rx ry q
theorem nomark(b:Expr)(h:op≠ .In)(h2:op≠ .NotIn):behindInMarks op b=false:=by
 have e1:(op==CmpOp.In)=false:=by cases op<;> first|rfl|exact absurd rfl h
 have e2:(op==CmpOp.NotIn)=false:=by cases op<;> first|rfl|exact absurd rfl h2
 cases b<;> simp[behindInMarks,e1,e2]
theorem x8{r:R2}(ho:OpR X (compareOp op) r)(ha:PE X a ta)(hb:PE X b tb)(hm:behindInMarks op b=false):PE X (.Compare a [op] [b] pos) (tOp r ta tb):=by
 intro pins s σ H Q I h;exact wpAny_Compare1 (Ab ha hb I h fun v u s2 x y H2 I2 rx ry q=>ho pins s2 σ H2 x y v u Q I2 rx ry q) hm
def vA(t:TE):TT:=fun σ H Q=>t σ H fun x H'=>asB x fun k=>Q k H'
theorem x9(ho:OpR X (compareOp op) r)(ha:PE X a ta)(hb:PE X b tb)(hm:behindInMarks op b=false):PT X (.Compare a [op] [b] pos) (vA (tOp r ta tb)):=by
 intro pins s σ H Q I h;refine wpAny_isTrue_Compare1 (thn (ha pins s σ H _ I h) fun v s1 ⟨x,H1,I1,r1,q1⟩=>thn (hb pins s1 σ H1 _ I1 q1) fun u s2 ⟨y,H2,I2,r2,q2⟩=>
  thn (ho pins s2 σ H2 x y v u _ I2 r1 r2 q2) fun c s3 ⟨z,H3,I3,r3,q3⟩=>?_) hm
 obtain⟨k,rfl,q3⟩:=mC q3;cases r3;exact wpAny_truthy_bool ⟨H3,I3,q3⟩
def qq(r r':R2)(ta tb tc:TE):TE:=fun σ H Q=>ta σ H fun x H1=>tb σ H1 fun y H2=>r x y H2 fun z H3=>asB z fun k=>
 (if k=true then tc σ H3 fun w' H4=>r' y w' H4 Q else Q (.bl false) H3)
theorem vB(ho:OpR X (compareOp op) r)(ho':OpR X (compareOp op') r')(ha:PE X a ta)(hb:PE X b tb)(hc:PE X c tc)
 (hm:lastMarks [op,op'] [b,c]=false):PE X (.Compare a [op,op'] [b,c] pos) (qq r r' ta tb tc):=by
 intro pins s σ H Q I h;refine Compare_chain (thn (ha pins s σ H _ I h) fun v s1 ⟨x,H1,I1,r1,q1⟩=>chain_link (thn (hb pins s1 σ H1 _ I1 q1) fun u s2 ⟨y,H2,I2,r2,q2⟩=>
  thn (ho pins s2 σ H2 x y v u _ I2 r1 r2 q2) fun d s3 ⟨z,H3,I3,r3,q3⟩=>?_)) hm
 obtain⟨k,rfl,q3⟩:=mC q3;cases r3;refine wpAny_truthy_bool ?_;cases k with
 | false=>exact ite_ff ⟨.bl false,H3,I3,rfl,q3⟩
 | true=>exact ite_tt (chain_last (thn (hc pins s3 σ H3 _ I3 q3) fun w' s4 ⟨z',H4,I4,r4,q4⟩=>ho' pins s4 σ H4 y z' u w' Q I4 r2 r4 q4))
def vC(K:PySem.W.Frag)(x:V)(H:Hp)(k:Bool):Prop:=
 match x with
 | .non=>k=false
 | .bl b=>k=b
 | .int i=>k=(i != 0)
 | .str y=>y.length<=sizeLine/\k=((y.length:Int) != 0)
 | .byt y=>y.size<=sizeLine/\k=((y.size:Int) != 0)
 | .ref p=>(∃xs,SqL K H p xs/\k=!xs.isEmpty)\/(∃xs,SqT K H p xs/\k=!xs.isEmpty)\/∃kvs,H p=some (.dK kvs)/\k=!kvs.isEmpty
 | _=>False
theorem qr{κ:Type}{kvs:List (κ×V)}{vs:List (κ×Value)}(r:KV kvs vs):(!vs.isEmpty)=!kvs.isEmpty:=by
 cases r<;> rfl
theorem kE(r:aF xs its):(!its.toArray.isEmpty)=!xs.isEmpty:=by
 cases r<;> simp
theorem kF:(sizeLine:Nat)<2^63:=by rw[sizeLine_eq];decide
theorem Ah:TruR X (fun x H Q=>∃k,vC X.K x H k/\Q k H):=by
 intro pins s σ H x v Q I rx h;obtain⟨k,e,q⟩:=h;have hl:=kF;have hs:sizeLine=16777216:=sizeLine_eq;cases x with
 | non=>
   cases rx;have e':k=false:=e;subst e';exact truthy_none ⟨H,I,q⟩
 | bl b=>
   cases rx;have e':k=b:=e;subst e';exact wpAny_truthy_bool ⟨H,I,q⟩
 | int i=>
   obtain⟨t,rfl⟩:=rx;have e':k=(i != 0):=e;subst e';exact PySem.P.truthy_int ⟨H,I,q⟩
 | str y=>
   obtain⟨t,rfl⟩:=rx;obtain⟨hy,e'⟩:y.length<=sizeLine/\k=((y.length:Int) != 0):=e;subst e';exact PySem.P.truthy_str (by lia) ⟨H,I.tok _,q⟩
 | byt y=>
   obtain⟨t,rfl⟩:=rx;obtain⟨hy,e'⟩:y.size<=sizeLine/\k=((y.size:Int) != 0):=e;subst e';exact PySem.W.truthy_bytes (by lia) ⟨H,I.tok _,q⟩
 | ref p=>
   cases rx;have e':(∃xs,SqL X.K H p xs/\k=!xs.isEmpty)\/(∃xs,SqT X.K H p xs/\k=!xs.isEmpty)\/∃kvs,H p=some (.dK kvs)/\k=!kvs.isEmpty:=e;rcases e' with⟨xs,hx,e'⟩|⟨xs,hx,e'⟩|⟨kvs,hx,e'⟩
   ·subst e';obtain⟨its,r,pl,hz⟩:=I.list hx;have hlen:=r.length;exact wpAny_truthy_list pl.isList (by simp only[Zo];lia) ⟨H,I.tok _,by rw[kE r];exact q⟩
   ·subst e';obtain⟨its,r,pl,hz⟩:=I.tuple hx;have hlen:=r.length;exact truthy_tuple pl (by simp only[Zo];lia) ⟨H,I.tok _,by rw[kE r];exact q⟩
   ·subst e';obtain⟨hz,hS,vs,r,m⟩:kvs.length<=sizeLine/\(p==sysModules)=false/\∃vs,KV kvs vs/\s.heap.DictOf (aA X.prog X.w) p vs:=I.hok p _ hx;have hlen:kvs.length=vs.length:=Paired.length r;exact wpAny_truthy_dict hS m (by lia) ⟨H,I.tok _,by rw[qr r];exact q⟩
 | _=>exact(show False from e).elim
theorem vD(ha:PE X a ta)(he:∀whole,isTrue a X.env whole=(do let v<-whole;standAt a.pos;holding [v] (truthy v))):
 PT X a (fun σ H Q=>ta σ H fun x H'=>∃k,vC X.K x H' k/\Q k H'):=by
 intro pins s σ H Q I h;exact isTrue_plain (thn (ha pins s σ H _ I h) fun v s1 ⟨x,H1,I1,r1,q1⟩=>Ah pins s1 σ H1 x v Q I1 r1 q1) (he _)
theorem qt:OpR X (binaryOp .Add) (fun x y H Q=>∃i j,x= .str i/\y= .str j/\i.length+j.length<=sizeLine/\Q (.str (i++j)) H):=by
 intro pins s σ H x y v u Q I rx ry h;obtain⟨i,j,rfl,rfl,hz,q⟩:=h;obtain⟨t,rfl⟩:=rx;obtain⟨t',rfl⟩:=ry;exact add_str (fun t' tk=>⟨.str (i++j),H,I.tok _,⟨_,rfl⟩,q⟩) hz
theorem df(r:aF [x] us):∃u,us=[u]/\aJ x u:=by
 cases r with
 | cons r1 r2=>cases r2;exact⟨_,rfl,r1⟩
theorem iA(r:aF [x,y] us):∃u w',us=[u,w']/\aJ x u/\aJ y w':=by
 cases r with
 | cons r1 r2=>
   cases r2 with
   | cons r3 r4=>cases r4;exact⟨_,_,rfl,r1,r3⟩
theorem vE:bN X (.builtin "abs") (fun xs H Q=>∃i,xs=[.int i]/\Q (.int (if i<0 then -i else i)) H):=by
 intro pins s σ H xs us Q I r h;obtain⟨i,rfl,q⟩:=h;obtain⟨u,rfl,t,rfl⟩:=df r;exact call_abs_int fun u tk=>⟨.int (if i<0 then -i else i),H,I.tok _,⟨_,rfl⟩,q⟩
theorem sV(hc:X.calm=true):bN X (.builtin "max") (fun xs H Q=>∃i j,xs=[.int i,.int j]/\Q (.int (if j>i then j else i)) H):=by
 intro pins s σ H xs us Q I r h;obtain⟨i,j,rfl,q⟩:=h;obtain⟨u,w',rfl,⟨t,rfl⟩,t',rfl⟩:=iA r;refine max_two_ints (I.ok.hd hc) fun h' tk k=>⟨_,H,I.kept k,?_,q⟩
 by_cases hj:j>i
 ·rw[if_pos hj,if_pos hj];exact⟨_,rfl⟩
 ·rw[if_neg hj,if_neg hj];exact⟨_,rfl⟩
theorem sW(hc:X.calm=true):bN X (.builtin "min") (fun xs H Q=>∃i j,xs=[.int i,.int j]/\Q (.int (if j<i then j else i)) H):=by
 intro pins s σ H xs us Q I r h;obtain⟨i,j,rfl,q⟩:=h;obtain⟨u,w',rfl,⟨t,rfl⟩,t',rfl⟩:=iA r;refine min_two_ints (I.ok.hd hc) fun h' tk k=>⟨_,H,I.kept k,?_,q⟩
 by_cases hj:j<i
 ·rw[if_pos hj,if_pos hj];exact⟨_,rfl⟩
 ·rw[if_neg hj,if_neg hj];exact⟨_,rfl⟩
theorem sX:bN X (.type "int") (fun xs H Q=>(∃i,xs=[.int i]/\Q (.int i) H)\/∃k,xs=[.bl k]/\Q (.int (if k then 1 else 0)) H):=by
 intro pins s σ H xs us Q I r h;rcases h with⟨i,rfl,q⟩|⟨k,rfl,q⟩
 ·obtain⟨u,rfl,t,rfl⟩:=df r;exact call_int_int ⟨.int i,H,I,⟨_,rfl⟩,q⟩
 ·obtain⟨u,rfl,r1⟩:=df r;cases r1;exact call_int_bool ⟨.int (if k then 1 else 0),H,I.tok _,⟨_,rfl⟩,q⟩
def ya(K:PySem.W.Frag)(x:V)(H:Hp)(n:Nat):Prop:=
 match x with
 | .str y=>y.length<=sizeLine/\n=y.length
 | .byt y=>y.size<=sizeLine/\n=y.size
 | .ref p=>(∃xs,SqL K H p xs/\n=xs.length)\/∃xs,SqT K H p xs/\n=xs.length
 | _=>False
theorem vF:bN X (.builtin "len") (fun xs H Q=>∃x n,xs=[x]/\ya X.K x H n/\Q (.int n) H):=by
 intro pins s σ H xs us Q I r h;obtain⟨x,n,rfl,e,q⟩:=h;obtain⟨u,rfl,rx⟩:=df r;have hl:=kF;have hs:sizeLine=16777216:=sizeLine_eq;cases x with
 | str y=>
   obtain⟨t,rfl⟩:=rx;obtain⟨hy,e'⟩:y.length<=sizeLine/\n=y.length:=e;subst e';exact len_str (by lia) ⟨.int _,H,I.tok _,⟨_,rfl⟩,q⟩
 | byt y=>
   obtain⟨t,rfl⟩:=rx;obtain⟨hy,e'⟩:y.size<=sizeLine/\n=y.size:=e;subst e';exact PySem.W.len_bytes (by lia) ⟨.int _,H,I.tok _,⟨_,rfl⟩,q⟩
 | ref p=>
   cases rx;have e':(∃xs,SqL X.K H p xs/\n=xs.length)\/∃xs,SqT X.K H p xs/\n=xs.length:=e;rcases e' with⟨xs,hx,e'⟩|⟨xs,hx,e'⟩
   ·subst e';obtain⟨its,r',pl,hz⟩:=I.list hx;have hlen:=r'.length;exact Calls.call_len_list pl.isList (by simp only[Zo];lia) ⟨.int xs.length,H,I.tok _,⟨_,by simp only[Zo];rw[hlen]⟩,q⟩
   ·subst e';obtain⟨its,r',pl,hz⟩:=I.tuple hx;have hlen:=r'.length;exact len_tuple pl (by simp only[Zo];lia) ⟨.int xs.length,H,I.tok _,⟨_,by simp only[Zo];rw[hlen]⟩,q⟩
 | _=>exact(show False from e).elim
end
structure qu (h:Heap) (x dx C:Addr) (mA:Str->Option Value):Prop where
 obj:h.get? x=some (instObj C dx)
 ns:h.Ns1 dx mA
 ne:dx≠x
theorem sY{h:Heap}{mA:Str->Option Value}(n:h.Ns1 dx mA):∃od,h.get? dx=some od/\∀name,lookIn name od=some (mA name):=by
 obtain⟨o,es,ep,ho,hd,hk,_,hm⟩:=n;refine⟨o,ho,fun name=>?_⟩;have e:=hm name;unfold nsFind findBy at e;rw[<-Array.find?_toList]at e;unfold lookIn;rw[hd];dsimp only
 split
 ·rename_i y q
  rw[q]at e;exact congrArg some e
 ·rename_i q
  rw[q]at e;have a:es.toList.any (·.refKey)=false:=by
   rw[List.any_eq_false];intro y hy;obtain⟨z,t,hkey⟩:=hk y (mem_toList_iff.mp hy);simp[DictEntry.refKey,hkey]
  have a': ¬ es.toList.any (·.refKey)=true:=by rw[a];exact Zs
  rw[if_neg a'];exact congrArg some e
theorem qu.look(I:qu h x dx C mA):∃od,PySem.W.InstAt h x (instObj C dx) C (some od)/\∀name,lookIn name od=some (mA name):=
 let⟨od,ho,hl⟩:=sY I.ns
 ⟨od,⟨I.obj,rfl,rfl,ho⟩,hl⟩
section
variable{prog:Program}{w:World}{A:Around}{E:Value->Shared->Prop}{s:Shared}{K:PySem.W.Frag}{x dx C f:Addr}{mA:Str->Option Value}{name:Str}{v:Value}
theorem yb(X:K.In s.heap)(I:qu s.heap x dx C mA)(hg:plainGet K C name=true)(hh:hasDictIn K C=true)
 (ha:findIn K (.ref C) name=some none) (hv:mA name=some v) (hv':handedIn v=true) (h:Q v {s with toks:=s.toks+1}):
 wpAny (model prog w) A (getAttr (.ref x) name expr) Q E s:=by
 obtain⟨od,J,hl⟩:=I.look;exact PySem.W.get_value X J (plainGet_of hg).1 (PySem.W.findObj_own hh ha rfl (by rw[hl,hv])) hv' h
theorem vG(X:K.In s.heap)(I:qu s.heap x dx C mA)(hg:plainGet K C name=true)
 (hf:findIn K (.ref C) name=some (some (.ref f))) (ht:isFn K (.ref f)=true) (hv:mA name=none) (h:Q (.ref f,[.ref x]) s):
 wpAny (model prog w) A (getMethod (.ref x) name pl) Q E s:=by
 obtain⟨od,J,hl⟩:=I.look;exact PySem.W.method_fn X J (plainGet_of hg).1 (plainGet_of hg).2 hf (beq_iff_eq.mp ht) (by show(lookIn name od).map (·.isSome)=some false;rw[hl,hv];rfl) h
theorem yc(X:K.In s.heap)(I:qu s.heap x dx C mA)
 (hs:findIn K (.ref C) "__setattr__"=some (some (.builtin "object.__setattr__"))) (hp:plainOver K C=true) (ht:takerIn K C name=some none) (hh:hasDictIn K C=true)
 (hw:PySem.Within mA ns) (hsz:ns.length<=sizeLine)
 (h:∀h',qu h' x dx C (fun y=>if y=name then some v else mA y)->SameBut dx s.heap h'->Q () {s with heap:=h',toks:=s.toks+2}):
 wpAny (model prog w) A (setAttr (.ref x) name v) Q E s:=by
 obtain⟨od,J,hl⟩:=I.look;refine PySem.W.set_plain X J hs (PySem.W.osa_open (s:={s with toks:=s.toks+1}) (r:=none) X J hp ht fun b=>?_);obtain⟨cd,hc,hd'⟩:=PySem.W.any_some hh;have hx:s.heap.get? x=some ⟨.ref C,some dx,.plain,#[]⟩:=I.obj;refine Z2 (Z3 (Z2 (Z2 (wpAny_loadPart hx (Z2 (Looks.here (s:={s with toks:=s.toks+1}) (PySem.W.looks_clsIn X hc) ?_))))));rw[hd'];refine Z3 (a:=some dx) (Z2 (Z3 (Z2 ?_)));refine wpAny_nsSet1 (s:={s with toks:=s.toks+1}) I.ns fun h' hn2 hs2=>?_
 obtain⟨oD,esD,epD,hoD,hdD,hcD⟩:=hn2.count (PySem.Within.cons name v hw);refine Z2 (wpAny_lookBehind hoD (by rw[hdD];exact pastItsLine_dict (Y8 hcD (by rw[Zq];lia))) ?_);exact Z3 (h _ ⟨(hs2.2 _ (Ne.symm I.ne)).trans I.obj,hn2,I.ne⟩ hs2)
theorem vH{R:Result->Shared->Prop}(X:K.In s.heap)(hm:makesIn K C=true)
 (hi:findIn K (.ref C) "__init__"=some (some (.ref f))) (hf:PySem.W.typeIn K (.ref f)=some (.type "function"))
 (h:codeAny (model prog w) (A.under (.builtin "type.__call__" ⟨.ref C::vs,kw⟩)) (.call (.ref f) ⟨.ref (s.heap.objs.size+1)::vs,kw⟩) (PySem.W.InitBack (s.heap.objs.size+1) R)
  {s with heap:=(s.heap.push emptyDict).push (instObj C s.heap.objs.size)}):
 codeAny (model prog w) A (.call (.ref C) ⟨vs,kw⟩) R s:=by
 obtain⟨hh,g,d,t,os⟩:=s;exact PySem.W.make_core (PySem.W.makes_of X hm) (PySem.W.looks_findIn X hi) (fun self=>PySem.W.bind_fn X self hf) (.inl rfl) h
end
noncomputable def cK(f:Str)(v:V):List (Str×V)->List (Str×V)
 |[]=>[(f,v)]
 |(g,x)::r=>if g=f then(g,v)::r else(g,x)::cK f v r
theorem jM(f g:Str)(v:V):∀fs:List (Str×V),(cK f v fs).lookup g=if g=f then some v else fs.lookup g
 |[]=>by
  show List.lookup g [(f,v)]=_;by_cases h:g=f
  ·have hb:(g==f)=true:=beq_iff_eq.mpr h;simp only[List.lookup,hb,if_pos h]
  ·have hb:(g==f)=false:=beq_eq_false_iff_ne.mpr h;simp only[List.lookup,hb,if_neg h]
 |(k,x)::r=>by
  have ih:=jM f g v r;rw[show cK f v ((k,x)::r)=(if k=f then(k,v)::r else(k,x)::cK f v r)from rfl];by_cases hk:k=f
  ·rw[if_pos hk];by_cases h:g=k
   ·have hb:(g==k)=true:=beq_iff_eq.mpr h;simp only[List.lookup,hb,if_pos (h.trans hk)]
   ·have hb:(g==k)=false:=beq_eq_false_iff_ne.mpr h;simp only[List.lookup,hb,if_neg (fun e:g=f=>h (e.trans hk.symm))]
  ·rw[if_neg hk];by_cases h:g=k
   ·have hb:(g==k)=true:=beq_iff_eq.mpr h;simp only[List.lookup,hb,if_neg (fun e:g=f=>hk (h.symm.trans e))]
   ·have hb:(g==k)=false:=beq_eq_false_iff_ne.mpr h;simp only[List.lookup,hb];exact ih
theorem jd(f:Str)(v:V):∀fs:List (Str×V),f∈(cK f v fs).map (·.1)/\∀g,g∈fs.map (·.1)->g∈(cK f v fs).map (·.1)
 |[]=>⟨by simp[cK],fun g h=>by simp at h⟩
 |(k,x)::r=>by
  obtain⟨i1,i2⟩:=jd f v r;rw[show cK f v ((k,x)::r)=(if k=f then(k,v)::r else(k,x)::cK f v r)from rfl];by_cases hk:k=f
  ·rw[if_pos hk];subst hk;exact⟨by simp,fun g h=>by simpa using h⟩
  ·rw[if_neg hk];refine⟨?_,fun g h=>?_⟩
   ·rw[Yi];exact Zj _ i1
   ·rw[Yi]at h ⊢;rcases mem_cons.mp h with e|e
    ·exact mem_cons.mpr (.inl e)
    ·exact Zj _ (i2 g e)
theorem jN(f:Str)(v:V):∀fs:List (Str×V),(cK f v fs).length<=fs.length+1
 |[]=>by simp[cK]
 |(k,x)::r=>by
  have ih:=jN f v r;rw[show cK f v ((k,x)::r)=(if k=f then(k,v)::r else(k,x)::cK f v r)from rfl];by_cases hk:k=f
  ·rw[if_pos hk,Zq,Zq];lia
  ·rw[if_neg hk,Zq,Zq];lia
theorem eG.some_of(r:eG (some v) o):∃u,o=some u/\aJ v u:=by
 cases o with
 | none=>exact(show False from r).elim
 | some u=>exact⟨u,rfl,r⟩
theorem eG.none_of(r:eG none o):o=none:=by
 cases o with
 | none=>rfl
 | some u=>exact(show False from r).elim
theorem sZ(r:aJ v u):handedIn u=true:=by
 cases v with
 | non=>cases(show u=Value.none from r);rfl
 | bl b=>cases(show u=Value.bool b from r);rfl
 | int i=>obtain⟨t,e⟩:=(show∃t,u=Value.int i t from r);cases e;rfl
 | str x=>obtain⟨t,e⟩:=(show∃t,u=Value.str x t from r);cases e;rfl
 | byt b=>obtain⟨t,e⟩:=(show∃t,u=Value.bytes b t from r);cases e;rfl
 | flt b=>obtain⟨t,e⟩:=(show∃t,u=Value.float b t from r);cases e;rfl
 | ref a=>cases(show u=Value.ref a from r);rfl
 | ty n=>cases(show u=Value.type n from r);rfl
section
variable{P:Program}{w:World}{H H':Hp}{h h':Heap}{a C dx:Addr}{fs fs':List (Str×V)}
theorem kj(hok:HOk P w H h)(e:H a=some (.ins C dx fs)):∃mA,qu h a dx C mA/\(∀f,eG (fs.lookup f) (mA f))/\PySem.Within mA (fs.map (·.1))/\fs.length<=1000/\H dx=some (.own a):=by
 obtain⟨d,z,ne,ob,mA,n,r,q⟩:=(show bh P w H h a (.ins C dx fs)from hok a _ e)
 exact⟨mA,⟨ob,n,ne⟩,r,q,z,d⟩
end
structure Cls (K:PySem.W.Frag) (C:Addr):Prop where
 pg:plainGet K C Str.empty=true
 hd:hasDictIn K C=true
 po:plainOver K C=true
 sa:findIn K (.ref C) "__setattr__"=some (some (.builtin "object.__setattr__"))
theorem Cls.get{K:PySem.W.Frag}{C:Addr}(c:Cls K C)(f:Str):plainGet K C f=true:=c.pg
def eI(K:PySem.W.Frag)(C:Addr)(f:Str):Prop:=findIn K (.ref C) f=some none
theorem eI.taker{K:PySem.W.Frag}{C:Addr}{f:Str}(n:eI K C f):takerIn K C f=some none:=by
 unfold takerIn;rw[show findIn K (.ref C) f=some none from n];rfl
structure yd (K:PySem.W.Frag) (C:Addr) (m:Str) (f:Addr):Prop where
 at_:findIn K (.ref C) m=some (some (.ref f))
 fn:isFn K (.ref f)=true
 kp:keepIn K (.ref f)=true
section
variable{X:Cx}{pins:List (Addr×Obj)}{σ:St}{H:Hp}{s:Shared}{a C dx:Addr}{fs:List (Str×V)}{f:Str}{v:V}{A:Around}{E:Value->Shared->Prop}
theorem qv(I:Inv X pins σ H s)(e:H a=some (.ins C dx fs))(c:Cls X.K C)(n:eI X.K C f)(l:fs.lookup f=some v)
 (h:∀u s',Inv X pins σ H s'->aJ v u->Q u s'):wpAny (model X.prog X.w) A (getAttr (.ref a) f b) Q E s:=by
 obtain⟨mA,O,r,_,_,_⟩:=kj I.hok e;obtain⟨u,hu,ru⟩:=eG.some_of (v:=v) (o:=mA f) (by rw[<-l];exact r f);exact yb I.kIn O (c.get f) c.hd n hu (sZ ru) (h u _ (I.tok _) ru)
theorem qw(I:Inv X pins σ H s)(e:H a=some (.ins C dx fs))(c:Cls X.K C)(k:yd X.K C m g)(l:fs.lookup m=none)
 (h:Q (.ref g,[.ref a]) s):wpAny (model X.prog X.w) A (getMethod (.ref a) m pl) Q E s:=by
 obtain⟨mA,O,r,_,_,_⟩:=kj I.hok e;have hn:mA m=none:=eG.none_of (by rw[<-l];exact r m);exact vG I.kIn O (c.get m) k.at_ k.fn hn h
theorem qx(I:Inv X pins σ H s)(e:H a=some (.ins C dx fs))(c:Cls X.K C)(n:eI X.K C f)(hl:fs.length<1000)(ry:aJ y u)
 (h:∀s',Inv X pins σ (upd H a (.ins C dx (cK f y fs))) s'->Q () s'):wpAny (model X.prog X.w) A (setAttr (.ref a) f u) Q E s:=by
 obtain⟨mA,O,r,wi,_,ho⟩:=kj I.hok e;have hz:(fs.map (·.1)).length<=sizeLine:=by rw[Z5,sizeLine_eq];lia
 refine yc I.kIn O c.sa c.po n.taker c.hd wi hz fun h' O' sb=>h _ ?_
 have hd:∃o,h'.get? dx=some o:=let⟨o,_,_,e',_⟩:=O'.ns;⟨o,e'⟩;refine I.write (x:=a) (e:=dx) (by rw[e];exact True.intro) (.inr ho) (fun b q hb z=>(sb.2 b hb).trans z) hd ?_;refine⟨by rw[ai O.ne];exact ho,?_,O.ne,O'.obj,_,O'.ns,fun g=>?_,fun g hg=>?_⟩
 ·have:=jN f y fs;lia
 ·show eG ((cK f y fs).lookup g) (if g=f then some u else mA g);rw[jM];by_cases q:g=f
  ·rw[if_pos q,if_pos q];exact ry
  ·rw[if_neg q,if_neg q];exact r g
 ·by_cases q:g=f
  ·rw[q];exact(jd f y fs).1
  ·refine(jd f y fs).2 g (wi g fun z=>hg ?_);show(if g=f then some u else mA g)=none;rw[if_neg q];exact z
theorem Inv.made(I:Inv X pins σ H s):Inv X pins σ (upd (upd H s.heap.objs.size (.own (s.heap.objs.size+1))) (s.heap.objs.size+1) (.ins C s.heap.objs.size []))
 {s with heap:=(s.heap.push emptyDict).push (instObj C s.heap.objs.size)}:=by
 have e1:(s.heap.push emptyDict).get? s.heap.objs.size=some emptyDict:=Zi s.heap rfl;have e2:((s.heap.push emptyDict).push (instObj C s.heap.objs.size)).get? (s.heap.objs.size+1)=some (instObj C s.heap.objs.size):=by
  have:=Zi (s.heap.push emptyDict) (o:=instObj C s.heap.objs.size) rfl;rwa[Zp]at this
 have e3:(s.heap.push emptyDict).Ns s.heap.objs.size (fun _=>none):=⟨emptyDict,#[],_,e1,rfl,(fun e he=>absurd he (by simp)),fun _=>rfl⟩
 have I1:=I.laid (a:=s.heap.objs.size) (o:= .own (s.heap.objs.size+1)) (h':=s.heap.push emptyDict) (t':=s.toks) (fun b u q=>Z6 _ q) (Zh _) ⟨_,e1⟩;refine I1.laid (a:=s.heap.objs.size+1) (o:= .ins C s.heap.objs.size []) (t':=s.toks) (fun b u q=>Z6 _ q) (Nat.le_of_eq (Zp _ _)) ?_;have ne:s.heap.objs.size≠s.heap.objs.size+1:=Zr (Yg _);refine⟨by rw[ai ne,aa],X0 _,ne,e2,fun _=>none,(Heap.Ns1.of_empty e3).at fun o q=>Z6 _ q,fun _=>True.intro,fun y hy=>absurd rfl hy⟩
theorem ye(hb:attributeBase e f env (eval e env)=eval e env)
 (h:wpAny (model prog w) A (eval e env) (fun o s₁=>wpAny (model prog w) A (getAttr o f true) Q E s₁) E s):wpAny (model prog w) A (eval (.Attribute e f pos) env) Q E s:=
 Attribute_any_ h (by rw[arm_eval_Attribute,hb])
end
def Ai(K:PySem.W.Frag)(ta:TE)(f:Str):TE:=fun σ H Q=>ta σ H fun x H1=>∃a C dx fs v,x= .ref a/\H1 a=some (.ins C dx fs)/\Cls K C/\eI K C f/\fs.lookup f=some v/\Q v H1
def Aj(K:PySem.W.Frag)(ta tv:TE)(f:Str):TS:=fun D σ H=>tv σ H fun y H1=>ta σ H1 fun x H2=>∃a C dx fs,x= .ref a/\H2 a=some (.ins C dx fs)/\Cls K C/\eI K C f/\fs.length<1000/\
 D.nx σ (upd H2 a (.ins C dx (cK f y fs)))
section
variable{X:Cx}{o e value:Expr}{f:Str}{pos pos' tpos:Pos}{ta tv:TE}
theorem Ak(he:PE X e ta)(hb:attributeBase e f X.env (eval e X.env)=eval e X.env):PE X (.Attribute e f pos) (Ai X.K ta f):=by
 intro pins s σ H Q I h;refine ye hb (thn (he pins s σ H _ I h) fun u s1 ⟨x,H1,I1,rx,a,C,dx,fs,v,ex,ea,c,n,l,q⟩=>?_);subst ex;obtain rfl:u=Value.ref a:=rx;exact qv I1 ea c n l fun u' s2 I2 ru=>⟨v,H1,I2,ru,q⟩
theorem Al(ha:PE X o ta)(hv:PE X value tv)(hs:swapsWith value (some (.Attribute o f pos')) pos.line X.env=pure false):PS X (.Assign [.Attribute o f pos'] value pos) (Aj X.K ta tv f):=by
 intro pins s σ H D I h;refine plainObj_wpAny_Assign_Attribute (thn (hv pins s σ H _ I h) fun u s1 ⟨y,H1,I1,ry,q⟩=>thn (ha pins s1 σ H1 _ I1 q) fun ov s2 ⟨x,H2,I2,rx,a,C,dx,fs,ex,ea,c,n,l,q2⟩=>?_) hs;subst ex;obtain rfl:ov=Value.ref a:=rx;exact qx I2 ea c n l ry fun s3 I3=>⟨σ,_,I3,q2⟩
end
section
variable{X:Cx}{pins:List (Addr×Obj)}{σ:St}{H:Hp}{s:Shared}{A:Around}{E:Value->Shared->Prop}{Q:Value->Shared->Prop}{c:Value}{b:Bool}
inductive gZ (K:PySem.W.Frag) (H:Hp):V->Value->Prop where
 | non:gZ K H .non (.type "NoneType")
 | bl (x:Bool):gZ K H (.bl x) (.type "bool")
 | int (i:Int):gZ K H (.int i) (.type "int")
 | str (x:Str):gZ K H (.str x) (.type "str")
 | flt (x:UInt64):gZ K H (.flt x) (.type "float")
 | lst {a:Addr} {xs:List V} (e:H a=some (.lst xs)):gZ K H (.ref a) (.type "list")
 | frz {a:Addr} {o:Obj} {xs:List V} (e:H a=some (.frz o (.lst xs))):gZ K H (.ref a) (.type "list")
 | tup {a:Addr} {xs:List V} (e:H a=some (.tup xs)):gZ K H (.ref a) (.type "tuple")
 | dK {a:Addr} {kvs:List (Key×V)} (e:H a=some (.dK kvs)):gZ K H (.ref a) (.type "dict")
 | dT {a:Addr} {kvs:List (List Key×V)} (e:H a=some (.dT kvs)):gZ K H (.ref a) (.type "dict")
 | ins {a C dx:Addr} {fs:List (Str×V)} (e:H a=some (.ins C dx fs)) (cl:Cls K C) (ha:findIn K (.ref C) "__class__"=some (some (.builtin "object.__class__")))
  (hn:PySem.W.specialIn K (.builtin "object.__class__") "__get__"=some (some (.builtin "getset_descriptor.__get__"))) (htk:PySem.W.takesIn K (.builtin "object.__class__")=some true)
  (hm:PySem.W.mroIn K C (.type "object")=some true):gZ K H (.ref a) (.ref C)
theorem tf(I:Inv X pins σ H s)(rx:aJ x u)(ty:gZ X.K H x t)(e:kitOne X.K t c=some b)(h:∀tk,Q (.bool b) {s with toks:=tk}):
 wpAny (model X.prog X.w) A (call (.builtin "isinstance") [u,c]) Q E s:=by
 cases ty with
 | non=>cases(show u=Value.none from rx);exact kia_one PySem.W.kitx_none I.kIn True.intro e (fun z=>nomatch z) h
 | bl y=>cases(show u=Value.bool y from rx);exact kia_one PySem.W.kitx_bool I.kIn True.intro e (fun z=>nomatch z) h
 | int i=>obtain⟨t,q⟩:=(show∃t,u=Value.int i t from rx);cases q;exact kia_one PySem.W.kitx_int I.kIn True.intro e (fun z=>nomatch z) h
 | str y=>obtain⟨t,q⟩:=(show∃t,u=Value.str y t from rx);cases q;exact kia_one PySem.W.kitx_str I.kIn True.intro e (fun z=>nomatch z) h
 | flt y=>obtain⟨t,q⟩:=(show∃t,u=Value.float y t from rx);cases q;exact kia_one PySem.W.kitx_float I.kIn True.intro e (fun z=>nomatch z) h
 | @lst a xs ea=>
   cases(show u=Value.ref a from rx);obtain⟨_,_,n,_,h1⟩:=(show bh X.prog X.w H s.heap a (.lst xs)from I.hok a _ ea)
   exact kia_one kitx_list I.kIn ⟨_,h1,rfl⟩ e (fun z=>nomatch z) h
 | @frz a ob xs ea=>
   cases(show u=Value.ref a from rx);obtain⟨_,_,_,n,_,h1⟩:=(show bh X.prog X.w H s.heap a (.frz ob (.lst xs))from I.hok a _ ea)
   exact kia_one kitx_list I.kIn ⟨_,h1,rfl⟩ e (fun z=>nomatch z) h
 | @tup a xs ea=>
   cases(show u=Value.ref a from rx);obtain⟨_,_,_,p⟩:=(show bh X.prog X.w H s.heap a (.tup xs)from I.hok a _ ea)
   obtain⟨o,h1,h2,_⟩:=p;exact kia_one PySem.W.kitx_tuple I.kIn ⟨o,h1,h2⟩ e (fun z=>nomatch z) h
 | @dK a kvs ea=>
   cases(show u=Value.ref a from rx);obtain⟨_,_,vs,_,p⟩:=(show bh X.prog X.w H s.heap a (.dK kvs)from I.hok a _ ea)
   obtain⟨o,es,ep,h1,h2,_⟩:=p;exact kia_one kitx_dict I.kIn ⟨o,h1,h2.1⟩ e (fun z=>nomatch z) h
 | @dT a kvs ea=>
   cases(show u=Value.ref a from rx);obtain⟨_,_,xs,_,o,es,ep,h1,h2,_⟩:=(show bh X.prog X.w H s.heap a (.dT kvs)from I.hok a _ ea)
   exact kia_one kitx_dict I.kIn ⟨o,h1,h2.1⟩ e (fun z=>nomatch z) h
 | @ins a C dx fs ea cl ha hn htk hm=>
   cases(show u=Value.ref a from rx);obtain⟨mA,O,_⟩:=kj I.hok ea;obtain⟨od,J,_⟩:=O.look;exact kia_one (PySem.W.kitx_own (cl.get _) cl.hd ha hn htk hm) I.kIn J e (fun z=>nomatch z) h
end
structure bS (k:Nat) (A:Around):Prop where
 hd:A.handled=none
 dp:A.depth+3*k+5<recursionLimit
 un:A.units+16*k+200<cLine
theorem bS.mono(r:bS k A)(h:j<=k):bS j A:=⟨r.hd,by have:=r.dp;lia,by have:=r.un;lia⟩
theorem bS.deeper(r:bS (k+1) A)(env:Env):bS k (A.deeper env):=
 ⟨r.hd,by have:=r.dp;show A.depth+1+3*k+5<_;lia,by have:=r.un;show A.units+3+16*k+200<_;lia⟩
theorem qy{A:Around}:(A.under (.builtin "type.__call__" ⟨.ref C::us,kw⟩)).depth=A.depth+1:=by
 first|rfl|simp[Around.under,Code.weight,Code.isCreation,Code.isGuard,Code.isCaller,Code.frames,Code.isFrame,guardIds]
theorem qz{A:Around}:(A.under (.builtin "type.__call__" ⟨.ref C::us,kw⟩)).units=A.units+1:=by
 first|rfl|simp[Around.under,Code.cUnits,Code.frames,Code.isFrame]
theorem bS.make(r:bS (k+1) A)(C:Addr)(us:List Value)(kw:List (Str×Value)):bS k (A.under (.builtin "type.__call__" ⟨.ref C::us,kw⟩)):=
 ⟨r.hd,by have:=r.dp;rw[qy];lia,by have:=r.un;rw[qz];lia⟩
theorem bS.depth(r:bS k A):A.depth<recursionLimit:=by have:=r.dp;lia
theorem bS.units(r:bS k A):A.units+64<cLine:=by have:=r.un;lia
def vI:TA:=fun _ H Q=>Q [] H
def vJ(ta:TE)(tr:TA):TA:=fun σ H Q=>ta σ H fun x H1=>tr σ H1 fun xs H2=>Q (x::xs) H2
section
variable{X:Cx}{e:Expr}{es:List Expr}{te:TE}{t:TA}{pos:Pos}
theorem Am:PA X [] vI:=fun _ _ _ _ H Q I h=>Calls.spliced_nil ⟨[],H,I,.nil,h⟩
theorem yf(ha:PE X e te)(hr:PA X es t)(hs:starEach (e::es) X.env=(false,eval e X.env)::starEach es X.env):PA X (e::es) (vJ te t):=by
 intro pos pins s σ H Q I h;rw[hs];show wpAny _ _ (spliced ((false,eval e X.env)::backTo pos (starEach es X.env))) _ _ s;refine Calls.spliced_cons (thn (ha pins s σ H _ I h) fun u s1 ⟨x,H1,I1,r1,q1⟩=>?_);exact thn (hr pos pins s1 σ H1 _ I1 q1) fun us s2 ⟨xs,H2,I2,r2,q2⟩=>⟨x::xs,H2,I2,.cons r1 r2,q2⟩
def An(t:TA):TE:=fun σ H Q=>t σ H fun xs H1=>xs.length<=sizeLine/\∀p,H1 p=none->Q (.ref p) (upd H1 p (.tup xs))
def Ao(t:TA):TE:=fun σ H Q=>t σ H fun xs H1=>xs.length<=sizeLine/\∀p,H1 p=none->Q (.ref p) (upd H1 p (.lst xs))
theorem Ap{x1}(h:PA X es t):PE X (.Tuple es x1 pos) (An t):=by
 intro pins s σ H Q I hq;refine wpAny_Tuple_spliced (thn (h pos pins s σ H _ I hq) fun us s1 ⟨xs,H1,I1,r,z,q⟩=>⟨by rw[<-r.length];exact z,?_⟩);have hf:H1 s1.heap.objs.size=none:=I1.hok.fresh (Zh _);refine⟨.ref s1.heap.objs.size,upd H1 s1.heap.objs.size (.tup xs),I1.laid (t':=s1.toks) (fun b u e=>Z6 _ e) (Zh _) ?_,rfl,q _ hf⟩;exact⟨z,us,r,_,Zi _ rfl,rfl,_,rfl⟩
theorem Aq(h:PA X es t):PE X (.List es pos) (Ao t):=by
 intro pins s σ H Q I hq;refine wpAny_List_spliced (thn (h pos pins s σ H _ I hq) fun us s1 ⟨xs,H1,I1,r,z,q⟩=>⟨by rw[<-r.length];exact z,?_⟩);have hf:H1 s1.heap.objs.size=none:=I1.hok.fresh (Zh _);refine⟨.ref s1.heap.objs.size,upd H1 s1.heap.objs.size (.lst xs),I1.laid (t':=s1.toks) (fun b u e=>Z6 _ e) (Zh _) ?_,rfl,q _ hf⟩;exact⟨z,us,0,r,Zi _ rfl⟩
end
noncomputable abbrev Sp:=List V->Hp->VK->XK->Prop
noncomputable abbrev CXT:=List Env->Hp->Shared->XK->Value->Shared->Prop
structure qA (P:Program) (w:World) (K:PySem.W.Frag) (mg:Str->Option Value) (base:Heap) (A:Around) (outer:List Env) (s:Shared) (H:Hp):Prop where
 frames:A.frames=some outer
 mod:Mod K mg base
 bs:∀b o,base.get? b=some o->s.heap.get? b=some o/\H b=none
 bsz:base.objs.size<=s.heap.objs.size
 funs:s.heap.FunFrames base outer
 frf:∀b∈frs outer,H b=none
 hok:HOk P w H s.heap
 bare:AllBare s.gens
def CE(outer:List Env)(P:Program)(w:World)(H:Hp)(s:Shared)(Q:VK)(u:Value)(s':Shared):Prop:=
 ∃v H',s'.os=s.os/\AllBare s'.gens/\Un (frs outer) [] H H' s.heap s'.heap/\HOk P w H' s'.heap/\aJ v u/\Q v H'
def CR(CX:CXT)(outer:List Env)(P:Program)(w:World)(H:Hp)(s:Shared)(Q:VK)(E:XK)(r:Result)(s':Shared):Prop:=
 match r with
 | .ok (.ret u)=>CE outer P w H s Q u s'
 | .ok _=>False
 | .error e=>CX outer H s E e s'
structure hJ (P:Program) (w:World) (K:PySem.W.Frag) (mg:Str->Option Value) (base:Heap) (CX:CXT) (k:Nat) (f:Addr) (fd:FuncData) (ps:List Str) (sp:Sp):Prop where
 len:∀vs H Q E,sp vs H Q E->vs.length=ps.length
 run:∀(A:Around) (outer:List Env) (s:Shared) (H:Hp) (args:Args) (us:List Value) (vs:List V) (Q:VK) (E:XK),bS k A->qA P w K mg base A outer s H->BindsTo s fd args (ps.zip us)->aF vs us->sp vs H Q E->
  codeAny (model P w) A (.call (.ref f) args) (CR CX outer P w H s Q E) s
theorem qA.make{P:Program}{K:PySem.W.Frag}(e:qA P w K mg base A outer s H)(C:Addr)(us:List Value)(kw:List (Str×Value)):
 qA P w K mg base (A.under (.builtin "type.__call__" ⟨.ref C::us,kw⟩)) outer s H:=⟨by first|exact e.frames|(simpa [Around.under,Code.envs,Code.isFrame,pushEnvs]using e.frames),e.mod,e.bs,e.bsz,e.funs,e.frf,e.hok,e.bare⟩
section
variable{X:Cx}{pins:List (Addr×Obj)}{σ:St}{H:Hp}{s s':Shared}
theorem Inv.env0(I:Inv X pins σ H s):qA X.prog X.w X.K X.mg X.base X.A X.stack s H:=
 ⟨I.ok.frames,I.ok.mod,I.bs,Y8 I.ok.bsz I.sz,I.stack,I.stkFree,I.hok,I.bare⟩
theorem Inv.after(I:Inv X pins σ H s)(h:CE X.stack X.prog X.w H s Q u s'):EP X pins σ Q u s':=by
 obtain⟨v,H',os,bare,un,hok,r,q⟩:=h;obtain⟨hh,g,d,t,os'⟩:=s';obtain rfl:os'=s.os:=os;exact⟨v,H',I.call (h':=hh) (g':=g) (d':=d) (t':=t) (ch:=[]) un hok bare (fun b z=>absurd z (by simp)),r,q⟩
end
def r9(sp:Sp)(dvs:List V)(E:XK)(t:TA):TE:=fun σ H Q=>t σ H fun vs H1=>sp (vs++dvs) H1 Q E
def vK(C:Addr)(m:Str)(sp:Sp)(dvs:List V)(E:XK)(ta:TE)(t:TA):TE:=fun σ H Q=>ta σ H fun x H1=>∃a dx fs,x= .ref a/\H1 a=some (.ins C dx fs)/\fs.lookup m=none/\
 t σ H1 fun vs H2=>sp (x::(vs++dvs)) H2 Q E
def vL(C:Addr)(sp:Sp)(dvs:List V)(E:XK)(t:TA):TE:=fun σ H Q=>t σ H fun vs H1=>∀x dx,H1 x=none->H1 dx=none->dx≠x->
 sp (.ref x::(vs++dvs)) (upd (upd H1 dx (.own x)) x (.ins C dx [])) (fun v H2=>v= .non/\Q (.ref x) H2) E
def ei(K:PySem.W.Frag)(fd:FuncData)(ps:List Str)(ds:List Value):Prop:=
 ∀(s:Shared) (us:List Value),K.In s.heap->(us++ds).length=ps.length->BindsTo s fd ⟨us,[]⟩ (ps.zip (us++ds))
theorem ei.all{K:PySem.W.Frag}(h:∀us:List Value,us.length=ps.length->bindArgs fd ⟨us,[]⟩=pure (ps.zip us)):ei K fd ps []:=fun s us _ hl=>by
 rw[Zw]at hl ⊢;exact .of_eq (h us hl)
def hV(CX:CXT)(X:Cx)(E:XK):Prop:=∀(pins:List (Addr×Obj)) (σ:St) (H:Hp) (s:Shared) (e:Value) (s':Shared),Inv X pins σ H s->CX X.stack H s E e s'->X.xe e s'
section
variable{X:Cx}{CX:CXT}{k:Nat}{f C:Addr}{fd:FuncData}{ps:List Str}{sp:Sp}{dvs:List V}{ds:List Value}{E:XK}{x m:Str}{p pos apos:Pos}{e o:Expr}{es:List Expr}{ta:TE}{t:TA}
theorem vM(F:hJ X.prog X.w X.K X.mg X.base CX k f fd ps sp)(hr:bS k X.A)(hb:ei X.K fd ps ds)(hd:aF dvs ds)(hx:hV CX X E)
 (I:Inv X pins σ H s) (r:aF vs us) (h:sp (vs++dvs) H Q E):wpAny (model X.prog X.w) X.A (call (.ref f) us) (EP X pins σ Q) X.xe s:=by
 have r2:aF (vs++dvs) (us++ds):=r.append hd;have hl:(us++ds).length=ps.length:=by rw[<-r2.length];exact F.len _ _ _ _ h
 refine wpAny_call (codeAny_mono (F.run X.A X.stack s H ⟨us,[]⟩ (us++ds) (vs++dvs) Q E hr I.env0 (hb s us I.kIn hl) r2 h) fun r s' hq=>?_);cases r with
 | error e=>exact hx pins σ H s e s' I hq
 | ok fl=>
   cases fl with
   | ret u=>exact I.after hq
   | next=>exact False.elim hq
   | brk=>exact False.elim hq
   | cont=>exact False.elim hq
theorem yg(F:hJ X.prog X.w X.K X.mg X.base CX k f fd ps sp)(hr:bS k X.A)(hg:Gl X x)(hm:X.mg x=some (.ref f))(hk:keepIn X.K (.ref f)=true)(hb:ei X.K fd ps ds)(hd:aF dvs ds)(hx:hV CX X E)
 (ha:PA X (e::es) t) (hdb:(x==("__debug__":Str))=false) (he:starEach (e::es) X.env=(false,eval e X.env)::starEach es X.env) (hpl:(backTo pos (starEach es X.env)).any (·.1)=false):
 PE X (.Call (.Name x p) (e::es) [] pos) (r9 sp dvs E t):=by
 intro pins s σ H Q I h;refine wpAny_Call_Name_kw (nu I hg hm ?_ hdb);refine callWith_K (h₀:=X.base) I.ok.mod.kin hk (thn (ha pos pins s σ H _ I h) fun us s1 ⟨vs,H1,I1,r,q⟩=>⟨I1.kIn,?_⟩) he hpl;exact vM F hr hb hd hx I1 r q
theorem vN(he:PE X o ta)(c:Cls X.K C)(hm:yd X.K C m f)(F:hJ X.prog X.w X.K X.mg X.base CX k f fd ps sp)(hr:bS k X.A)(hb:ei X.K fd ps ds)(hd:aF dvs ds)(hx:hV CX X E)
 (ht:eval (.Call (.Attribute o m apos) [] [] pos) X.env=(do
  let ov<-eval o X.env
  standAt apos.atName
  let(f,first)<-holding [ov] (getMethod ov m pl)
  callWith pos f first (backTo pos (starEach [] X.env)) (backToKw pos (keywordEach [] X.env)))):
 PE X (.Call (.Attribute o m apos) [] [] pos) (vK C m sp dvs E ta vI):=by
 intro pins s σ H Q I h;refine PySem.W.methodCall_KW (pl:=pl) (thn (he pins s σ H _ I h) fun u s1 ⟨x,H1,I1,rx,a,dx,fs,ex,ea,l,q⟩=>?_) ht;subst ex;obtain rfl:u=Value.ref a:=rx;refine qw I1 ea c hm l ?_;exact PySem.W.callWith_K0 (first:=[.ref a]) I1.kIn hm.kp (vM (us:=[.ref a]) (vs:=[.ref a]) F hr hb hd hx I1 (.cons rfl .nil) q)
structure Mk (K:PySem.W.Frag) (C f:Addr):Prop where
 makes:makesIn K C=true
 init:findIn K (.ref C) "__init__"=some (some (.ref f))
 fn:isFn K (.ref f)=true
 kp:keepIn K (.ref C)=true
theorem vO(M:Mk X.K C f)(F:hJ X.prog X.w X.K X.mg X.base CX k f fd ps sp)(hr:bS (k+1) X.A)(hb:ei X.K fd ps ds)(hd:aF dvs ds)
 (hx:hV CX X E) (I:Inv X pins σ H s) (r:aF vs us)
 (h:∀x dx,H x=none->H dx=none->dx≠x->sp (.ref x::(vs++dvs)) (upd (upd H dx (.own x)) x (.ins C dx [])) (fun v H2=>v= .non/\Q (.ref x) H2) E):
 wpAny (model X.prog X.w) X.A (call (.ref C) us) (EP X pins σ Q) X.xe s:=by
 have hq:=h (s.heap.objs.size+1) s.heap.objs.size (I.hok.fresh (Y7 _)) (I.hok.fresh (Zh _)) (Zr (Yg _));have I2:=Inv.made (C:=C) I;have r2:aF (V.ref (s.heap.objs.size+1)::(vs++dvs)) (Value.ref (s.heap.objs.size+1)::(us++ds)):= .cons rfl (r.append hd);have hl:(Value.ref (s.heap.objs.size+1)::us++ds).length=ps.length:=by
  have e:=r2.length;rw[F.len _ _ _ _ hq]at e;exact e.symm
 refine wpAny_call (vH (f:=f) I.kIn M.makes M.init (beq_iff_eq.mp M.fn) (codeAny_mono (F.run _ X.stack _ _ ⟨Value.ref (s.heap.objs.size+1)::us,[]⟩ (Value.ref (s.heap.objs.size+1)::(us++ds)) _ _ E (hr.make C us [])
  (I2.env0.make C us []) (hb _ (Value.ref (s.heap.objs.size+1)::us) I2.kIn hl) r2 hq) fun r s' hq'=>?_))
 cases r with
 | error e=>exact hx pins σ _ _ e s' I2 hq'
 | ok fl=>
   cases fl with
   | ret u=>
     obtain⟨v,H',I3,rv,ev,q3⟩:=I2.after hq';subst ev;exact⟨rv,V.ref (s.heap.objs.size+1),H',I3,rfl,q3⟩
   | next=>exact False.elim hq'
   | brk=>exact False.elim hq'
   | cont=>exact False.elim hq'
theorem yh(M:Mk X.K C f)(F:hJ X.prog X.w X.K X.mg X.base CX k f fd ps sp)(hr:bS (k+1) X.A)(hg:Gl X x)(hm:X.mg x=some (.ref C))(hb:ei X.K fd ps ds)(hd:aF dvs ds)(hx:hV CX X E)
 (ha:PA X (e::es) t) (hdb:(x==("__debug__":Str))=false) (he:starEach (e::es) X.env=(false,eval e X.env)::starEach es X.env) (hpl:(backTo pos (starEach es X.env)).any (·.1)=false):
 PE X (.Call (.Name x p) (e::es) [] pos) (vL C sp dvs E t):=by
 intro pins s σ H Q I h;refine wpAny_Call_Name_kw (nu I hg hm ?_ hdb);refine callWith_K (h₀:=X.base) I.ok.mod.kin M.kp (thn (ha pos pins s σ H _ I h) fun us s1 ⟨vs,H1,I1,r,q⟩=>⟨I1.kIn,?_⟩) he hpl;exact vO M F hr hb hd hx I1 r q
end
section
variable{X:Cx}{CX:CXT}{k:Nat}{f C:Addr}{fd:FuncData}{ps ks:List Str}{sp:Sp}{E:XK}{x m:Str}{p pos apos kpos:Pos}{e o:Expr}{es:List Expr}{kws:List Keyword}{te ta:TE}{t tk:TA}{nm:Option Str}
variable{g:List Value->List Value->List Value}{gV:List V->List V->List V}
end
structure ao (N P:List Str) (sc:Scope):Prop where
 kind:sc.kind= .function
 co:sc.isCoroutine=false
 gen:sc.isGenerator=false
 nd:N.Nodup
 pre:N.take P.length=P
 par:∀x∈P,sc.names.lookup x=some .local\/sc.names.lookup x=some .cell
 nofree:∀y∈sc.names,y.2≠ .free
theorem mD{kindOf:Str->Option NameKind}:∀{binds:List (Str×Value)} {m:Str->Option Value},(∀v,(x,v)∉binds)->bindL kindOf binds m x=m x
 |[],_,_=>rfl
 |(n,v)::r,m,h=>by
  unfold bindL;rw[mD fun w hw=>h w (Zj _ hw)]
  split
  ·have:x≠n:=by rintro rfl;exact h v Zl
   simp[this]
  ·rfl
theorem mE{kindOf:Str->Option NameKind}:∀{binds:List (Str×Value)} {m:Str->Option Value},(∀v,(x,v)∉binds)->bindC kindOf binds m x=m x
 |[],_,_=>rfl
 |(n,v)::r,m,h=>by
  unfold bindC;rw[mE fun w hw=>h w (Zj _ hw)]
  split
  ·rfl
  ·have:x≠n:=by rintro rfl;exact h v Zl
   simp[this]
theorem mF{kindOf:Str->Option NameKind}{x:Str}:∀{P:List Str} {vs:List Value} {i:Nat} {m:Str->Option Value},P.Nodup->P[i]? =some x->vs[i]? =some v->kindOf x=some .local->
 bindL kindOf (P.zip vs) m x=some v
 |[],_,_,_,_,h,_,_=>by simp at h
 | _::_,[],_,_,_,_,h,_=>by simp at h
 | p::P,w::vs,0,m,nd,h1,h2,hk=>by
   simp at h1 h2;subst h1;subst h2;show bindL kindOf ((p,w)::P.zip vs) m p=_;unfold bindL;rw[mD fun v hv=>(nodup_cons.mp nd).1 (of_mem_zip hv).1,if_pos hk];simp
 | p::P,w::vs,i+1,m,nd,h1,h2,hk=>by
   show bindL kindOf ((p,w)::P.zip vs) m x=_;unfold bindL;exact mF (i:=i) (nodup_cons.mp nd).2 (by simpa using h1) (by simpa using h2) hk
theorem mG{kindOf:Str->Option NameKind}{x:Str}:∀{P:List Str} {vs:List Value} {i:Nat} {m:Str->Option Value},P.Nodup->P[i]? =some x->vs[i]? =some v->kindOf x≠some .local->
 bindC kindOf (P.zip vs) m x=some v
 |[],_,_,_,_,h,_,_=>by simp at h
 | _::_,[],_,_,_,_,h,_=>by simp at h
 | p::P,w::vs,0,m,nd,h1,h2,hk=>by
   simp at h1 h2;subst h1;subst h2;show bindC kindOf ((p,w)::P.zip vs) m p=_;unfold bindC;rw[mE fun v hv=>(nodup_cons.mp nd).1 (of_mem_zip hv).1,if_neg hk];simp
 | p::P,w::vs,i+1,m,nd,h1,h2,hk=>by
   show bindC kindOf ((p,w)::P.zip vs) m x=_;unfold bindC;exact mG (i:=i) (nodup_cons.mp nd).2 (by simpa using h1) (by simpa using h2) hk
noncomputable def start(N:List Str)(vs:List V):St:=vs.map some++List.replicate (N.length-vs.length) none
noncomputable def nA(CX:CXT)(P:Program)(w:World)(K:PySem.W.Frag)(mg:Str->Option Value)(base:Heap)(N:List Str)(qual:Str)(scope:Scope)(f:Addr)(cd:Value)(A:Around)(outer:List Env)(s:Shared)(H:Hp)(E:XK):Cx where
 prog:=P
 w:=w
 K:=K
 mg:=mg
 base:=base
 A:=A.deeper (envOfC qual scope s.heap.objs.size f cd)
 N:=N
 s₀:=s
 H₀:=H
 env:=envOfC qual scope s.heap.objs.size f cd
 outer:=outer
 stack:=envOfC qual scope s.heap.objs.size f cd::outer
 ex:=[]
 calm:=true
 fn:=fun _=>true
 pn:=[]
 xe:=fun e s'=>wpAny (model P w) (A.deeper (envOfC qual scope s.heap.objs.size f cd)) (leaving (envOfC qual scope s.heap.objs.size f cd) e) (fun _ s''=>CX outer H s E e s'') (fun e' s''=>CX outer H s E e' s'') s'
theorem oP{sc:Scope}{n:Nat}{x:Str}(h:sc.names.lookup x=some .cell):∃c,(cellsFrom n sc.names []).lookup x=some c:=by
 have q:=cellsFrom_some sc.names n [] (.inl h);exact Option.isSome_iff_exists.mp q
theorem ti{P:Program}{K:PySem.W.Frag}
 (S:ao N ps scope) (hd:A.handled=none) (e0:qA P w K mg base A outer s H) (hl:vs.length=ps.length) (r:aF vs us)
 (x:InCallC s s.heap.objs.size (bindL (envOfC qual scope s.heap.objs.size f cd).kindOf (ps.zip us) fun _=>none) (cellsFrom (s.heap.objs.size+1) scope.names []) (bindC (envOfC qual scope s.heap.objs.size f cd).kindOf (ps.zip us) fun _=>none) s1):
 Inv (nA CX P w K mg base N qual scope f cd A outer s H E) [] (start N vs) H s1:=by
 have hpl:ps.length<=N.length:=by have:=congrArg List.length S.pre;rw[Yd]at this;lia
 obtain⟨h1,tk,rfl,hk⟩:=x.done;have noA:∀b:Addr,b∉(nA CX P w K mg base N qual scope f cd A outer s H E).ex:=fun b z=>absurd (show b∈([]:List Addr)from z) (by simp)
 refine⟨⟨e0.mod,S.kind,rfl,rfl,Zh _,fun y z c h1 h2=>?_,fun y hy=>?_,fun y c _ h=>?_,fun _=>hd,Around.frames_deeper e0.frames,.inr ⟨rfl,rfl⟩,fun b z=>absurd z (noA b),e0.bs,e0.bsz,fun b _ _=>noA b,fun b z=>absurd z (noA b),e0.funs,e0.frf⟩,
  rfl,e0.bare,Un.kept hk,⟨_,x.toInCall.ns,fun i y v h1 h2 h3=>?_⟩,fun y c h=>⟨_,x.cell y c h⟩,e0.hok.fresh (Zh _),fun y c h=>?_,fun p hp=>absurd (show p∈([]:List (Addr×Obj))from hp) (by simp),e0.hok.kept hk,?_⟩
 ·exact name_of_addr x.apart (PySem.mem_of_lookup h1) (PySem.mem_of_lookup h2)
 ·have hy:scope.names.lookup y=some .cell\/scope.names.lookup y=some .free:=hy;rcases hy with hy|hy
  ·exact oP hy
  ·exact absurd rfl (S.nofree _ (PySem.mem_of_lookup hy))
 ·exact le_of_lt (x.above y c (PySem.mem_of_lookup h))
 ·have hi:i<vs.length:=by
   unfold start at h2;by_cases hi:i<vs.length
   ·exact hi
   ·rw[Y4 (by simpa using hi)]at h2;rw[List.getElem?_replicate]at h2
    split at h2<;> cases h2
  have ha:vs[i]? =some v:=by
   unfold start at h2;rw[Y3 (by simpa using hi),Zk]at h2;cases e:vs[i]? with
   | none=>rw[e]at h2;cases h2
   | some a=>rw[e]at h2;cases h2;rfl
  obtain⟨u,hu,rv⟩:=r.get ha;have hp:ps[i]? =some y:=by
   rw[<-S.pre,Y5 (by lia)];exact h1
  have ndP:ps.Nodup:=by rw[<-S.pre];exact S.nd.sublist (List.take_sublist _ _)
  refine⟨u,rv,?_⟩;rcases S.par y (Z7 hp)with k|k
  ·exact .inl ⟨k,mF ndP hp hu k⟩
  ·obtain⟨c,e⟩:=oP (n:=s.heap.objs.size+1) k;refine .inr ⟨.inl k,c,e,?_⟩;have q:=x.cell y c e;rw[mG ndP hp hu (by show scope.names.lookup y≠_;rw[k];decide)]at q;exact q
 ·exact e0.hok.fresh (le_of_lt (x.above y c (PySem.mem_of_lookup h)))
 ·unfold start;show _=N.length;rw[Z8,Z5,List.length_replicate]
  lia
theorem BY{P:Program}{K:PySem.W.Frag}{dV kV doc pm cdv ct oc:Value}
 (lk:K.lookup f=some ⟨oc,od,.func (fnOf name qual params body scope dV kV doc pm an cdv ct),osl⟩) (hcd:codeIn K cdv qual=true) (S:ao N ps scope)
 (len:∀vs H Q E,sp vs H Q E->vs.length=ps.length)
 (hbody:∀(A:Around) (outer:List Env) (s:Shared) (H:Hp) (vs:List V) (Q:VK) (E:XK),bS k (A.deeper (envOfC qual scope s.heap.objs.size f cdv))->sp vs H Q E->
  ∃t,PSs (nA CX P w K mg base N qual scope f cdv A outer s H E) body t/\t {nx:=fun _ H'=>Q .non H',rt:=Q} (start N vs) H):
 hJ P w K mg base CX (k+1) f (fnOf name qual params body scope dV kV doc pm an cdv ct) ps sp:=by
 refine⟨len,fun A outer s H args us vs Q E hr e0 hb r hsp=>?_⟩;have hl:=len _ _ _ _ hsp;have KX:K.In s.heap:=e0.mod.kin.keeps fun b o e=>(e0.bs b o e).1
 have lim:s.heap.NoLimit:=e0.mod.nolimit.keeps fun b o e=>(e0.bs b o e).1
 have hkind:∀y∈ps.zip us,scope.names.lookup y.1=some .local\/(scope.names.lookup y.1=some .cell/\((cellsFrom (s.heap.objs.size+1) scope.names []).lookup y.1).isSome=true):=fun⟨n,v⟩ hy=>by
  rcases S.par n (of_mem_zip hy).1 with q|q
  ·exact .inl q
  ·exact .inr ⟨q,cellsFrom_some _ _ _ (.inl q)⟩
 refine codeAny_call_function hr.depth (KX _ _ lk) rfl S.co S.gen rfl (PySem.W.codeRec_of KX hcd) (hb _ _ _ _ ?_);refine wpAny_newFunctionEnv_cells S.kind hkind fun env he s1 x=>?_
 subst he;refine⟨lim.keeps x.toInCall.keep,codeAny_func ?_⟩;obtain⟨t,ht,hq⟩:=hbody A outer s H vs Q E (hr.deeper _) hsp;have I:Inv (nA CX P w K mg base N qual scope f cdv A outer s H E) [] (start N vs) H s1:=ti S hr.hd e0 hl r x;refine wpAny_mono (ht [] s1 (start N vs) H _ I hq) (fun fl s' hs=>?_) fun e s' hs=>hs
 have fin:∀{σ':St} {H':Hp} {v:V} {u:Value},Inv (nA CX P w K mg base N qual scope f cdv A outer s H E) [] σ' H' s'->aJ v u->Q v H'->CE outer P w H s Q u s':=
  fun{σ' H' v u} J rv q=>⟨v,H',J.os,J.bare,J.base,J.hok,rv,q⟩
 cases fl with
 | ret u=>
   obtain⟨v,σ',H',J,rv,q⟩:=hs;exact fin J rv q
 | next=>
   obtain⟨σ',H',J,q⟩:=hs;exact fin (v:=V.non) (u:=Value.none) J rfl q
 | brk=>
   obtain⟨_,_,_,q⟩:=hs;exact False.elim q
 | cont=>
   obtain⟨_,_,_,q⟩:=hs;exact False.elim q
section
variable{X:Cx}{x:Str}{p pos:Pos}{e:Expr}{es:List Expr}{t:TA}{id T:String}{r:List V->Hp->VK->Prop}
def tCB(r:List V->Hp->VK->Prop)(t:TA):TE:=fun σ H Q=>t σ H fun vs H1=>r vs H1 Q
theorem vP(hc:bN X (.builtin id) r)(hg:Gl X x)(hm:X.mg x=none)(hv:bootBuiltins x=some (.builtin id))(ha:PA X (e::es) t)(hn:x≠"__name__")(hdb:(x==("__debug__":Str))=false)
 (he:starEach (e::es) X.env=(false,eval e X.env)::starEach es X.env) (hpl:(backTo pos (starEach es X.env)).any (·.1)=false):PE X (.Call (.Name x p) (e::es) [] pos) (tCB r t):=by
 intro pins s σ H Q I h;refine wpAny_Call_Name_kw (gY I hg hm hv ?_ hn hdb);exact PyProof.Rows.callWith_builtin1 (thn (ha pos pins s σ H _ I h) fun us s1 ⟨vs,H1,I1,r1,q1⟩=>hc pins s1 σ H1 vs us Q I1 r1 q1) he hpl
theorem tt(hc:bN X (.type T) r)(hg:Gl X x)(hm:X.mg x=none)(hv:bootBuiltins x=some (.type T))(ha:PA X (e::es) t)(hn:x≠"__name__")(hdb:(x==("__debug__":Str))=false)
 (he:starEach (e::es) X.env=(false,eval e X.env)::starEach es X.env) (hpl:(backTo pos (starEach es X.env)).any (·.1)=false):PE X (.Call (.Name x p) (e::es) [] pos) (tCB r t):=by
 intro pins s σ H Q I h;refine wpAny_Call_Name_kw (gY I hg hm hv ?_ hn hdb);exact PyProof.Rows.callWith_type1 (thn (ha pos pins s σ H _ I h) fun us s1 ⟨vs,H1,I1,r1,q1⟩=>hc pins s1 σ H1 vs us Q I1 r1 q1) he hpl
end
end L2
namespace HT
open PySem PyProof.Rows
section
open PySem.SeqAt
open PySem.AutoSeq1 (wpAny_loadPart')
open PySem.MeetsSeq PySem.MeetsSeq2 PySem.MeetsSeq3
end
section
variable{prog:Program}{w:World}{A:Around}{E:Value->Shared->Prop}{s:Shared}
noncomputable def sIx(n d:Nat):Option Int->Nat
 | none=>d
 | some v=>if v<0 then(v+(n:Int)).toNat else min v.toNat n
theorem sIx_none(n d:Nat):sIx n d none=d:=rfl
theorem sIx_nat(n d k:Nat):sIx n d (some (k:Int))=min k n:=by
 show(if(k:Int)<0 then((k:Int) +(n:Int)).toNat else min (k:Int).toNat n)=min k n;rw[if_neg (by lia),Int.toNat_natCast]
theorem Ar(n d:Nat)(hd:d<=n)(o:Option Int):sIx n d o<=n:=by
 cases o with
 | none=>exact hd
 | some v=>
   show(if v<0 then(v+(n:Int)).toNat else min v.toNat n)<=n;by_cases hv:v<0
   ·rw[if_pos hv];lia
   ·rw[if_neg hv];exact Nat.min_le_right _ _
theorem sd(v:Int)(n d:Nat):(if v<0 then max (v+(n:Int)) 0 else min v (n:Int))=((sIx n d (some v):Nat):Int):=by
 show(if v<0 then max (v+(n:Int)) 0 else min v (n:Int))=(((if v<0 then(v+(n:Int)).toNat else min v.toNat n):Nat):Int)
 by_cases hv:v<0
 ·simp only[if_pos hv];lia
 ·simp only[if_neg hv];lia
theorem qB(lo hi:Option Int)(n:Nat):Builtin.Slice.sliceAdjust lo hi 1 (n:Int)=(((sIx n 0 lo:Nat):Int),((sIx n n hi:Nat):Int)):=by
 have h1: ¬ ((1:Int)<0):=by lia
 unfold Builtin.Slice.sliceAdjust;simp only[h1,if_false];refine Prod.ext ?_ ?_
 ·cases lo with
  | none=>rfl
  | some v=>exact sd v n 0
 ·cases hi with
  | none=>rfl
  | some v=>exact sd v n n
theorem qC(i j:Nat):Builtin.Slice.slicePlaces (i:Int) (j:Int) 1=j-i:=by
 unfold Builtin.Slice.slicePlaces;have h1:(1:Int)>0:=by lia
 simp only[h1,if_true,Int.ediv_one]
 split<;> lia
theorem kH(p:IsPart v o)(h:Q o s):wpAny (model prog w) A (Builtin.Slice.slicePartIndex v) Q E s:=by
 cases p with
 | none=>exact slicePart_none h
 | int i t=>exact slicePart_int h
theorem jf{lo hi:Option Int}{n:Nat}(hs:s.heap.IsSliceOf sl vl vu .none)(pl:IsPart vl lo)(pu:IsPart vu hi)
 (h:Q (((sIx n 0 lo:Nat):Int),1,sIx n n hi-sIx n 0 lo) s):wpAny (model prog w) A (Builtin.Slice.sliceApplied (.ref sl) (pure (n:Int))) Q E s:=by
 obtain⟨os,hos,hcs,hds⟩:=id hs;unfold Builtin.Slice.sliceApplied Builtin.Slice.sliceFields;refine Z2 (Z2 (wpAny_field hos hds (x:=vl) rfl (Z2 (wpAny_field hos hds (x:=vu) rfl (Z2 (wpAny_field hos hds (x:= .none) rfl (Z3 ?_)))))));refine Z2 (slicePart_none ?_);show wpAny _ _ (if((1:Int)==0)=true then _ else _) _ _ s;rw[if_neg (by decide)];refine Z2 (kH pl (Z2 (kH pu (Z2 (Z3 ?_)))));show wpAny _ _ (match Builtin.Slice.sliceAdjust lo hi 1 (n:Int)with|(lo,hi)=>pure (lo,(1:Int),Builtin.Slice.slicePlaces lo hi 1)) _ _ s;rw[qB lo hi n];show wpAny _ _ (pure (((sIx n 0 lo:Nat):Int),(1:Int),Builtin.Slice.slicePlaces ((sIx n 0 lo:Nat):Int) ((sIx n n hi:Nat):Int) 1)) _ _ s;rw[qC];exact Z3 h
theorem vQ(xs:Array Value)(i k:Nat):((List.range k).filterMap fun(m:Nat)=>xs[((i:Int) +(m:Int)*1).toNat]?).toArray=((xs.toList.drop i).take k).toArray:=by
 have e:(fun(m:Nat)=>xs[((i:Int) +(m:Int)*1).toNat]?)=fun m=>xs[i+m]? :=by
  funext m;have:((i:Int) +(m:Int)*1).toNat=i+m:=by lia
  rw[this]
 rw[e];have:=pick_run xs i k;rw[List.filterMap_map]at this;have e2:((fun x=>xs[x]?) ∘ fun x=>i+x)=fun m=>xs[i+m]? :=rfl
 rw[e2]at this;rw[this]
theorem getItem_tuple_cut{lo hi:Option Int}(ht:IsTup s.heap t items)(hs:s.heap.IsSliceOf sl vl vu .none)(pl:IsPart vl lo)(pu:IsPart vu hi)
 (hw: ¬ (sIx items.size 0 lo=0/\sIx items.size items.size hi=items.size))
 (h:Q (.ref s.heap.objs.size) {s with heap:=s.heap.push {cls:= .type "tuple",data:= .seq ((items.toList.drop (sIx items.size 0 lo)).take (sIx items.size items.size hi-sIx items.size 0 lo)).toArray}})
 (hsz:items.size<=sizeLine):wpAny (model prog w) A (getItem (.ref t) (.ref sl)) Q E s:=by
 have htake:sizeOk (.seq ((items.toList.drop (sIx items.size 0 lo)).take (sIx items.size items.size hi-sIx items.size 0 lo)).toArray):=by
  show((items.toList.drop (sIx items.size 0 lo)).take (sIx items.size items.size hi-sIx items.size 0 lo)).toArray.size<=sizeLine;rw[Zo,Yd,Y9,Za]
  lia
 have hj:sIx items.size items.size hi<=items.size:=Ar _ _ (Zh _) hi;obtain⟨os,hos,hcs,hds⟩:=id hs;have hTs:s.TypeIs (.ref sl) "slice":=⟨os,hos,hcs⟩
 unfold getItem
 try with_reducible refine wpAny_holding ?_
 first|refine Z2 (Z3 ?_)|skip
 refine Z2 (wpAny_sequenceKey ht.typeIs (by decide) ?_);refine Z2 (wpAny_callSpecial?_slot (name:=Str.ofString "__getitem__") ht.typeIs PyProof.Rows.slot_tuple_getitem
  (wpAny_call_entry PyProof.Rows.slot_tuple_getitem ht.typeIs entry_tuple_getitem ?_ (args_tuple_getitem _ _)))
 show wpAny _ _ (Builtin.Tuple.tupleItemsOf (.ref t)>>= _) _ _ s;refine Z2 (tupleItemsOf_ ht ?_);refine Z2 (wpAny_typeOf hTs ?_);rw[if_pos (by decide)];refine Z2 (jf hs pl pu ?_);have hno: ¬ ((((sIx items.size 0 lo:Nat):Int)==0&&(1:Int)==1&&(sIx items.size items.size hi-sIx items.size 0 lo)==items.size)=true):=by
  intro q;rw[Zu,Zu]at q;have q1:((sIx items.size 0 lo:Nat):Int)=0:=eq_of_beq q.1.1;have q2:sIx items.size items.size hi-sIx items.size 0 lo=items.size:=eq_of_beq q.2;exact hw ⟨by lia,by lia⟩
 show wpAny _ _ (if(((sIx items.size 0 lo:Nat):Int)==0&&(1:Int)==1&&(sIx items.size items.size hi-sIx items.size 0 lo)==items.size)=true then _ else _) _ _ s;rw[if_neg hno,vQ]
 first
  | exact Z2 (m:=Builtin.Tuple.tupleExact _) (wpAny_newObj_type (Z3 ⟨_,rfl,Z3 h⟩) htake)
  | exact Z2 (m:=Builtin.Tuple.tupleExact _) (wpAny_newObj_type (Z2 (Z3 (Z3 ⟨_,rfl,Z3 h⟩))) htake)
  | exact Z2 (Z2 (m:=Builtin.Tuple.tupleExact _) (wpAny_newObj_type (Z3 (Z3 ⟨_,rfl,Z3 h⟩)) htake))
  | exact Z2 (Z2 (m:=Builtin.Tuple.tupleExact _) (wpAny_newObj_type (Z3 ⟨_,rfl,Z3 h⟩) htake))
end
end HT
namespace L2
open PySem PySem.Spec PyProof.Rows
noncomputable abbrev TO:=St->Hp->(Option Int->Hp->Prop)->Prop
def PO(X:Cx)(e:Option Expr)(t:TO):Prop:=
 ∀(pins:List (Addr×Obj)) (s:Shared) (σ:St) (H:Hp) (Q:Option Int->Hp->Prop),Inv X pins σ H s->t σ H Q->
  wpAny (model X.prog X.w) X.A (evalPart e X.env) (fun u s'=>∃o H',Inv X pins σ H' s'/\IsPart u o/\Q o H') X.xe s
def nB:TO:=fun _ H Q=>Q none H
def vR(t:TE):TO:=fun σ H Q=>t σ H fun x H1=>asI x fun i=>Q (some i) H1
section
variable{X:Cx}{e:Expr}{te:TE}{lo hi:Option Expr}{tl th:TO}{pos p2:Pos}
theorem yi:PO X none nB:=by
 intro pins s σ H Q I h;rw[evalPart_none];exact Z3 ⟨none,H,I,.none,h⟩
theorem yj(h:PE X e te):PO X (some e) (vR te):=by
 intro pins s σ H Q I hw;rw[evalPart_some];refine thn (h pins s σ H _ I hw) fun u s1 ⟨x,H1,I1,r1,q1⟩=>?_
 obtain⟨i,rfl,q⟩:=fN q1;obtain⟨t,rfl⟩:=r1;exact⟨some i,H1,I1,.int i t,q⟩
def SlR(X:Cx)(r:V->Option Int->Option Int->Hp->VK->Prop):Prop:=
 ∀(pins:List (Addr×Obj)) (s:Shared) (σ:St) (H:Hp) (x:V) (v vl vu:Value) (lo hi:Option Int) (sl:Addr) (Q:VK),Inv X pins σ H s->aJ x v->s.heap.IsSliceOf sl vl vu .none->IsPart vl lo->IsPart vu hi->r x lo hi H Q->
  ∃T id,typeLookup (.type T) "__getitem__"=pure (some (.builtin id))/\s.TypeIs v T/\wpAny (model X.prog X.w) X.A (getItem v (.ref sl)) (EP X pins σ Q) X.xe s
theorem SlR.or(h:SlR X r)(h':SlR X r'):SlR X (fun x lo hi H Q=>r x lo hi H Q\/r' x lo hi H Q):=by
 intro pins s σ H x v vl vu lo hi sl Q I rx hs pl pu q;rcases q with q|q
 ·exact h pins s σ H x v vl vu lo hi sl Q I rx hs pl pu q
 ·exact h' pins s σ H x v vl vu lo hi sl Q I rx hs pl pu q
def tSl(r:V->Option Int->Option Int->Hp->VK->Prop)(te:TE)(tl th:TO):TE:=fun σ H Q=>te σ H fun x H1=>tl σ H1 fun l H2=>th σ H2 fun u H3=>r x l u H3 Q
theorem vS(hr:SlR X r)(he:PE X e te)(hl:PO X lo tl)(hu:PO X hi th):PE X (.Subscript e (.Slice lo hi none p2) pos) (tSl r te tl th):=by
 intro pins s σ H Q I h;refine Subscript_ (thn (he pins s σ H _ I h) fun v s1 ⟨x,H1,I1,r1,q1⟩=>?_);refine wpAny_Slice (thn (hl pins s1 σ H1 _ I1 q1) fun vl s2 ⟨l,H2,I2,pl,q2⟩=>thn (hu pins s2 σ H2 _ I2 q2) fun vu s3 ⟨u,H3,I3,pu,q3⟩=>?_);rw[evalPart_none];refine Z3 ?_;have I4:Inv X pins σ H3 {s3 with heap:=s3.heap.push {cls:= .type "slice",data:= .fields #[vl,vu,.none]}}:=I3.kept (t':=s3.toks) fun b ob q=>Z6 _ q
 obtain⟨T,id,hT,ht,hg⟩:=hr pins {s3 with heap:=s3.heap.push {cls:= .type "slice",data:= .fields #[vl,vu,.none]}} σ H3 x v vl vu l u s3.heap.objs.size Q I4 r1 (Heap.IsSliceOf.new ..) pl pu q3;show wpAny (model X.prog X.w) X.A (subscriptTail e (.Slice lo hi none p2) v (.ref s3.heap.objs.size)) (EP X pins σ Q) X.xe {s3 with heap:=s3.heap.push {cls:= .type "slice",data:= .fields #[vl,vu,.none]}};exact tail_any (ops:=[.ref s3.heap.objs.size,v]) ht hT hg (by with_unfolding_all rfl)
noncomputable def lS(xs:List V)(lo hi:Option Int):List V:=(xs.drop (HT.sIx xs.length 0 lo)).take (HT.sIx xs.length xs.length hi-HT.sIx xs.length 0 lo)
theorem jO(xs:List V)(lo hi:Option Int):(lS xs lo hi).length<=xs.length:=by
 unfold lS;rw[Yd,Y9]
 lia
def As(K:PySem.W.Frag):V->Option Int->Option Int->Hp->VK->Prop:=fun x lo hi H Q=>∃a xs,x= .ref a/\SqT K H a xs/\
 ¬ (HT.sIx xs.length 0 lo=0/\HT.sIx xs.length xs.length hi=xs.length)/\∀p,H p=none->Q (.ref p) (upd H p (.tup (lS xs lo hi)))
theorem At:SlR X (As X.K):=by
 intro pins s σ H x v vl vu lo hi sl Q I rx hs pl pu h;obtain⟨a,xs,rfl,hx,hw,q⟩:=h;cases rx;obtain⟨its,r,ht,hz⟩:=I.tuple hx;have hlen:its.toArray.size=xs.length:=by rw[Zo];exact r.length.symm
 refine⟨"tuple",_,PyProof.Rows.slot_tuple_getitem.lookup,ht.typeIs,?_⟩;refine HT.getItem_tuple_cut ht hs pl pu (by rw[hlen];exact hw) ?_ (by rw[hlen];exact hz);rw[hlen];refine⟨.ref s.heap.objs.size,_,I.laid (t':=s.toks) (o:= .tup (lS xs lo hi)) (fun b ob q=>Z6 _ q) (Zh _) ?_,rfl,q _ (I.hok.fresh (Zh _))⟩;exact⟨Y8 (jO xs lo hi) hz,_,(r.drop (HT.sIx xs.length 0 lo)).take (HT.sIx xs.length xs.length hi-HT.sIx xs.length 0 lo),IsTup.new _ _⟩
end
noncomputable def ixN(n:Nat)(i:Int):Option Nat:=if 0<=i then(if i<n then some i.toNat else none)else if -(n:Int)<=i then some (i+n).toNat else none
noncomputable def atI{α:Type}(xs:List α)(i:Int):Option α:=(ixN xs.length i).bind fun j=>xs[j]?
theorem yk(h:ixN n i=some j):seqIndex? i n=some j/\j<n/\ -(n:Int)<=i/\i<n:=by
 unfold ixN at h;by_cases h0:0<=i
 ·rw[if_pos h0]at h;by_cases h1:i<n
  ·rw[if_pos h1]at h;have e:i.toNat=j:=Z9 h;exact⟨by rw[seqIndex_of h0 h1,e],by lia,by lia,h1⟩
  ·rw[if_neg h1]at h;cases h
 ·rw[if_neg h0]at h;by_cases h1: -(n:Int)<=i
  ·rw[if_pos h1]at h;have e:(i+n).toNat=j:=Z9 h;exact⟨by rw[seqIndex_neg (by lia) h1,e],by lia,h1,by lia⟩
  ·rw[if_neg h1]at h;cases h
theorem nC{α:Type}{xs:List α}{i:Int}{v:α}(h:atI xs i=some v):∃j,seqIndex? i xs.length=some j/\xs[j]? =some v/\j<xs.length/\ -(xs.length:Int)<=i/\i<xs.length:=by
 unfold atI at h;cases e:ixN xs.length i with
 | none=>rw[e]at h;cases h
 | some j=>
   rw[e]at h;obtain⟨h1,h2,h3,h4⟩:=yk e;exact⟨j,h1,h,h2,h3,h4⟩
theorem ci{α:Type}{xs:List α}{j:Nat}{v:α}(h:xs[j]? =some v):atI xs (j:Int)=some v:=by
 have hj:j<xs.length:=(X6 h).1;have e:ixN xs.length (j:Int)=some j:=by
  unfold ixN;rw[if_pos (by lia),if_pos (by lia)];simp
 unfold atI;rw[e];exact h
theorem oQ(xs:List α)(v:α):atI (xs++[v]) (-1)=some v:=by
 have hl:(xs++[v]).length=xs.length+1:=by simp
 have e:ixN (xs++[v]).length (-1)=some xs.length:=by
  unfold ixN;rw[hl,if_neg (by decide),if_pos (by lia)]
  congr 1
  lia
 unfold atI;rw[e];show(xs++[v])[xs.length]? =some v;simp
def kl(b:Expr):Prop:=∀o i,subscripted b false o i=operate [o,i] (getItem o i)
def IxR(X:Cx)(r:R2):Prop:=
 ∀(value slice:Expr) (pins:List (Addr×Obj)) (s:Shared) (σ:St) (H:Hp) (x y:V) (v u:Value) (Q:VK),Inv X pins σ H s->aJ x v->aJ y u->r x y H Q->
  subscripted slice false v u=operate [v,u] (getItem v u)->wpAny (model X.prog X.w) X.A (subscriptTail value slice v u) (EP X pins σ Q) X.xe s
def MtR(X:Cx)(id:String)(r:V->List V->Hp->VK->Prop):Prop:=
 ∀(pins:List (Addr×Obj)) (s:Shared) (σ:St) (H:Hp) (x:V) (xs:List V) (v:Value) (us:List Value) (Q:VK),Inv X pins σ H s->aJ x v->aF xs us->r x xs H Q->
  wpAny (model X.prog X.w) X.A (call (.builtin id) (v::us)) (EP X pins σ Q) X.xe s
section
variable{X:Cx}{a b:Expr}{ta tb:TE}{pos:Pos}
theorem vT(hr:IxR X r)(ha:PE X a ta)(hb:PE X b tb)(hs:kl b):PE X (.Subscript a b pos) (tOp r ta tb):=by
 intro pins s σ H Q I h;exact Subscript_ (Ab ha hb I h fun v u s2 x y H2 I2 rx ry q=>hr a b pins s2 σ H2 x y v u Q I2 rx ry q (hs _ _))
def Au(K:PySem.W.Frag):R2:=fun x y H Q=>asR x fun p=>asI y fun i=>∃xs,SqL K H p xs/\∃v,atI xs i=some v/\Q v H
def Av(K:PySem.W.Frag):R2:=fun x y H Q=>asR x fun p=>asI y fun i=>∃xs,SqT K H p xs/\∃v,atI xs i=some v/\Q v H
def Aw:R2:=fun x y H Q=>∃z i c,x= .str z/\y= .int i/\z.length<=sizeLine/\atI z.cps.toList i=some c/\Q (.str ⟨#[c]⟩) H
theorem yl:IxR X (Au X.K):=by
 intro value slice pins s σ H x y v u Q I rx ry h hs;obtain⟨p,rfl,h2⟩:=dM h;obtain⟨i,rfl,xs,hq,z,he,q⟩:=fN h2;cases rx;obtain⟨t,rfl⟩:=ry;obtain⟨its,r,pl,hz⟩:=I.list hq;obtain⟨j,h1,h2,h3,h4,h5⟩:=nC he;obtain⟨w,ew,rw'⟩:=r.get h2;have hl:=r.length;have hn:=kF;have fin:EP X pins σ Q w s:=⟨z,H,I,rw',q⟩
 by_cases h0:0<=i
 ·have hj:i.toNat=j:=by
   rw[seqIndex_of h0 h5]at h1;exact Z9 h1
  exact item_listR pl.isList h0 (by lia) (by rw[hj];simpa using ew) fin hs
 ·have hj:(i+(its.toArray.size:Int)).toNat=j:=by
   rw[seqIndex_neg (by lia) h4]at h1;rw[Zo,<-hl];exact Z9 h1
  exact subscriptTail_builtinR (x:=w) pl.isList.typeIs slot_list_getitem.lookup
   (wpAny_getItem_list_neg (Q:=fun r s'=>r=w/\EP X pins σ Q r s') pl.isList (by lia) (by rw[Zo]<;> lia) (by lia) (by rw[hj];simpa using ew) ⟨rfl,fin⟩) hs
theorem Ax:IxR X (Av X.K):=by
 intro value slice pins s σ H x y v u Q I rx ry h hs;obtain⟨p,rfl,h2⟩:=dM h;obtain⟨i,rfl,xs,hq,z,he,q⟩:=fN h2;cases rx;obtain⟨t,rfl⟩:=ry;obtain⟨its,r,pl,hz⟩:=I.tuple hq;obtain⟨j,h1,h2,h3,h4,h5⟩:=nC he;obtain⟨w,ew,rw'⟩:=r.get h2;have hl:=r.length;have hn:=kF;have fin:EP X pins σ Q w s:=⟨z,H,I,rw',q⟩
 exact subscriptTail_builtinR (x:=w) pl.typeIs slot_tuple_getitem.lookup
  (getItem_tuple (j:=j) (Q:=fun r s'=>r=w/\EP X pins σ Q r s') pl (by lia) (by lia) (by rw[Zo,<-hl];exact h1) (by simpa using ew) ⟨rfl,fin⟩) hs
theorem Ay:IxR X Aw:=by
 intro value slice pins s σ H x y v u Q I rx ry h hs;obtain⟨z,i,c,rfl,rfl,hz,he,q⟩:=h;obtain⟨t,rfl⟩:=rx;obtain⟨t',rfl⟩:=ry;obtain⟨j,h1,h2,h3,h4,h5⟩:=nC he;have hl:z.cps.toList.length=z.length:=by simp[Str.length]
 rw[hl]at h1 h4 h5;have hn:=kF;exact tail_any (typeIs_str s z t) slot_str_getitem.lookup (getItem_str (c:=c) (by
  have e1:decide (i< -(2^63:Int))=false:=Zg (by lia);have e2:decide (i>=2^63)=false:=Zg (by lia);rw[e1,e2,Bool.or_false]) (by rw[h1];simpa using h2) ⟨.str ⟨#[c]⟩,H,I.tok _,⟨_,rfl⟩,q⟩) hs
theorem nD(lo hi:Option Int)(n:Nat):(sliceBounds lo hi none n).1=((HT.sIx n 0 lo:Nat):Int)/\(sliceBounds lo hi none n).2.1=((HT.sIx n n hi:Nat):Int)/\(sliceBounds lo hi none n).2.2=1:=by
 refine⟨?_,?_,rfl⟩
 ·cases lo with
  | none=>simp[sliceBounds,HT.sIx]
  | some i=>
    simp only[sliceBounds,HT.sIx,getD_none,show(1:Int)>0 by decide,if_true];by_cases h:i<0
    ·simp only[h,if_true]<;> lia
    ·simp only[h,if_false]<;> lia
 ·cases hi with
  | none=>simp[sliceBounds,HT.sIx]
  | some i=>
    simp only[sliceBounds,HT.sIx,getD_none,show(1:Int)>0 by decide,if_true];by_cases h:i<0
    ·simp only[h,if_true]<;> lia
    ·simp only[h,if_false]<;> lia
theorem lT(its:List Value)(lo hi:Option Int):slicePick its.toArray lo hi none=((its.drop (HT.sIx its.length 0 lo)).take (HT.sIx its.length its.length hi-HT.sIx its.length 0 lo)).toArray:=by
 obtain⟨h1,h2,h3⟩:=nD lo hi its.toArray.size;unfold slicePick;rw[h1,h2,h3];simp only[sliceRange_one,pick_run,Zo]<;> rfl
def Az(K:PySem.W.Frag):V->Option Int->Option Int->Hp->VK->Prop:=fun x lo hi H Q=>∃a xs,x= .ref a/\SqL K H a xs/\∀p,H p=none->Q (.ref p) (upd H p (.lst (lS xs lo hi)))
theorem ym:SlR X (Az X.K):=by
 intro pins s σ H x v vl vu lo hi sl Q I rx hs pl pu h;obtain⟨a,xs,rfl,hx,q⟩:=h;cases rx;obtain⟨its,r,ht,hz⟩:=I.list hx;have hlen:=r.length;refine⟨"list",_,slot_list_getitem.lookup,ht.isList.typeIs,?_⟩;refine wpAny_getItem_list_slice ht.isList hs pl pu .none (by simp) ?_ (by rw[Zo]<;> lia);rw[lT,<-hlen];refine⟨.ref s.heap.objs.size,_,I.laid (t':=s.toks) (o:= .lst (lS xs lo hi)) (fun b ob q=>Z6 _ q) (Zh _) ?_,rfl,q _ (I.hok.fresh (Zh _))⟩;exact⟨Y8 (jO xs lo hi) hz,_,0,(r.drop (HT.sIx xs.length 0 lo)).take (HT.sIx xs.length xs.length hi-HT.sIx xs.length 0 lo),Zi _ rfl⟩
noncomputable def en:V->Bool
 | .non=>true
 | .bl _=>true
 | .int _=>true
 | .str _=>true
 | _=>false
noncomputable def eqV:V->V->Bool
 | .non,.non=>true
 | .bl a,.bl b=>a==b
 | .bl a,.int b=>(if a then 1 else 0)==b
 | .int a,.bl b=>a==(if b then 1 else 0)
 | .int a,.int b=>a==b
 | .str a,.str b=>a==b
 | _,_=>false
theorem AA(ry:aJ y u)(rx:aJ x v)(fy:en y=true)(fx:en x=true):SeqAt.EqAt A s u v (eqV y x):=by
 cases y with
 | non=>
   cases ry;cases x with
   | non=>cases rx;exact SeqAt.EqAt.same _
   | bl b=>cases rx;exact SeqAt.EqAt.none_bool b
   | int b=>obtain⟨t,rfl⟩:=rx;exact SeqAt.EqAt.none_int b t
   | str b=>obtain⟨t,rfl⟩:=rx;exact SeqAt.EqAt.none_str b t
   | _=>exact absurd (show false=true from fx) Zs
 | bl a=>
   cases ry;cases x with
   | non=>cases rx;exact SeqAt.EqAt.bool_none a
   | bl b=>cases rx;exact SeqAt.EqAt.bool_bool a b
   | int b=>obtain⟨t,rfl⟩:=rx;exact SeqAt.EqAt.bool_int a b t
   | str b=>obtain⟨t,rfl⟩:=rx;exact SeqAt.EqAt.bool_str a b t
   | _=>exact absurd (show false=true from fx) Zs
 | int a=>
   obtain⟨t',rfl⟩:=ry;cases x with
   | non=>cases rx;exact SeqAt.EqAt.int_none a t'
   | bl b=>cases rx;exact SeqAt.EqAt.int_bool a t' b
   | int b=>obtain⟨t,rfl⟩:=rx;exact SeqAt.EqAt.int_int a t' b t
   | str b=>obtain⟨t,rfl⟩:=rx;exact SeqAt.EqAt.int_str a t' b t
   | _=>exact absurd (show false=true from fx) Zs
 | str a=>
   obtain⟨t',rfl⟩:=ry;cases x with
   | non=>cases rx;exact SeqAt.EqAt.str_none a t'
   | bl b=>cases rx;exact SeqAt.EqAt.str_bool a t' b
   | int b=>obtain⟨t,rfl⟩:=rx;exact SeqAt.EqAt.str_int a t' b t
   | str b=>obtain⟨t,rfl⟩:=rx;exact SeqAt.EqAt.str_str a t' b t
   | _=>exact absurd (show false=true from fx) Zs
 | _=>exact absurd (show false=true from fy) Zs
noncomputable def eqU(x:V)(u:Value):Bool:=match u with
 | .none=>eqV .non x
 | .bool b=>eqV (.bl b) x
 | .int i _=>eqV (.int i) x
 | .str z _=>eqV (.str z) x
 | _=>false
theorem vU(r:aJ y u)(f:en y=true):eqU x u=eqV y x:=by
 cases y with
 | non=>cases r;rfl
 | bl b=>cases r;rfl
 | int i=>obtain⟨t,rfl⟩:=r;rfl
 | str z=>obtain⟨t,rfl⟩:=r;rfl
 | _=>exact absurd (show false=true from f) Zs
theorem nE:∀{xs:List V} {us:List Value},aF xs us->xs.all en=true->us.any (eqU x)=xs.any fun y=>eqV y x
 | _,_,.nil,_=>rfl
 | y::xs,u::us,.cons r t,f=>by
   rw[List.all_cons,Zu]at f;rw[Zv,Zv,vU r f.1,nE t f.2]
theorem kI(rx:aJ x v)(fx:en x=true):∀{xs:List V} {us:List Value},aF xs us->xs.all en=true->∀u∈us,SeqAt.EqAt A s u v (eqU x u)
 | _,_,.nil,_=>fun u hu=>by cases hu
 | y::xs,u::us,.cons r t,f=>fun u' hu=>by
   rw[List.all_cons,Zu]at f;rcases mem_cons.mp hu with rfl|hu
   ·rw[vU r f.1];exact AA r rx f.1 fx
   ·exact kI rx fx t f.2 u' hu
noncomputable def inV(x:V)(xs:List V):Bool:=xs.any fun y=>eqV y x
def rIn(K:PySem.W.Frag)(neg:Bool):R2:=fun x y H Q=>∃p xs,y= .ref p/\(SqL K H p xs\/SqT K H p xs)/\en x=true/\xs.all en=true/\Q (.bl (if neg then !inV x xs else inV x xs)) H
theorem tz:OpR X (compareOp .In) (rIn X.K false):=by
 intro pins s σ H x y v u Q I rx ry h;obtain⟨p,xs,rfl,hq,fx,fs,q⟩:=h;cases ry;rcases hq with hq|hq
 ·obtain⟨its,r,pl,hz⟩:=I.list hq;refine SeqAt.in_listAt (eqU x) pl.isList (fun w hw=>kI rx fx r fs w (by simpa using hw)) ⟨.bl _,H,I,rfl,?_⟩;rw[show its.toArray.any (eqU x)=its.any (eqU x) by simp,nE r fs];exact q
 ·obtain⟨its,r,pl,hz⟩:=I.tuple hq;refine SeqAt.in_tupleAt (eqU x) pl (fun w hw=>kI rx fx r fs w (by simpa using hw)) ⟨.bl _,H,I,rfl,?_⟩;rw[show its.toArray.any (eqU x)=its.any (eqU x) by simp,nE r fs];exact q
theorem nF:bN X (.type "list") (fun xs H Q=>∃p ys,xs=[.ref p]/\(SqL X.K H p ys\/SqT X.K H p ys)/\∀l,H l=none->Q (.ref l) (upd H l (.lst ys))):=by
 intro pins s σ H xs us Q I r h;obtain⟨p,ys,rfl,hq,q⟩:=h;obtain⟨u,rfl,rx⟩:=df r;cases rx;have fin:∀(its:List Value),aF ys its->ys.length<=sizeLine->∀(h':Heap) (c':Nat),(∀b o',s.heap.get? b=some o'->h'.get? b=some o')->
  h'.get? s.heap.objs.size=some {cls:= .type "list",dict:=none,data:= .seq its.toArray c',slots:= #[]}->EP X pins σ Q (.ref s.heap.objs.size) {s with heap:=h'}:=fun its r' hz h' c' kp e=>
  ⟨.ref s.heap.objs.size,_,I.laid (t':=s.toks) kp (Zh _) (show bh X.prog X.w _ h' _ (.lst ys)from⟨hz,its,c',r',e⟩),rfl,q _ (I.hok.fresh (Zh _))⟩
 rcases hq with hq|hq
 ·obtain⟨its,r',pl,hz⟩:=I.list hq;have hlen:=r'.length;obtain⟨o,ho,hc,n,hd⟩:=pl.isList;exact call_list_seq p (.inl rfl) ho hc hd (fun h' c' kp e=>fin its r' hz h' c' kp e) (by simp only[Zo]<;> lia)
 ·obtain⟨its,r',pl,hz⟩:=I.tuple hq;have hlen:=r'.length;obtain⟨o,ho,hc,n,hd⟩:=pl;exact call_list_seq p (.inr rfl) ho hc hd (fun h' c' kp e=>fin its r' hz h' c' kp e) (by simp only[Zo]<;> lia)
def tyV(K:PySem.W.Frag)(T:String)(x:V)(H:Hp):Prop:=match x with
 | .str _=>T="str"
 | .int _=>T="int"
 | .ref p=>(T="list"/\∃xs,SqL K H p xs)\/(T="tuple"/\∃o,K.lookup p=some o/\o.cls= .type "tuple"/\o.dict=none)\/
  (T="dict"/\((∃kvs,H p=some (.dK kvs))\/∃kvs,H p=some (.dT kvs)))\/(T="set"/\∃S n,H p=some (.set S n))
 | _=>False
theorem vV(I:Inv X pins σ H s)(r:aJ x v)(ty:tyV X.K T x H):
 s.TypeIs v T/\∀a,v= .ref a->∃ob,s.heap.get? a=some ob/\ob.dict=none:=by
 cases x with
 | str z=>
   obtain⟨t,rfl⟩:=r;cases(show T="str" from ty);exact⟨typeIs_str s z t,fun _ e=>nomatch e⟩
 | int i=>
   obtain⟨t,rfl⟩:=r;cases(show T="int" from ty);exact⟨typeIs_int s i t,fun _ e=>nomatch e⟩
 | ref p=>
   cases r;rcases ty with⟨rfl,xs,hq⟩|⟨rfl,o,hk,hc,hd⟩|⟨rfl,hk⟩|⟨rfl,S,n,hk⟩
   ·obtain⟨its,_,pl,_⟩:=I.list hq;refine⟨pl.isList.typeIs,fun a e=>?_⟩;cases e;obtain⟨o,n,e,c,hd,_⟩:=pl;exact⟨o,e,hd⟩
   ·refine⟨⟨o,I.kIn p o hk,hc⟩,fun a e=>?_⟩;cases e;exact⟨o,I.kIn _ o hk,hd⟩
   ·have z:∃o,s.heap.get? p=some o/\o.ExactDict:=by
     rcases hk with⟨kvs,hk⟩|⟨kvs,hk⟩
     ·obtain⟨_,_,_,_,o,_,_,e,ex,_⟩:=I.hok p _ hk;exact⟨o,e,ex⟩
     ·obtain⟨_,_,_,_,o,_,_,e,ex,_⟩:=I.hok p _ hk;exact⟨o,e,ex⟩
    obtain⟨o,e,ex⟩:=z;refine⟨⟨o,e,ex.1⟩,fun a e2=>?_⟩;cases e2;exact⟨o,e,ex.2.1⟩
   ·obtain⟨o,_,_,_,e,ex,_⟩:=I.hok p _ hk;refine⟨⟨o,e,ex.1⟩,fun a e2=>?_⟩;cases e2;exact⟨o,e,ex.2.1⟩
 | _=>exact False.elim ty
def yn(K:PySem.W.Frag)(T:String)(r:V->List V->Hp->VK->Prop)(to:TE):TE:=fun σ H Q=>to σ H fun x H1=>tyV K T x H1/\r x [] H1 Q
def tBM(K:PySem.W.Frag)(T:String)(r:V->List V->Hp->VK->Prop)(to:TE)(t:TA):TE:=fun σ H Q=>to σ H fun x H1=>tyV K T x H1/\t σ H1 fun xs H2=>r x xs H2 Q
variable{o e:Expr}{es:List Expr}{to:TE}{t:TA}{name:Str}{apos cpos:Pos}{T id:String}{r:V->List V->Hp->VK->Prop}
theorem AB(pa:PlainAttrs T)(slot:Slot T name id)(hty:typeOf (.builtin id)=pure (.type "method_descriptor"))(hm:MtR X id r)(ho:PE X o to)
 (hbase:attributeBase o name X.env (eval o X.env)=eval o X.env) (hline:(apos.endLine==cpos.line)=true):PE X (.Call (.Attribute o name apos) [] [] cpos) (yn X.K T r to):=by
 intro pins s σ H Q I h;refine wpAny_Call_method0_late hbase hline (thn (ho pins s σ H _ I h) fun v s1 ⟨x,H1,I1,r1,ty,q1⟩=>?_);obtain⟨h1,h2⟩:=vV I1 r1 ty;exact⟨T,id,pa,slot,hty,h1,h2,Calls.callWith_builtin rfl (PySem.evalArgs_none (hm pins s1 σ H1 x [] v [] Q I1 r1 .nil q1))⟩
theorem BZ(pa:PlainAttrs T)(slot:Slot T name id)(hty:typeOf (.builtin id)=pure (.type "method_descriptor"))(hm:MtR X id r)(ho:PE X o to)(ha:PA X (e::es) t)
 (hbase:attributeBase o name X.env (eval o X.env)=eval o X.env)
 (hfew:((backTo cpos (starEach (e::es) X.env)).all (fun x=>!x.1)&&(backToKw cpos (keywordEach [] X.env)).all (fun x=>x.1.isSome)
  && decide ((e::es).length+([]:List Keyword).length+(if([]:List Keyword).isEmpty then 0 else 1)<30))=true)
 (hline:(apos.endLine==cpos.line)=true) (hs:starEach (e::es) X.env=(false,eval e X.env)::starEach es X.env) (hplain:(backTo cpos (starEach es X.env)).any (·.1)=false):
 PE X (.Call (.Attribute o name apos) (e::es) [] cpos) (tBM X.K T r to t):=by
 intro pins s σ H Q I h;refine wpAny_Call_method_late hbase hfew hline rfl (thn (ho pins s σ H _ I h) fun v s1 ⟨x,H1,I1,r1,ty,q1⟩=>?_);obtain⟨h1,h2⟩:=vV I1 r1 ty;refine⟨T,id,pa,slot,hty,h1,h2,?_⟩;have hA:=ha cpos pins s1 σ H1 _ I1 q1;rw[hs]at hA ⊢;refine Calls.callWith_builtin (by show(false||(backTo cpos (starEach es X.env)).any (·.1))=false;rw[hplain]<;> rfl) (Calls.evalArgs_plain ?_);exact thn hA fun us s2 ⟨vs,H2,I2,r2,q2⟩=>hm pins s2 σ H2 x vs v us Q I2 r1 r2 q2
end
def MtM(X:Cx)(id:String)(r:V->List V->Hp->VK->Prop):Prop:=
 ∀(pins:List (Addr×Obj)) (s:Shared) (σ:St) (H:Hp) (x:V) (xs:List V) (v:Value) (us:List Value) (Q:VK),Inv X pins σ H s->aJ x v->aF xs us->r x xs H Q->
  wpAny (model X.prog X.w) X.A (call (.builtin id) (v::us)) (EP X pins σ Q) X.xe s
theorem aF.one:∀{x:V} {us:List Value},aF [x] us->∃u,us=[u]/\aJ x u
 | _,_,.cons r .nil=>⟨_,rfl,r⟩
theorem aF.zero:∀{us:List Value},aF [] us->us=[]
 | _,.nil=>rfl
theorem aF.eraseIdx:∀{xs:List V} {us:List Value} (i:Nat),aF xs us->aF (xs.eraseIdx i) (us.eraseIdx i)
 | _,_,_,.nil=> .nil
 | _,_,0,.cons _ t=>t
 | _,_,i+1,.cons r t=> .cons r (aF.eraseIdx i t)
theorem aF.reverse(h:aF xs us):aF xs.reverse us.reverse:=by
 induction h with
 | nil=>exact .nil
 | cons r t ih=>rw[List.reverse_cons,List.reverse_cons];exact aF.append ih (.cons r .nil)
theorem aF.rep(h:aF xs us):∀k:Nat,aF (List.replicate k xs).flatten (List.replicate k us).flatten
 | 0=> .nil
 | k+1=>by
   rw[replicate_succ,replicate_succ,flatten_cons,flatten_cons];exact aF.append h (aF.rep h k)
theorem mH:∀(l:List α) (i:Nat),(l.eraseIdx i).length<=l.length
 |[],_=>Zh _
 | _::_,0=>Y7 _
 | _::r,i+1=>Nat.succ_le_succ (mH r i)
theorem mI(its:List Value):∀(k:Nat) (acc:List Value),
 List.foldl (fun x1 x2=>x1++x2) acc.toArray (List.replicate k its.toArray)=(acc++(List.replicate k its).flatten).toArray
 | 0,acc=>by simp
 | k+1,acc=>by
   have e:acc.toArray++its.toArray=(acc++its).toArray:=by simp
   have e2:(acc++its) ++(List.replicate k its).flatten=acc++(List.replicate (k+1) its).flatten:=by
    rw[replicate_succ,flatten_cons,Zd]
   rw[<-e2,<-mI its k (acc++its),<-e,replicate_succ,foldl_cons]
section
variable{X:Cx}{pins:List (Addr×Obj)}{σ:St}{H:Hp}{s:Shared}{l b:Addr}{xs ys zs:List V}
theorem Inv.lset{its its':List Value}{n:Nat}{f:Array Value->Array Value}{t':Nat}(I:Inv X pins σ H s)(hH:H l=some (.lst xs))
 (e:s.heap.get? l=some {cls:= .type "list",data:= .seq its.toArray n}) (hf:f its.toArray=its'.toArray) (hv:aF ys its') (hz:ys.length<=sizeLine):
 Inv X pins σ (upd H l (.lst ys)) {s with heap:=s.heap.update l (Obj.mapSeq f),toks:=t'}:=by
 have q:=PySem.IsL.update e f;rw[hf]at q;refine I.write (x:=l) (e:=l) (by rw[hH];exact trivial) (.inl rfl) (fun b' u hb hu=>(get?_update_other s.heap (Obj.mapSeq f) (Ne.symm hb)).trans hu) ⟨_,q⟩ ?_;exact⟨hz,its',_,hv,q⟩
theorem Inv.lnew(I:Inv X pins σ H s)(hv:aF ys its)(hz:ys.length<=sizeLine):
 Inv X pins σ (upd H s.heap.objs.size (.lst ys)) {s with heap:=s.heap.push {cls:= .type "list",data:= .seq its.toArray},toks:=t'}:=
 I.laid (fun _ _ q=>Z6 _ q) (Zh _) ⟨hz,its,0,hv,Zi _ rfl⟩
theorem Inv.fresh(I:Inv X pins σ H s):H s.heap.objs.size=none:=I.hok.fresh (Zh _)
theorem Inv.lstM(I:Inv X pins σ H s)(hH:H l=some (.lst xs)):xs.length<=sizeLine/\∃(its:List Value) (n:Nat),aF xs its/\xs.length=its.length/\s.heap.get? l=some {cls:= .type "list",data:= .seq its.toArray n}:=by
 obtain⟨z,its,n,r,e⟩:=I.hok l _ hH;exact⟨z,its,n,r,r.length,e⟩
theorem oR{n:Nat}(h:n<=sizeLine):Builtin.List.listTooLong n=false:=by
 unfold Builtin.List.listTooLong;exact Zg (by lia)
end
section
variable{X:Cx}
def nG:V->List V->Hp->VK->Prop:=fun x vs H Q=>asR x fun l=>∃y,vs=[y]/\∃xs,H l=some (.lst xs)/\xs.length<sizeLine/\Q .non (upd H l (.lst (xs++[y])))
theorem mJ:MtM X "list.append" nG:=by
 intro pins s σ H x vs v us Q I rx rv h;obtain⟨l,rfl,y,rfl,xs,hH,hz,q⟩:=dM h;cases rx;obtain⟨u,rfl,ru⟩:=rv.one;obtain⟨z,its,n,r,hl,e⟩:=I.lstM hH;refine call_meets F.slot_list_append ⟨_,e,rfl⟩ F.entry_list_append (F.args_list_append_2 _ _) (PySem.list_append l its.toArray n u (by rw[Zo];lia)) ⟨e,?_⟩;refine⟨.non,_,I.lset (its':=its++[u]) hH e (by simp) (r.append (.cons ru .nil)) ?_,rfl,q⟩;rw[Z8,Yc]
 lia
def nH:V->List V->Hp->VK->Prop:=fun x vs H Q=>∃l b xs zs,x= .ref l/\vs=[.ref b]/\H l=some (.lst xs)/\H b=some (.lst zs)/\xs.length+zs.length<=sizeLine/\Q .non (upd H l (.lst (xs++zs)))
theorem tD:MtM X "list.extend" nH:=by
 intro pins s σ H x vs v us Q I rx rv h;obtain⟨l,b,xs,zs,rfl,rfl,hH,hB,hz,q⟩:=h;cases rx;obtain⟨u,rfl,ru⟩:=rv.one;cases ru;obtain⟨z,its,n,r,hl,e⟩:=I.lstM hH;obtain⟨z2,its2,n2,r2,hl2,e2⟩:=I.lstM hB;have hsz:its.toArray.size+its2.toArray.size<=sizeLine:=by rw[Zo,Zo];lia
 have hlong: ¬ (!its.toArray.isEmpty&&Builtin.List.listTooLong (its.toArray.size+its2.toArray.size))=true:=by
  rw[oR hsz,Bool.and_false];exact Zs
 refine call_meets F.slot_list_extend ⟨_,e,rfl⟩ F.entry_list_extend (F.args_list_extend_2 _ _)
  (AutoSeq1.list_extend_list_list_0 l its.toArray n b its2.toArray n2 hlong (by rw[Zo];lia) (by lia)) ⟨e,e2,?_⟩
 refine⟨.non,_,I.lset (its':=its++its2) hH e (by simp) (r.append r2) ?_,rfl,q⟩;rw[Z8]
 lia
def qD:V->List V->Hp->VK->Prop:=fun x vs H Q=>∃l xs,x= .ref l/\vs=[]/\H l=some (.lst xs)/\Q .non (upd H l (.lst []))
theorem vW:MtM X "list.clear" qD:=by
 intro pins s σ H x vs v us Q I rx rv h;obtain⟨l,xs,rfl,rfl,hH,q⟩:=h;cases rx;have hus:=rv.zero;subst hus;obtain⟨z,its,n,r,hl,e⟩:=I.lstM hH;refine call_meets F.slot_list_clear ⟨_,e,rfl⟩ F.entry_list_clear (F.args_list_clear_1 _) (AutoSeq1.list_clear_list_0 l its.toArray n (by rw[Zo];lia)) ⟨e,?_⟩;exact⟨.non,_,I.lset (its':=[]) (ys:=[]) hH e rfl .nil (X0 _),rfl,q⟩
def AC:R2:=fun x y H Q=>∃l b xs zs,x= .ref l/\y= .ref b/\H l=some (.lst xs)/\H b=some (.lst zs)/\xs.length+zs.length<=sizeLine/\∀p,H p=none->Q (.ref p) (upd H p (.lst (xs++zs)))
theorem AD:OpR X (binaryOp .Add) AC:=by
 intro pins s σ H x y v u Q I rx ry h;obtain⟨l,b,xs,zs,rfl,rfl,hH,hB,hz,q⟩:=h;cases rx;cases ry;obtain⟨z,its,n,r,hl,e⟩:=I.lstM hH;obtain⟨z2,its2,n2,r2,hl2,e2⟩:=I.lstM hB;refine PySem.P.add_list e e2 ?_ (by rw[Zo,Zo];lia);have ea:its.toArray++its2.toArray=(its++its2).toArray:=by simp
 rw[ea];exact⟨.ref _,_,I.lnew (t':=s.toks) (r.append r2) (by rw[Z8];lia),rfl,q _ I.fresh⟩
def AE:R2:=fun x y H Q=>∃l k xs,x= .ref l/\y= .int k/\H l=some (.lst xs)/\ -(2^63)<=k/\k<2^63/\xs.length*k.toNat<=sizeLine/\
 ∀p,H p=none->Q (.ref p) (upd H p (.lst (List.replicate k.toNat xs).flatten))
theorem yo(xs:List α)(k:Nat):(List.replicate k xs).flatten.length=k*xs.length:=by
 induction k with
 | zero=>simp
 | succ k ih=>rw[replicate_succ,flatten_cons,Z8,ih,Nat.succ_mul,Nat.add_comm]
theorem AF:OpR X (binaryOp .Mult) AE:=by
 intro pins s σ H x y v u Q I rx ry h;obtain⟨l,k,xs,rfl,rfl,hH,h1,h2,hz,q⟩:=h;cases rx;obtain⟨t,rfl⟩:=ry;obtain⟨z,its,n,r,hl,e⟩:=I.lstM hH;have hlen:its.toArray.size*k.toNat<=sizeLine:=by rw[Zo,<-hl];exact hz
 have hcap: ¬ its.toArray.size*k.toNat>(2^63-1)/8:=by
  have:(sizeLine:Nat)<=(2^63-1)/8:=by decide
  lia
 have hfit: ¬ (!Builtin.List.listFitsIndex k)=true:=by
  rw[fitsIndex_both h1 h2];exact Zs
 have hlong: ¬ Builtin.List.listTooLong (its.toArray.size*k.toNat)=true:=by
  rw[oR hlen];exact Zs
 have hnew:List.foldl (fun x1 x2=>x1++x2) #[] (List.replicate (if its.toArray.isEmpty=true then 0 else k.toNat) its.toArray)=(List.replicate k.toNat its).flatten.toArray:=by
  have f0:∀m:Nat,List.foldl (fun x1 x2=>x1++x2) #[] (List.replicate m its.toArray)=(List.replicate m its).flatten.toArray:=fun m=>by
   have:=mI its m [];rw[List.nil_append]at this;exact this
  rw[f0];cases its with
  | nil=>simp
  | cons a r'=>rw[if_neg (by simp)]
 refine wpAny_binaryOp_repeat_ref (T:="list") (U:="int") (by decide) ⟨_,e,rfl⟩ (fun s'=>typeIs_int s' k t) noFill_list_mul F.fills_int_mul F.slot_int_rmul repeat_list F.slot_int_index.lookup
  (call_meets F.slot_int_rmul (typeIs_int s k t) F.entry_int_rmul (F.args_int_rmul_2 _ _) (int___rmul___int_list k t l its.toArray n)
   ⟨e,rfl,⟨_,e,rfl⟩,call_meets F.slot_list_mul ⟨_,e,rfl⟩ F.entry_list_mul (F.args_list_mul_2 _ _) (AutoListH.list___mul___list_int_3 l its.toArray n k t hfit hcap hlong) ⟨e,?_⟩⟩)
 rw[hnew];exact⟨.ref _,_,I.lnew (t':=s.toks) (r.rep k.toNat) (by rw[yo,Nat.mul_comm];exact hz),rfl,q _ I.fresh⟩
end
section
variable{prog:Program}{w:World}{A:Around}{E:Value->Shared->Prop}{s:Shared}
end
section
variable{X:Cx}
end
section
variable{κ:Type}[DecidableEq κ]
noncomputable def bO(kvs:List (κ×V))(k:κ):Option V:=(kvs.find? fun kv=>decide (kv.1=k)).map (·.2)
noncomputable def dg(kvs:List (κ×V))(k:κ)(v:V):List (κ×V):=
 if(kvs.any fun kv=>decide (kv.1=k))=true then kvs.map (fun kv=>if kv.1=k then(kv.1,v)else kv)else kvs++[(k,v)]
theorem dO{p:κ×V}{r:List (κ×V)}{k:κ}(e:p.1=k):bO (p::r) k=some p.2:=by simp[bO,find?_cons,e]
theorem cx{p:κ×V}{r:List (κ×V)}{k:κ}(e: ¬ p.1=k):bO (p::r) k=bO r k:=by simp[bO,find?_cons,e]
theorem fO(k:κ):∀kvs:List (κ×V),(kvs.any fun kv=>decide (kv.1=k))=(bO kvs k).isSome
 |[]=>rfl
 | p::r=>by
   rw[Zv];by_cases e:p.1=k
   ·simp only[dO e,Ze e,Bool.true_or,Option.isSome_some]
   ·rw[cx e,Zg e,Bool.false_or];exact fO k r
theorem fP(kvs:List (κ×V))(k:κ)(v:V):(dg kvs k v).length<=kvs.length+1:=by
 unfold dg
 split
 ·rw[Z5];lia
 ·rw[Z8,Zq,length_nil];lia
theorem fQ{k:κ}(v:V)(h:bO kvs k=none):dg kvs k v=kvs++[(k,v)]:=by
 unfold dg;rw[fO,h];exact if_neg (by decide)
theorem eG.isSome_eq(r:eG o u):o.isSome=u.isSome:=by
 cases o with
 | none=>cases u with
   | none=>rfl
   | some _=>exact(show False from r).elim
 | some _=>cases u with
   | none=>exact(show False from r).elim
   | some _=>rfl
theorem eG.getD{o:Option V}{u:Option Value}{d:V}{d':Value}(r:eG o u)(rd:aJ d d'):aJ (o.getD d) (u.getD d'):=by
 cases o with
 | none=>cases u with
   | none=>exact rd
   | some _=>exact(show False from r).elim
 | some _=>cases u with
   | none=>exact(show False from r).elim
   | some _=>exact r
theorem KV.val{vs:List (κ×Value)}(r:KV kvs vs)(k:κ):eG (bO kvs k) (valueAt vs k):=by
 unfold KV at r
 induction r with
 | nil=>exact True.intro
 | @cons p q ps qs h t ih=>
   obtain⟨h1,h2⟩:=h;by_cases e:p.1=k
   ·have e':q.1=k:=h1.symm.trans e;have b:valueAt (q::qs) k=some q.2:=by simp[valueAt,find?_cons,e']
    rw[dO e,b];exact h2
   ·have e': ¬ q.1=k:=fun z=>e (h1.trans z)
    have b:valueAt (q::qs) k=valueAt qs k:=by simp[valueAt,find?_cons,e']
    rw[cx e,b];exact ih
theorem KV.any(r:KV kvs vs)(k:κ):(kvs.any fun kv=>decide (kv.1=k))=vs.any fun kv=>decide (kv.1=k):=by
 unfold KV at r
 induction r with
 | nil=>rfl
 | cons h t ih=>rw[Zv,Zv,ih,h.1]
theorem KV.repl(r:KV kvs vs)(k:κ)(ry:aJ y u):
 KV (kvs.map fun kv=>if kv.1=k then(kv.1,y)else kv) (vs.map fun kv=>if kv.1=k then(kv.1,u)else kv):=by
 unfold KV at r ⊢
 induction r with
 | nil=>exact .nil
 | @cons p q ps qs h t ih=>
   rw[Yi,Yi];refine .cons ?_ ih;obtain⟨h1,h2⟩:=h;by_cases e:p.1=k
   ·rw[if_pos e,if_pos (h1.symm.trans e)];exact⟨h1,ry⟩
   ·rw[if_neg e,if_neg (fun z=>e (h1.trans z))];exact⟨h1,h2⟩
theorem KV.put(r:KV kvs vs)(k:κ)(ry:aJ y u):KV (dg kvs k y) (stored vs k u):=by
 unfold dg stored;rw[r.any k];by_cases e:(vs.any fun kv=>decide (kv.1=k))=true
 ·rw[if_pos e,if_pos e];exact r.repl k ry
 ·rw[if_neg e,if_neg e];exact Paired.snoc r ⟨rfl,ry⟩
theorem KV.length{kvs:List (κ×V)}{vs:List (κ×Value)}(r:KV kvs vs):kvs.length=vs.length:=Paired.length r
end
theorem kJ{P:Program}(r:aJ (kV k) u):(aA P w).is k u=true:=by
 cases k with
 | inl i=>obtain⟨t,e⟩:=(show∃t,u=Value.int i t from r);subst e;exact oJ P w i t
 | inr x=>obtain⟨t,e⟩:=(show∃t,u=Value.str x t from r);subst e;exact oK P w x t
theorem mK{P:Program}:∀{ks:List Key} {us:List Value},aF (ks.map kV) us->ItemsAre (aA P w) ks us
 |[],_,r=>by rw[map_nil]at r;cases r;exact .nil
 | k::ks,_,r=>by
   rw[Yi]at r;cases r with
   | cons h t=>exact .cons (kJ h) (mK t)
noncomputable abbrev KT(H:Hp):List (List Key×V)->List (List Key×Addr×Value)->Prop:=Paired fun p q=>p.1=q.1/\H q.2.1=some (.tup (p.1.map kV))/\aJ p.2 q.2.2
theorem KT.val{kvs:List (List Key×V)}{xs:List (List Key×Addr×Value)}(r:KT H kvs xs)(k:List Key):eG (bO kvs k) ((atKey xs k).map (·.2)):=by
 induction r with
 | nil=>exact True.intro
 | @cons p q ps qs h t ih=>
   obtain⟨h1,_,h2⟩:=h;by_cases e:p.1=k
   ·have e':q.1=k:=h1.symm.trans e;have b:atKey (q::qs) k=some q.2:=by simp[atKey,find?_cons,e']
    rw[dO e,b];exact h2
   ·have e': ¬ q.1=k:=fun z=>e (h1.trans z)
    have b:atKey (q::qs) k=atKey qs k:=by simp[atKey,find?_cons,e']
    rw[cx e,b];exact ih
theorem KT.repl(r:KT H kvs xs)(k:List Key)(ry:aJ y u):
 KT H (kvs.map fun kv=>if kv.1=k then(kv.1,y)else kv) (xs.map (putAt k u)):=by
 induction r with
 | nil=>exact .nil
 | @cons p q ps qs h t ih=>
   rw[Yi,Yi];refine .cons ?_ ih;obtain⟨h1,h2,h3⟩:=h;unfold putAt;by_cases e:p.1=k
   ·rw[if_pos e,if_pos (h1.symm.trans e)];exact⟨h1,h2,ry⟩
   ·rw[if_neg e,if_neg (fun z=>e (h1.trans z))];exact⟨h1,h2,h3⟩
theorem KT.put(r:KT H kvs xs)(k:List Key)(hb:H b=some (.tup (k.map kV)))(ry:aJ y u):
 KT H (dg kvs k y) (storedH xs k b u):=by
 have e:(kvs.any fun kv=>decide (kv.1=k))=(atKey xs k).isSome:=by
  rw[fO,(r.val k).isSome_eq,isSome_map]
 unfold dg storedH;rw[e];by_cases q:(atKey xs k).isSome=true
 ·rw[if_pos q,if_pos q];exact r.repl k ry
 ·rw[if_neg q,if_neg q];exact Paired.snoc r ⟨rfl,hb,ry⟩
theorem KT.keeps(r:KT H kvs xs)(ht:∀b ys,H b=some (.tup ys)->H' b=some (.tup ys)):KT H' kvs xs:=
 Paired.mapP r fun _ _ z=>⟨z.1,ht _ _ z.2.1,z.2.2⟩
section
variable{P:Program}{w:World}{H:Hp}{h:Heap}{a:Addr}
theorem zA(ok:HOk P w H h)(e:Rd H a u):bh P w H h a u:=e.ok ok
theorem oS(ok:HOk P w H h)(e:Rd H a (.dK kvs)):kvs.length<=sizeLine/\(a==sysModules)=false/\∃vs,KV kvs vs/\h.DictOf (aA P w) a vs:=
 show bh P w H h a (.dK kvs)from zA ok e
theorem oU(ok:HOk P w H h)(e:H a=some (.dK kvs)):kvs.length<=sizeLine/\(a==sysModules)=false/\∃vs,KV kvs vs/\h.DictOf (aA P w) a vs:=oS ok (.inl e)
theorem kK(ok:HOk P w H h)(e:H a=some (.tup (ks.map kV))):(tupleKind (aA P w)).is h ks a:=by
 obtain⟨_,its,r,o,h1,h2,n,h3⟩:=(show bh P w H h a (.tup (ks.map kV))from ok a _ e)
 exact⟨o,its.toArray,n,h1,h2,h3,by simpa using mK r⟩
theorem oV(ok:HOk P w H h)(e:Rd H a (.dT kvs)):kvs.length<=sizeLine/\(a==sysModules)=false/\
 ∃xs,KT H kvs xs/\h.DictOfH (tupleKind (aA P w)) a xs:=by
 obtain⟨z,y,xs,r,o,es,ep,h1,h2,h3,h4,h5⟩:=(show bh P w H h a (.dT kvs)from zA ok e)
 refine⟨z,y,xs,r,o,es,ep,h1,h2,h3,h4,fun x hx=>?_,h5⟩;have all:∀{l:List (List Key×V)} {m:List (List Key×Addr×Value)},KT H l m->∀x∈m,(tupleKind (aA P w)).is h x.1 x.2.1:=by
  intro l m q
  induction q with
  | nil=>intro x hx;exact nomatch hx
  | @cons p q ps qs hq t ih=>
    intro x hx;rcases mem_cons.mp hx with e|hx
    ·subst e;exact kK ok (by rw[<-hq.1];exact hq.2.1)
    ·exact ih x hx
 exact all r x hx
theorem B0(ok:HOk P w H h)(e:H a=some (.dT kvs)):kvs.length<=sizeLine/\(a==sysModules)=false/\
 ∃xs,KT H kvs xs/\h.DictOfH (tupleKind (aA P w)) a xs:=oV ok (.inl e)
end
def cf(H:Hp)(a:Addr)(y:V)(r:Option V):Prop:=
 (∃kvs k,Rd H a (.dK kvs)/\y=kV k/\r=bO kvs k)\/∃kvs k b,Rd H a (.dT kvs)/\y= .ref b/\H b=some (.tup (k.map kV))/\r=bO kvs k
def jh(H:Hp)(a:Addr)(y v:V)(H':Hp):Prop:=
 (∃kvs k,H a=some (.dK kvs)/\y=kV k/\kvs.length<sizeLine/\H'=upd H a (.dK (dg kvs k v)))\/
 ∃kvs k b,H a=some (.dT kvs)/\y= .ref b/\H b=some (.tup (k.map kV))/\kvs.length<sizeLine/\H'=upd H a (.dT (dg kvs k v))
theorem cf.k{k:Key}(e:H a=some (.dK kvs)):cf H a (kV k) (bO kvs k):= .inl ⟨kvs,k,.inl e,rfl,rfl⟩
theorem jh.k{k:Key}(e:H a=some (.dK kvs))(hl:kvs.length<sizeLine):jh H a (kV k) v (upd H a (.dK (dg kvs k v))):= .inl ⟨kvs,k,e,rfl,hl,rfl⟩
section
variable{X:Cx}{pins:List (Addr×Obj)}{σ:St}{H:Hp}{s:Shared}{a:Addr}{y v:V}{u r:Value}{o:Option V}{A:Around}{E:Value->Shared->Prop}
theorem Inv.big(I:Inv X pins σ H s):sysModules<s.heap.objs.size:=by
 have h:mainGlobals<s.heap.objs.size:=(I.mod.glob.keeps I.bk).lt;exact Nat.lt_trans (by decide) h
theorem tE(hu:A.units+1<cLine)(I:Inv X pins σ H s)(g:cf H a y (some v))(ry:aJ y u)(h:∀w' s',Inv X pins σ H s'->aJ v w'->Q w' s'):
 wpAny (model X.prog X.w) A (getItem (.ref a) u) Q E s:=by
 rcases g with⟨kvs,k,e,ey,l⟩|⟨kvs,k,b,e,ey,eb,l⟩
 ·subst ey;obtain⟨z,hd,vs,rel,dd⟩:=oS I.hok e;obtain⟨w',hw,rw'⟩:=eG.some_of (v:=v) (o:=valueAt vs k) (by rw[l];exact rel.val k);exact wpAny_getItem_of (kJ ry) dd.mapOf hw (h w' _ (I.tok _) rw')
 ·subst ey;cases(show u=Value.ref b from ry);obtain⟨z,hd,xs,rel,dd⟩:=oV I.hok e;obtain⟨w',hw,rw'⟩:=eG.some_of (v:=v) (o:=(atKey xs k).map (·.2)) (by rw[l];exact rel.val k);obtain⟨p,hp,hp2⟩:=map_eq_some_iff.mp hw;refine wpAny_getItem_heap (tupleKind_room_in1 hu) (kK I.hok eb) dd hp ?_;rw[hp2];exact h w' _ (I.tok _) rw'
theorem d_in(hu:A.units+1<cLine)(I:Inv X pins σ H s)(g:cf H a y o)(ry:aJ y u)(h:∀s',Inv X pins σ H s'->Q (.bool o.isSome) s'):
 wpAny (model X.prog X.w) A (compareOp .In u (.ref a)) Q E s:=by
 rcases g with⟨kvs,k,e,ey,l⟩|⟨kvs,k,b,e,ey,eb,l⟩
 ·subst ey;obtain⟨z,hd,vs,rel,dd⟩:=oS I.hok e;refine wpAny_in_of (kJ ry) hd dd.mapOf ?_;rw[<-(rel.val k).isSome_eq,<-l];exact h _ (I.tok _)
 ·subst ey;cases(show u=Value.ref b from ry);obtain⟨z,hd,xs,rel,dd⟩:=oV I.hok e;refine wpAny_in_heap (tupleKind_room_in1 hu) (kK I.hok eb) hd dd ?_;have q:=(rel.val k).isSome_eq;rw[isSome_map]at q;rw[<-q,<-l];exact h _ (I.tok _)
theorem yp(hu:A.units+1<cLine)(I:Inv X pins σ H s)(g:cf H a y o)(ry:aJ y u)(h:∀s',Inv X pins σ H s'->Q (.bool (!o.isSome)) s'):
 wpAny (model X.prog X.w) A (compareOp .NotIn u (.ref a)) Q E s:=by
 rcases g with⟨kvs,k,e,ey,l⟩|⟨kvs,k,b,e,ey,eb,l⟩
 ·subst ey;obtain⟨z,hd,vs,rel,dd⟩:=oS I.hok e;refine wpAny_notIn_of (kJ ry) hd dd.mapOf ?_;rw[<-(rel.val k).isSome_eq,<-l];exact h _ (I.tok _)
 ·subst ey;cases(show u=Value.ref b from ry);obtain⟨z,hd,xs,rel,dd⟩:=oV I.hok e;refine wpAny_notIn_heap (tupleKind_room_in1 hu) (kK I.hok eb) hd dd ?_;have q:=(rel.val k).isSome_eq;rw[isSome_map]at q;rw[<-q,<-l];exact h _ (I.tok _)
theorem nJ(I:Inv X pins σ H s)(mu:Mut (H a))(hs:SameBut a s.heap h')(he:∃q,h'.get? a=some q)(new:bh X.prog X.w (upd H a ob) h' a ob):
 Inv X pins σ (upd H a ob) {s with heap:=h',toks:=t'}:=
 I.write (x:=a) (e:=a) mu (.inl rfl) (fun b q hb z=>(hs.2 b hb).trans z) he new
theorem vX{P:Program}(z:kvs.length<=sizeLine)(hd:(a==sysModules)=false)(rel:KV kvs vs)(dd:h'.DictOf (aA P w) a vs):
 bh P w H' h' a (.dK kvs):=⟨z,hd,vs,rel,dd⟩
theorem tF(hu:A.units+1<cLine)(I:Inv X pins σ H s)(g:jh H a y v H')(ry:aJ y u)(rv:aJ v r)(h:∀s',Inv X pins σ H' s'->Q () s'):
 wpAny (model X.prog X.w) A (setItem (.ref a) u r) Q E s:=by
 rcases g with⟨kvs,k,e,ey,l,eH⟩|⟨kvs,k,b,e,ey,eb,l,eH⟩
 ·subst ey eH;obtain⟨z,hd,vs,rel,dd⟩:=oU I.hok e;have hz:vs.length<=sizeLine:=by rw[<-rel.length];exact z
  have hl:(dg kvs k v).length<=sizeLine:=by have:=fP kvs k v;lia
  refine wpAny_setItem_pairs (hsz:=hz) (kJ ry) dd fun h' dd' hs=>h _ ?_
  have he:∃q,h'.get? a=some q:=let⟨q,_,_,hq,_⟩:=dd';⟨q,hq⟩;exact nJ I (by rw[e];exact True.intro) hs he (vX hl hd (rel.put k rv) dd')
 ·subst ey eH;cases(show u=Value.ref b from ry);obtain⟨z,hd,xs,rel,dd⟩:=B0 I.hok e;have hz:xs.length<=sizeLine:=by rw[<-Paired.length rel];exact z
  have hl:(dg kvs k v).length<=sizeLine:=by have:=fP kvs k v;lia
  refine wpAny_setItem_heap (hsz:=hz) (tupleKind_room_in1 hu) (kK I.hok eb) dd fun h' dd' hs=>h _ ?_
  obtain⟨q,es,ep,hq,h2,h3,h4,_,h5⟩:=dd';refine nJ I (by rw[e];exact True.intro) hs ⟨q,hq⟩ ⟨hl,hd,_,(rel.put k eb rv).keeps fun c ys ec=>?_,q,es,ep,hq,h2,h3,h4,h5⟩;rw[ai (BC ec e (fun z=>nomatch z))];exact ec
end
section
variable{X:Cx}{pins:List (Addr×Obj)}{σ:St}{H:Hp}{s:Shared}{a:Addr}{kvs:List (Key×V)}{k:Key}{u:Value}{A:Around}{E:Value->Shared->Prop}
end
def AG(i:Expr):Prop:=∀ov iv,subscripted i false ov iv=operate [ov,iv] (getItem ov iv)
theorem yq{T id:String}
 (hl:typeLookup (.type T) "__getitem__"=pure (some (.builtin id))) (hs:AG slice)
 (h:wpAny (model prog w) A (eval value env) (fun o s₁=>wpAny (model prog w) A (eval slice env) (fun i s₂=>s₂.TypeIs o T/\wpAny (model prog w) A (getItem o i) Q E s₂) E s₁) E s):
 wpAny (model prog w) A (eval (.Subscript value slice pos) env) Q E s:=by
 refine Subscript_ (wpAny_mono h (fun o s₁ h₁=>wpAny_mono h₁ (fun i s₂ h₂=>?_) fun _ _ x=>x) fun _ _ x=>x);obtain⟨hT,h₂⟩:=h₂;unfold subscriptTail;refine Z2 ?_;rw[getitemInPython_of_ne hT.not_modules];refine Z2 (wpAny_specialOf hT hl ?_);have fin:wpAny (model prog w) A (subscripted slice false o i) (fun r s₃=>wpAny (model prog w) A (letTemporaryGo value o r>>= fun _=>pure r) Q E s₃) E s₂:=by
  rw[hs o i];exact wpAny_operating (wpAny_mono h₂ (fun r s₃ h₃=>Z2 (wpAny_letTemporaryGo (Z3 h₃))) fun _ _ x=>x)
 first
  | exact Z3 (Z2 fin)
  | exact Z2 (Z3 (Z2 fin))
  | exact Z2 fin
theorem oW{X:Cx}(I:Inv X pins σ H s)(g:cf H a y o):s.TypeIs (.ref a) "dict":=by
 rcases g with⟨kvs,k,e,_,_⟩|⟨kvs,k,b,e,_,_,_⟩
 ·obtain⟨_,_,vs,_,dd⟩:=oS I.hok e;exact dd.typeIs
 ·obtain⟨_,_,xs,_,dd⟩:=oV I.hok e;exact dd.typeIs
def vY(td ty:TE):TE:=fun σ H Q=>td σ H fun x H1=>ty σ H1 fun y H2=>∃a v,x= .ref a/\cf H2 a y (some v)/\Q v H2
def AH(ty td:TE):TE:=fun σ H Q=>ty σ H fun y H1=>td σ H1 fun x H2=>∃a o,x= .ref a/\cf H2 a y o/\Q (.bl o.isSome) H2
def nK(ty td:TE):TE:=fun σ H Q=>ty σ H fun y H1=>td σ H1 fun x H2=>∃a o,x= .ref a/\cf H2 a y o/\Q (.bl (!o.isSome)) H2
def kL(td ty tv:TE):TS:=fun D σ H=>tv σ H fun v H1=>td σ H1 fun x H2=>ty σ H2 fun y H3=>∃a H4,x= .ref a/\jh H3 a y v H4/\D.nx σ H4
section
variable{X:Cx}{o i e value:Expr}{pos pos' tpos:Pos}{td ty tv:TE}
theorem yr(hu:X.A.units+1<cLine)(ho:PE X o td)(hi:PE X i ty)(hs:AG i):PE X (.Subscript o i pos) (vY td ty):=by
 intro pins s σ H Q I h;refine yq PySem.F.slot_dict_getitem.lookup hs (thn (ho pins s σ H _ I h) fun u s1 ⟨x,H1,I1,rx,q1⟩=>thn (hi pins s1 σ H1 _ I1 q1) fun iv s2 ⟨y,H2,I2,ry,a,v,ex,g,q2⟩=>?_);subst ex;obtain rfl:u=Value.ref a:=rx;exact⟨oW I2 g,tE hu I2 g ry fun w' s3 I3 rw'=>⟨v,H2,I3,rw',q2⟩⟩
theorem AI(hu:X.A.units+1<cLine)(hi:PE X i ty)(ho:PE X o td):PC X .In i o (AH ty td):=by
 intro pins s σ H Q I h;refine thn (hi pins s σ H _ I h) fun iv s1 ⟨y,H1,I1,ry,q1⟩=>thn (ho pins s1 σ H1 _ I1 q1) fun u s2 ⟨x,H2,I2,rx,a,ov,ex,g,q2⟩=>?_
 subst ex;obtain rfl:u=Value.ref a:=rx;exact d_in hu I2 g ry fun s3 I3=>⟨.bl ov.isSome,H2,I3,rfl,q2⟩
theorem tG(hu:X.A.units+1<cLine)(hi:PE X i ty)(ho:PE X o td):PC X .NotIn i o (nK ty td):=by
 intro pins s σ H Q I h;refine thn (hi pins s σ H _ I h) fun iv s1 ⟨y,H1,I1,ry,q1⟩=>thn (ho pins s1 σ H1 _ I1 q1) fun u s2 ⟨x,H2,I2,rx,a,ov,ex,g,q2⟩=>?_
 subst ex;obtain rfl:u=Value.ref a:=rx;exact yp hu I2 g ry fun s3 I3=>⟨.bl (!ov.isSome),H2,I3,rfl,q2⟩
theorem yt(hu:X.A.units+1<cLine)(ho:PE X o td)(hi:PE X i ty)(hv:PE X value tv)(hs:swapsWith value (some (.Subscript o i pos')) pos.line X.env=pure false):
 PS X (.Assign [.Subscript o i pos'] value pos) (kL td ty tv):=by
 intro pins s σ H D I h;refine wpAny_Assign_Subscript (thn (hv pins s σ H _ I h) fun r s1 ⟨v,H1,I1,rv,q1⟩=>thn (ho pins s1 σ H1 _ I1 q1) fun u s2 ⟨x,H2,I2,rx,q2⟩=>thn (hi pins s2 σ H2 _ I2 q2) fun iv s3 ⟨y,H3,I3,ry,a,H4,ex,g,q3⟩=>?_) hs;subst ex;obtain rfl:u=Value.ref a:=rx;exact tF hu I3 g ry rv fun s4 I4=>⟨σ,H4,I4,q3⟩
end
theorem vZ{P:Program}(h:Heap)(hb:sysModules<h.objs.size):bh P w H (h.push {cls:= .type "dict",data:= .dict #[]}) h.objs.size (.dK []):=
 ⟨X0 _,beq_eq_false_iff_ne.mpr (Ne.symm (Zr hb)),[],.nil,Heap.DictOf.new h⟩
def qE:TE:=fun _ H Q=>∀p,H p=none->Q (.ref p) (upd H p (.dK []))
section
variable{X:Cx}{pos:Pos}
theorem v4:PE X (.Dict [] [] pos) qE:=fun pins s σ H Q I h=>
 wpAny_Dict_empty ⟨.ref s.heap.objs.size,_,I.laid (a:=s.heap.objs.size) (o:= .dK []) (t':=s.toks) (fun _ _ q=>Z6 _ q) (Zh _) (vZ s.heap I.big),rfl,h _ (I.hok.fresh (Zh _))⟩
end
structure M2 (X:Cx) (o:Expr) (m:Str) (apos:Pos) (e f:Expr) (cpos:Pos):Prop where
 base:attributeBase o m X.env (eval o X.env)=eval o X.env
 few:((backTo cpos (starEach [e,f] X.env)).all (fun x=>!x.1)&&(backToKw cpos (keywordEach [] X.env)).all (fun x=>x.1.isSome)
  && decide (([e,f]:List Expr).length+([]:List Keyword).length+(if([]:List Keyword).isEmpty then 0 else 1)<30))=true
 line:(apos.endLine==cpos.line)=true
 trees:backTo cpos (starEach [e,f] X.env)=[(false,eval e X.env),(false,eval f X.env)]
section
variable{X:Cx}{pins:List (Addr×Obj)}{σ:St}{H:Hp}{s:Shared}{a:Addr}{y d:V}{u r:Value}{o:Option V}{A:Around}{E:Value->Shared->Prop}
end
section
variable{X:Cx}{o e f:Expr}{apos cpos:Pos}{td ty tx:TE}
end
section
variable{X:Cx}{pins:List (Addr×Obj)}{σ:St}{H:Hp}{s:Shared}{a:Addr}{kvs:List (Key×V)}{A:Around}{E:Value->Shared->Prop}
end
section
variable{X:Cx}{pins:List (Addr×Obj)}{σ:St}{H:Hp}{s:Shared}{a:Addr}{y:V}{u:Value}{A:Around}{E:Value->Shared->Prop}
end
end L2
namespace Att
open PySem PySem.W PySem.Calls PyProof.Rows
theorem j5{P:Params}:∀(ns:List Int) (vs:List Value),WellAll P h vs (ns.map WData.int)->IntsAre vs ns:=by
 intro ns
 induction ns with
 | nil=>
   intro vs w;rw[map_nil]at w;cases w;exact .nil
 | cons n ns ih=>
   intro vs w;rw[Yi]at w;cases w with
   | cons a b=>
     cases a;exact .cons _ _ (ih _ b)
theorem tH{l:OpenLaw}(hn:l.most=some n){P:Params}
 (hpre:l.row.toRowW.claim.pre args=true) (hwl:WellAll P h vals args):
 ∃a vs ns,vals=[Value.ref a]/\args=[WData.list (ns.map WData.int)]/\h.get? a=some {cls:= .type "list",data:= .seq vs.toArray}/\IntsAre vs ns/\ns.length<=n:=by
 have hsh:WShape.hasAll [] args [.list .int]=true:=(pre_splitW hpre).1;have hc:l.pre.holds [] {args:=args}=true:=(pre_splitW hpre).2;obtain⟨d,r,rfl,h1,h2⟩:=hasAllW_cons hsh;obtain rfl:=hasAllW_nil h2;obtain⟨xs,rfl,h3⟩:=hasW_list h1;obtain⟨ns,rfl⟩:=items_int h3;have hlen:ns.length<=n:=by
  unfold OpenLaw.pre at hc;have h4:(WTm.not (.lt (.lit (.int (n:Int))) (.len (.arg 0)))).holds [] {args:=[.list (ns.map .int)]}=true:=by
   have h4:=(holds_andW hc).1;rw[hn]at h4;exact h4
  have h5:=condW_of h4 (w_not (w_lt w_lit (w_len_list (w_arg rfl))));rw[Z5]at h5;refine Nat.le_of_not_lt fun q=>?_
  have q':(n:Int)<((ns.length:Nat):Int):=by lia
  first
   |(rw[Ze q']at h5;exact absurd h5 (by decide))
   |(simp at h5;lia)
 cases hwl with
 | cons w1 w2=>
   cases w2;cases w1 with
   | list ho hall=>exact⟨_,_,ns,rfl,rfl,ho,j5 ns _ hall,hlen⟩
theorem tJ(l:OpenLaw)(args:List WData):l.row.toRowW.claim.post args (.bool true) args=true:=
 postW_of (r:=l.row.toRowW) (X:=(true==true))
  (show WShape.has [] (.bool true) .bool=true by first|rfl|decide|simp[WShape.has,WShape.arms,WShape.armsAll])
  (show(WTm.eq .res (.lit (.bool true))).value [] {args:=args,res:=some (.bool true),after:=args}=some (.bool (true==true))from w_eq_bool (w_res rfl) w_lit) rfl
theorem attach_call{l:OpenLaw}{n:Nat}{q:Program}
 (hn:l.most=some n) (hdf:d.params.defaults=[])
 (call:∀(w:World) (s₀ s₁:Shared) (mg mb:Str->Option Value) (fa:Addr) (o:Obj) (pm cd doc:Value) (a:Addr) (vs:List Value) (ns:List Int),
  Ground q loose [] XP w s₀ mg mb s₁.heap->YP w s₁.heap->
  s₁.heap.get? fa=some o->o.data= .func (docDef d.name d.params d.body d.scope pm cd doc)->s₁.heap.CodeRec cd d.name->mg d.name=some (.ref fa)->
  s₁.heap.get? a=some {cls:= .type "list",data:= .seq vs.toArray}->IntsAre vs ns->ns.length<=n->s₁.gens= #[]->
  codeAny (model l.prog w) callerA (.call (.ref fa) ⟨[.ref a],[]⟩) (fun r s'=>r= .ok (.ret (.bool true))/\OldK s₁.heap s'.heap/\s'.os=s₁.os/\AllBare s'.gens) s₁):
 WalkO q loose XP YP l.row.toRowW d [] (fun f vs=>PySem.call f vs):=by
 intro w s₀ s₁ mg mb G Y fa o pm cd doc dV kV ho hd hcd hD hmg hg args vals as hpre hlay hrd hwl hlo;obtain rfl:dV= .none:=Dflts.none hD hdf;obtain rfl:kV= .none:=Dflts.noKw hD;obtain⟨a,vs,ns,rfl,rfl,hobj,hints,hlen⟩:=tH hn hpre hwl;refine enter_call (codeAny_mono (call w s₀ s₁ mg mb fa o pm cd doc a vs ns G Y ho (fd_plain hd) hcd hmg hobj hints hlen hg) fun r s' hq=>?_);obtain⟨rfl,h2,h3,h4⟩:=hq;exact⟨.inl ⟨.bool true,.bool true,[],rfl,fun _=>rfl,.bool true,tJ l _,fun _=>⟨List.Pairwise.nil,fun _ hm=>(nomatch hm)⟩⟩,h2,h3,h4⟩
section
variable{prog:Program}{w:World}{A:Around}{E:Value->Shared->Prop}{s:Shared}{K:Frag}
end
end Att
namespace L2
open PySem PySem.Spec PyProof.Rows
theorem mL:∀{vs:List Value} {ns:List Int},IntsAre vs ns->aF (ns.map V.int) vs
 | _,_,.nil=> .nil
 | _,_,.cons n t h=> .cons ⟨t,rfl⟩ (mL h)
def yv(H:Hp):Prop:=∀b,H b=none\/∃o xs,H b=some (.frz o (.lst xs))
theorem law_call{P:Program}{K:PySem.W.Frag}{mg mb:Str->Option Value}{vs:List Value}
 (KX:K.In s₁.heap) (hns:s₁.heap.Ns mainGlobals mg) (hb:s₁.heap.Ns builtinsNs mb) (hbb:∀x:Str,x≠"__name__"->mb x=bootBuiltins x) (hlim:s₁.heap.NoLimit) (hg:s₁.gens= #[])
 (ha:s₁.heap.get? a=some {cls:= .type "list",data:= .seq vs.toArray}) (hi:IntsAre vs ns) (hl:ns.length<=sizeLine) (hr:bS k callerA)
 (F:∀base:Heap,K.In base->base.Ns mainGlobals mg->hJ P w K mg base CX k fa fd [x] sp) (hbind:∀(s:Shared) (u:Value),BindsTo s fd ⟨[u],[]⟩ [(x,u)])
 (hsp:∀H:Hp,yv H->SqL K H a (ns.map V.int)->sp [.ref a] H (fun v _=>v= .bl true) fun _ _ _=>False)
 (hCX:∀H e s',CX [] H s₁ (fun _ _ _=>False) e s'->False):
 codeAny (model P w) callerA (.call (.ref fa) ⟨[.ref a],[]⟩) (fun r s'=>r= .ok (.ret (.bool true))/\OldK s₁.heap s'.heap/\s'.os=s₁.os/\AllBare s'.gens) s₁:=by
 have rv:=mL hi;have lenV:=hi.length;have core:∀H:Hp,yv H->SqL K H a (ns.map V.int)->HOk P w H s₁.heap->(∀b,H b≠none->b=a)->(H a≠none->K.lookup a=none)->
  codeAny (model P w) callerA (.call (.ref fa) ⟨[.ref a],[]⟩) (fun r s'=>r= .ok (.ret (.bool true))/\OldK s₁.heap s'.heap/\s'.os=s₁.os/\AllBare s'.gens) s₁:=by
  intro H hO hS hok hA hK;have base_of:∀{b:Addr} {o:Obj},s₁.heap.get? b=some o->H b=none->(nt s₁.heap H).get? b=some o:=fun e n=>u5 e n
  have noA:∀{b:Addr} {o:Obj} {es:Array DictEntry} {ep:Nat},s₁.heap.get? b=some o->o.data= .dict es ep->H b=none:=fun{b o es ep} e d=>by
   cases q:H b with
   | none=>rfl
   | some u=>
     have e':b=a:=hA b (by rw[q];simp);subst e';rw[ha]at e;cases e;have d':Data.seq vs.toArray _=Data.dict es ep:=d;cases d'
  have nsK:∀{b:Addr} {m:Str->Option Value},s₁.heap.Ns b m->(nt s₁.heap H).Ns b m:=fun{b m} ⟨o,es,ep,e,d,r⟩=>⟨o,es,ep,base_of e (noA e d),d,r⟩
  have hKb:K.In (nt s₁.heap H):=fun b o e=>base_of (KX b o e) (by
   cases q:H b with
   | none=>rfl
   | some u=>
     have e':b=a:=hA b (by rw[q];simp);subst e';rw[hK (by rw[q];simp)]at e;cases e)
  have hM:Mod K mg (nt s₁.heap H):=⟨hKb,nsK hns,⟨mb,nsK hb,hbb⟩,let⟨mc,h1,h2⟩:=hlim;⟨mc,nsK h1,h2⟩⟩
  have e0:qA P w K mg (nt s₁.heap H) callerA [] s₁ H:=⟨rfl,hM,fun b o e=>xO e,Nat.le_of_eq (sP _ _),trivial,fun b hb=>absurd (show b∈([]:List Addr)from hb) (by simp),hok,.of_eq hg⟩
  refine codeAny_mono ((F _ hKb (nsK hns)).run callerA [] s₁ H ⟨[.ref a],[]⟩ [.ref a] [.ref a] _ _ hr e0 (hbind s₁ (.ref a)) (.cons rfl .nil) (hsp H hO hS)) fun r s' h=>?_
  cases r with
  | error e=>exact(hCX H e s' h).elim
  | ok fl=>
    cases fl with
    | next=>exact False.elim h
    | brk=>exact False.elim h
    | cont=>exact False.elim h
    | ret u=>
      obtain⟨v,H',os,bare,un,hok',r',q⟩:=h;have q':v= .bl true:=q;subst q';obtain rfl:u=Value.bool true:=r';refine⟨rfl,OldK.of_keep fun b o e=>?_,os,bare⟩;cases q:H b with
      | none=>exact un.keep b o e q (by intro z;exact absurd (show b∈([]:List Addr)from z) (by simp)) (by simp)
      | some u=>
        rcases hO b with z|⟨ob,xs,z⟩
        ·rw[q]at z;cases z
        ·have z2:=un.frzs b ob _ z;obtain⟨e1,_⟩:=hok b _ z;obtain⟨e2,_⟩:=hok' b _ z2;rw[e]at e1;cases e1;exact e2
 cases hk:K.lookup a with
 | some o=>
   have e:=KX a o hk;rw[ha]at e;cases e;refine core (fun _=>none) (fun _=> .inl rfl) (.inr ⟨_,vs.toArray,_,hk,rfl,rfl,rfl,by rw[Zo,lenV];exact hl,by simpa using rv⟩) (fun b u z=>by have z':(none:Option HO)=some u:=z;cases z') (fun b z=>absurd rfl z) fun z=>absurd rfl z
 | none=>
   refine core (fun b=>if b=a then some (.frz {cls:= .type "list",data:= .seq vs.toArray} (.lst (ns.map V.int)))else none) (fun b=>?_) (.inl (.inr ⟨{cls:= .type "list",data:= .seq vs.toArray},if_pos rfl⟩)) (fun b u z=>?_) (fun b z=>?_) fun _=>hk
   ·by_cases hb:b=a
    ·exact .inr ⟨_,_,if_pos hb⟩
    ·exact .inl (if_neg hb)
   ·by_cases hb:b=a
    ·have z':=(if_pos hb).symm.trans z;cases z';subst hb;exact⟨ha,by rw[Z5];exact hl,vs,_,rv,ha⟩
    ·have z':=(if_neg hb).symm.trans z;cases z'
   ·by_cases hb:b=a
    ·exact hb
    ·exact absurd (if_neg hb) z
theorem walk_of{l:PySem.W.OpenLaw}{XP:(Str->Option Value)->Heap->Prop}{YP:World->Heap->Prop}{d:DefRec}{K:Params->PySem.W.Frag}{CX:World->CXT}{sp:World->Sp}{x:Str}
 (hn:l.most=some n) (hn2:n<=sizeLine) (hdf:d.params.defaults=[]) (hr:bS k callerA)
 (hY:∀(w:World) (h:Heap),YP w h->(K w.params).In h)
 (F:∀(w:World) (mg:Str->Option Value) (fa:Addr) (h:Heap),(K w.params).In h->h.Ns mainGlobals mg->mg d.name=some (.ref fa)->
  ∃fd:FuncData,(∀(s:Shared) (u:Value),BindsTo s fd ⟨[u],[]⟩ [(x,u)])/\
   ∀base:Heap,(K w.params).In base->base.Ns mainGlobals mg->hJ l.prog w (K w.params) mg base (CX w) k fa fd [x] (sp w))
 (hsp:∀(w:World) (H:Hp) (a:Addr) (ns:List Int),ns.length<=n->yv H->SqL (K w.params) H a (ns.map V.int)->sp w [.ref a] H (fun v _=>v= .bl true) fun _ _ _=>False)
 (hCX:∀(w:World) (H:Hp) (s:Shared) (e:Value) (s':Shared),CX w [] H s (fun _ _ _=>False) e s'->False):
 PySem.W.WalkO q loose XP YP l.row.toRowW d [] (fun f vs=>PySem.call f vs):=by
 refine Att.attach_call hn hdf fun w s₀ s₁ mg mb fa o pm cd doc a vs ns G Y ho hd hcd hmg hobj hints hlen hg=>?_
 have KX:=hY w _ Y;obtain⟨fd,hb,hF⟩:=F w mg fa _ KX G.T.g hmg;exact law_call KX G.T.g G.T.b G.T.builtins G.T.nolimit hg hobj hints (Y8 hlen hn2) hr hF hb (fun H hO hS=>hsp w H a ns hlen hO hS) fun H e s'=>hCX w H s₁ e s'
noncomputable def iB(s:Stmt)(j:Nat):Stmt:=match s with
 | .ClassDef _ _ _ body _ _ _ _ _ _ _=>body.getD j (.Pass ⟨0,0,0,0⟩)
 | _=> .Pass ⟨0,0,0,0⟩
noncomputable def bI(s:Stmt):Arguments:=match s with
 | .FunctionDef _ a _ _ _ _ _ _ _ _=>a
 | _=>{posonlyargs:=[],args:=[],vararg:=none,kwonlyargs:=[],kw_defaults:=[],kwarg:=none,defaults:=[]}
noncomputable def bi(s:Stmt):List Stmt:=match s with
 | .FunctionDef _ _ b _ _ _ _ _ _ _=>b
 | _=>[]
noncomputable def af(s:Stmt):Scope:=match s with
 | .FunctionDef _ _ _ _ _ _ sc _ _ _=>sc
 | _=>{kind:= .function,names:=[],isGenerator:=false,isCoroutine:=false}
noncomputable abbrev CX0:CXT:=fun _ _ _ _ _ _=>False
noncomputable abbrev E0:XK:=fun _ _ _=>False
theorem v5{X:Cx}:hV CX0 X E0:=fun _ _ _ _ _ _ _ h=>h.elim
structure Fun (K:PySem.W.Frag) (x qual:Str) (st:Stmt) (f:Addr) (fd:FuncData):Prop where
 ex:∃(oc:Value) (od:Option Addr) (kV doc pm:Value) (an:Option Addr) (cdv ct:Value) (osl:Array (Option Value)),
  fd=fnOf x qual (bI st) (bi st) (af st) .none kV doc pm an cdv ct/\K.lookup f=some ⟨oc,od,.func fd,osl⟩/\codeIn K cdv qual=true
 kp:keepIn K (.ref f)=true
section
variable{P:Program}{w:World}{K:PySem.W.Frag}{mg:Str->Option Value}{base:Heap}
theorem Fun.ok{x qual:Str}{st:Stmt}{f:Addr}{fd:FuncData}{N ps:List Str}{k:Nat}{sp:Sp}(F:Fun K x qual st f fd)(S:ao N ps (af st))(len:∀vs H Q E,sp vs H Q E->vs.length=ps.length)
 (hbody:∀(cdv:Value) (A:Around) (outer:List Env) (s:Shared) (H:Hp) (vs:List V) (Q:VK) (E:XK),bS k (A.deeper (envOfC qual (af st) s.heap.objs.size f cdv))->sp vs H Q E->
  ∃t,PSs (nA CX0 P w K mg base N qual (af st) f cdv A outer s H E).nox (bi st) t/\t {nx:=fun _ H'=>Q .non H',rt:=Q} (start N vs) H):hJ P w K mg base CX0 (k+1) f fd ps sp:=by
 obtain⟨oc,od,kV,doc,pm,an,cdv,ct,osl,rfl,lk,hcd⟩:=F.ex;refine BY lk hcd S len fun A outer s H vs Q E hr hsp=>?_
 obtain⟨t,h,q⟩:=hbody cdv A outer s H vs Q E hr hsp;exact⟨t,h.nox,q⟩
theorem Fun.binds{st:Stmt}(F:Fun K x qual st f fd)
 (h:∀(kV doc pm:Value) (an:Option Addr) (cdv ct:Value) (us:List Value),us.length=ps.length->bindArgs (fnOf x qual (bI st) (bi st) (af st) .none kV doc pm an cdv ct) ⟨us,[]⟩=pure (ps.zip us)):ei K fd ps []:=by
 obtain⟨oc,od,kV,doc,pm,an,cdv,ct,osl,rfl,lk,hcd⟩:=F.ex;exact .all (h kV doc pm an cdv ct)
theorem dP{st:Stmt}{kV doc pm cdv ct:Value}(l:K.lookup f=some ⟨oc,od,.func (fnOf x qual (bI st) (bi st) (af st) .none kV doc pm an cdv ct),osl⟩)
 (c:codeIn K cdv qual=true) (k:keepIn K (.ref f)=true):Fun K x qual st f (fnOf x qual (bI st) (bi st) (af st) .none kV doc pm an cdv ct):=⟨⟨oc,od,kV,doc,pm,an,cdv,ct,osl,rfl,l,c⟩,k⟩
end
section
variable{X:Cx}
theorem pv(i:Nat)(hN:X.N[i]? =some x)(hv:Vis X.env.scope x)(hd:(x==("__debug__":Str))=false)
 (hcd:(x==("__classdict__":Str))=false):PE X (.Name x pos) (oM i):=va hN hv hd hcd
end
theorem AJ{A B:Prop}(h:B):if false=true then A else B:=by
 rw[if_neg Zs];exact h
theorem bw{c A B:Prop}[Decidable c](h1:c->A)(h2: ¬ c->B):if c then A else B:=by
 by_cases h:c
 ·rw[if_pos h];exact h1 h
 ·rw[if_neg h];exact h2 h
def ac(H H':Hp):Prop:=∀b o,H b=some o->H' b=some o
theorem ac.refl(H:Hp):ac H H:=fun _ _ h=>h
theorem ac.trans{H H1 H2:Hp}(a:ac H H1)(b:ac H1 H2):ac H H2:=fun c o h=>b c o (a c o h)
theorem ac.free{H H':Hp}(e:ac H H'){l:Addr}(h:H' l=Option.none):H l=Option.none:=by
 cases q:H l with
 | none=>rfl
 | some o=>
   rw[e l o q]at h;cases h
theorem ac.seq{K:PySem.W.Frag}(e:ac H H')(h:SqL K H a xs):SqL K H' a xs:=by
 rcases h with(h|⟨o,h⟩)|h
 ·exact .inl (.inl (e _ _ h))
 ·exact .inl (.inr ⟨o,e _ _ h⟩)
 ·exact .inr h
section
variable{X:Cx}
end
section
variable{κ:Type}[DecidableEq κ]
theorem yw{kvs:List (κ×V)}(h:bO kvs k=some v):k∈kvs.map (·.1):=by
 have q:(kvs.any fun kv=>decide (kv.1=k))=true:=by
  rw[fO,h]
  all_goals rfl
 obtain⟨p,hp,e⟩:=any_eq_true.mp q;exact Xa ⟨p,hp,Zn e⟩
theorem km:∀{l:List κ} {k:κ},l.Nodup-> ¬ k∈l->(l++[k]).Nodup
 |[],k,_,_=>by simp
 | a::r,k,h,hk=>by
   obtain⟨h1,h2⟩:=nodup_cons.mp h;show(a::(r++[k])).Nodup;refine nodup_cons.mpr ⟨fun m=>?_,km h2 fun m=>hk (mem_cons.mpr (Or.inr m))⟩;rcases X7 m with q|q
   ·exact h1 q
   ·exact hk (mem_cons.mpr (Or.inl (X8 q).symm))
end
noncomputable def j6(env:Env):List (Str×NameKind)->List (Str×Addr)->List (Str×Addr)
 |[],acc=>acc
 |(n,k)::r,acc=>j6 env r (if k= .free then(n,(env.cells.lookup n).getD 0)::acc else acc)
theorem kM:∀(names:List (Str×NameKind)) (acc:List (Str×Addr)),(∀y∈names,y.2= .free->∃c,env.cells.lookup y.1=some c)->
 (forIn names acc fun x r=>match x with
  |(name,kind)=>if(kind==NameKind.free)=true then do let a<-cellOf env name;pure (ForInStep.yield ((name,a)::r))else pure (ForInStep.yield r):Sem (List (Str×Addr)))=pure (j6 env names acc)
 |[],acc,_=>rfl
 |(n,k)::r,acc,h=>by
  have ih:=fun acc=>kM (env:=env) r acc fun y hy=>h y (Zj _ hy)
  rw[forIn_cons];by_cases hk:k= .free
  ·subst hk;obtain⟨c,e⟩:=h (n,.free) Zl rfl;have e1:cellOf env n=pure c:=by unfold cellOf;rw[e]
   simp only[beq_self_eq_true,if_true,e1,pure_bind];rw[ih];show _=pure (j6 env r (if(NameKind.free:NameKind)= .free then(n,(env.cells.lookup n).getD 0)::acc else acc));rw[if_pos rfl,e]
   all_goals rfl
  ·have hb:(k==NameKind.free)=false:=by simpa using hk
   simp only[hb,Zx,if_false,pure_bind];rw[ih];show _=pure (j6 env r (if k= .free then(n,(env.cells.lookup n).getD 0)::acc else acc));rw[if_neg hk]
theorem yx(h:∀y∈scope.names,y.2= .free->∃c,env.cells.lookup y.1=some c):closureFor scope env=pure (j6 env scope.names []):=by
 unfold closureFor;have e:=kM scope.names [] h;simp only[bind_pure];exact e
theorem oX:∀(names:List (Str×NameKind)) (acc:List (Str×Addr)),(∀y∈names,y.2= .free->∃c,env.cells.lookup y.1=some c)->
 (∀y d,acc.lookup y=some d->env.cells.lookup y=some d)->(j6 env names acc).lookup x=some c->env.cells.lookup x=some c
 |[],acc,_,ha,e=>ha x c e
 |(n,k)::r,acc,h,ha,e=>by
  refine oX r _ (fun y hy=>h y (Zj _ hy)) (fun y d q=>?_) e;by_cases hk:k= .free
  ·rw[if_pos hk,Ye]at q;obtain⟨c',e'⟩:=h (n,k) Zl hk;cases hy:y==n with
   | true=>
     rw[hy]at q;have:=eq_of_beq hy;subst this;rw[e']at q ⊢;exact q
   | false=>rw[hy]at q;exact ha y d q
  ·rw[if_neg hk]at q;exact ha y d q
theorem kN:∀(names:List (Str×NameKind)) (acc:List (Str×Addr)),(∃c,acc.lookup x=some c)->∃c,(j6 env names acc).lookup x=some c
 |[],_,h=>h
 |(n,k)::r,acc,h=>by
  refine kN r _ ?_;by_cases hk:k= .free
  ·rw[if_pos hk,Ye];cases hy:x==n with
   | true=>exact⟨_,rfl⟩
   | false=>exact h
  ·rw[if_neg hk];exact h
theorem kO:∀(names:List (Str×NameKind)) (acc:List (Str×Addr)),(x,NameKind.free)∈names->∃c,(j6 env names acc).lookup x=some c
 |[],_,h=>by simp at h
 |(n,k)::r,acc,h=>by
  rcases mem_cons.mp h with e|h
  ·cases e;refine kN r _ ?_;rw[if_pos rfl,Ye,beq_self_eq_true];exact⟨_,rfl⟩
  ·exact kO r _ h
noncomputable def ba(X:Cx)(scope:Scope)(N':List Str)(s₃:Shared)(H₃:Hp)(fp:List Addr):Cx:=
 {X with
  N:=N'
  s₀:=s₃
  H₀:=H₃
  env:=compEnvC scope (cellsFrom (s₃.heap.objs.size+1) scope.names (j6 X.env scope.names [])) s₃.heap.objs.size X.env
  outer:=X.stack
  stack:=X.stack
  ex:=fp
  fn:=fun x=>decide (scope.names.lookup x=some .cell)
  pn:=[]
  xe:=fun _ _=>False}
structure aE (X:Cx) (scope:Scope) (N':List Str) (cap:List (Nat×Nat)):Prop where
 kind:scope.kind= .function
 cell:∀y∈scope.names,y.2= .cell->scope.names.lookup y.1=some .cell
 loc:∀y∈scope.names,y.2= .local->scope.names.lookup y.1=some .local
 free:∀y∈scope.names,y.2= .free->X.env.kindOf y.1=some .cell\/X.env.kindOf y.1=some .free
 capt:∀p∈cap,∃x,N'[p.1]? =some x/\X.N[p.2]? =some x/\scope.names.lookup x=some .free
noncomputable def mM(n:Nat)(cap:List (Nat×Nat))(σ:St):St:=(List.range n).map fun j=>(cap.lookup j).bind fun i=>(σ[i]?).join
theorem jP:∀{l:List (Nat×Nat)} {j i:Nat},l.lookup j=some i->(j,i)∈l
 |[],_,_,h=>by simp at h
 |(a,b)::r,j,i,h=>by
  rw[Ye]at h;cases hj:j==a with
  | true=>
    rw[hj]at h;have:=eq_of_beq hj;subst this;have e:b=i:=Z9 h;subst e;exact Zl
  | false=>rw[hj]at h;exact Zj _ (jP h)
theorem jQ{env:Env}{names:List (Str×NameKind)}{x:Str}{k:NameKind}(h:(names.map fun(n,k)=>if(k==NameKind.free&&env.scope.kind== .function&&env.kindOf n==some .cell)then(n,NameKind.cell)else(n,k)).lookup x=some k)
 (hk:k= .cell\/k= .free):(x,NameKind.free)∈names\/(x,NameKind.cell)∈names:=by
 have m:=PySem.mem_of_lookup h;obtain⟨⟨n,k'⟩,hm,e⟩:=X9 m;by_cases hb:(k'==NameKind.free&&env.scope.kind== .function&&env.kindOf n==some .cell)=true
 ·have e':((n,NameKind.cell):Str×NameKind)=(x,k):=by rw[<-e];simp only[hb,if_true]
  cases e';have:k'= .free:=by
   simp only[Zu,beq_iff_eq]at hb;exact hb.1.1
  subst this;exact .inl hm
 ·have e':((n,k'):Str×NameKind)=(x,k):=by rw[<-e];simp only[hb];rfl
  cases e';rcases hk with rfl|rfl
  ·exact .inr hm
  ·exact .inl hm
theorem dI:∀(names:List (Str×NameKind)) (n:Nat) (acc:List (Str×Addr)),cellsFrom n names acc=cellsFrom n names [] ++acc
 |[],_,_=>rfl
 |(x,k)::r,n,acc=>by
  unfold cellsFrom
  split
  ·rw[dI r (n+1) ((x,n)::acc),dI r (n+1) [(x,n)],Zd];rfl
  ·exact dI r n acc
theorem jj:∀{names:List (Str×NameKind)} {n:Nat},(x,c)∈cellsFrom n names []->(x,NameKind.cell)∈names
 |[],_,h=>nomatch h
 |(y,k)::r,n,h=>by
  unfold cellsFrom at h
  split at h
  ·rename_i hk
   rw[dI]at h;rcases X7 h with q|q
   ·exact Zj _ (jj q)
   ·have:=X8 q;cases this;rw[beq_iff_eq.mp hk];exact Zl
  ·exact Zj _ (jj h)
theorem jR(h:(cellsFrom n names acc).lookup x=some c):(x,c)∈cellsFrom n names []\/((cellsFrom n names []).lookup x=none/\acc.lookup x=some c):=by
 rw[dI,List.lookup_append]at h;cases e:(cellsFrom n names []).lookup x with
 | none=>rw[e]at h;exact .inr ⟨rfl,by simpa using h⟩
 | some d=>
   rw[e]at h;have:d=c:=by simpa using h
   rw[<-this];exact .inl (PySem.mem_of_lookup e)
theorem iC{env:Env}:∀{names:List (Str×NameKind)} {x:Str},names.lookup x=some .free->
 (names.map fun(n,k)=>if(k==NameKind.free&&env.scope.kind== .function&&env.kindOf n==some .cell)then(n,NameKind.cell)else(n,k)).lookup x=some .cell\/
 (names.map fun(n,k)=>if(k==NameKind.free&&env.scope.kind== .function&&env.kindOf n==some .cell)then(n,NameKind.cell)else(n,k)).lookup x=some .free
 |[],_,h=>by simp at h
 |(n,k)::r,x,h=>by
  have ih:= @iC env r x;simp only[Yi];cases hx:x==n with
  | true=>
    rw[Ye,hx]at h;have hk:k= .free:=Z9 h;subst hk;by_cases hc:((NameKind.free==NameKind.free)&&env.scope.kind== .function&&env.kindOf n==some .cell)=true
    ·rw[if_pos hc,Ye,hx];exact .inl rfl
    ·rw[if_neg hc,Ye,hx];exact .inr rfl
  | false=>
    rw[Ye,hx]at h;have h:=ih h;by_cases hc:(k==NameKind.free&&env.scope.kind== .function&&env.kindOf n==some .cell)=true
    ·rw[if_pos hc,Ye,hx];exact h
    ·rw[if_neg hc,Ye,hx];exact h
section
variable{X:Cx}{pins:List (Addr×Obj)}{σ:St}{H:Hp}{s:Shared}
theorem Inv.kindL(I:Inv X pins σ H s)(h:X.env.kindOf x=some .cell\/X.env.kindOf x=some .free):∃c,X.env.cells.lookup x=some c:=I.ok.has x h
theorem Inv.block{scope:Scope}{N':List Str}{fp:List Addr}{h₁:Heap}{tk:Nat}(S:aE X scope N' cap)(I:Inv X pins σ H s)(hf:∀b∈fp,j3 X pins H b)(hlt:∀b∈fp,b<s.heap.objs.size)
 (hn:h₁.Ns s.heap.objs.size (fun _=>none)) (old:∀b u,s.heap.get? b=some u->h₁.get? b=some u) (nc:CellsOk h₁ (s.heap.objs.size+1) (cellsFrom (s.heap.objs.size+1) scope.names [])):
 Inv (ba X scope N' s H fp) [] (mM N'.length cap σ) H {s with heap:=h₁,toks:=tk}:=by
 have hfr:∀y∈scope.names,y.2= .free->∃c,X.env.cells.lookup y.1=some c:=fun y hy hk=>I.kindL (S.free y hy hk)
 have cl_old:∀x c,(j6 X.env scope.names []).lookup x=some c->X.env.cells.lookup x=some c:=fun x c e=>oX scope.names [] hfr (fun _ _ q=>by simp at q) e
 have two:∀x c,(cellsFrom (s.heap.objs.size+1) scope.names (j6 X.env scope.names [])).lookup x=some c->((x,c)∈cellsFrom (s.heap.objs.size+1) scope.names []/\h₁.IsCell c none/\s.heap.objs.size+1<=c)\/(X.env.cells.lookup x=some c/\c<s.heap.objs.size):=fun x c e=>by
  rcases jR e with q|⟨_,q⟩
  ·exact .inl ⟨q,nc.empty x c q⟩
  ·have q':=cl_old x c q;obtain⟨v,ob,ho,_⟩:=I.cell x c q';exact .inr ⟨q',Zt ho⟩
 refine⟨⟨I.ok.mod,S.kind,I.ok.glob,I.ok.blt,Zh _,fun x y c h1 h2=>?_,fun x hx=>?_,fun x c hq e=>?_,I.ok.hd,I.ok.frames,.inl rfl,fun b hb'=>⟨?_,fun x c e=>?_⟩,I.bs,
  Y8 I.ok.bsz I.sz,fun b u e hb'=>?_,fun b hb' hs=>?_,I.stack,I.stkFree⟩,rfl,I.bare,Un.kept old,⟨_,hn,fun j x v e1 e2 e3=>?_⟩,fun x c e=>?_,I.hok.fresh (Zh _),fun x c e=>?_,fun p hp=>?_,I.hok.kept old,?_⟩
 ·rcases two x c h1 with⟨q1,_,q2⟩|⟨q1,q2⟩<;> rcases two y c h2 with⟨r1,_,r2⟩|⟨r1,r2⟩
  ·exact name_of_addr nc.apart q1 r1
  ·exact absurd r2 (Nat.not_lt_of_le (Y8 (Y7 _) q2))
  ·exact absurd q2 (Nat.not_lt_of_le (Y8 (Y7 _) r2))
  ·exact I.ok.inj x y c q1 r1
 ·have hx':(relabel scope X.env).names.lookup x=some .cell\/(relabel scope X.env).names.lookup x=some .free:=hx;have:(x,NameKind.free)∈scope.names\/(x,NameKind.cell)∈scope.names:=by
   rcases hx' with q|q
   ·exact jQ q (.inl rfl)
   ·exact jQ q (.inr rfl)
  refine Option.isSome_iff_exists.mp (cellsFrom_some scope.names _ _ ?_);rcases this with q|q
  ·exact .inr (Option.isSome_iff_exists.mpr (kO scope.names [] q))
  ·exact .inl (S.cell _ q rfl)
 ·have hq:scope.names.lookup x=some .cell:=Zn hq;rcases jR e with q|⟨q,_⟩
  ·have:=(nc.empty x c q).2;show s.heap.objs.size<=c
   lia
  ·have:=cellsFrom_some scope.names (s.heap.objs.size+1) [] (.inl hq);rw[q]at this;cases this
 ·exact Zr (hlt b hb')
 ·rcases two x c e with⟨_,_,q⟩|⟨q,_⟩
  ·exact fun z=>absurd (hlt b hb') (Nat.not_lt_of_le (Y8 (Y7 _) (z▸q)))
  ·exact(hf b hb').2.2.2.2.1 x c q
 ·rcases(hf b hb').2.2.2.1 with z|z
  ·exact I.ok.noex b u e z
  ·exact absurd (Zf (Zt e) (Y8 I.ok.bsz z)) (X4 _)
 ·rcases mem_cons.mp (I.stkSub b hs)with z|z
  ·exact(hf b hb').2.1 z
  ·exact(hf b hb').2.2.1 z
 ·
  have hj:∃i,cap.lookup j=some i/\σ[i]? =some (some v):=by
   have e2':((List.range N'.length).map fun j=>(cap.lookup j).bind fun i=>(σ[i]?).join)[j]? =some (some v):=e2;rw[Zk]at e2';cases hr:(List.range N'.length)[j]? with
   | none=>rw[hr]at e2';cases e2'
   | some j'=>
     rw[hr]at e2';have hj':j'=j:=by
      have:=X6 hr;obtain⟨h1,h2⟩:=this;simpa using h2.symm
     subst hj';have e3':((cap.lookup j').bind fun i=>(σ[i]?).join)=some v:=Z9 e2';cases hc:cap.lookup j' with
     | none=>rw[hc]at e3';cases e3'
     | some i=>
       rw[hc]at e3';refine⟨i,rfl,?_⟩;have e4:(σ[i]?).join=some v:=e3';cases hs:σ[i]? with
       | none=>rw[hs]at e4;cases e4
       | some w=>rw[hs]at e4;have:w=some v:=e4;rw[this]
  obtain⟨i,hc,hi⟩:=hj;obtain⟨y,n1,n2,n3⟩:=S.capt (j,i) (jP hc);have hxy:y=x:=Z9 (n1.symm.trans e1);subst hxy;have vis:X.env.kindOf y=some .cell\/X.env.kindOf y=some .free:=S.free _ (PySem.mem_of_lookup n3) rfl;obtain⟨m,hm,hl⟩:=I.loc;obtain⟨u,r,l⟩:=hl i y v n2 hi (by rcases vis with q|q;exact .inr (.inl q);exact .inr (.inr q));refine⟨u,r,.inr ⟨?_,?_⟩⟩
  ·exact iC n3
  ·rcases l with⟨k,_⟩|⟨_,c,hcell,hv⟩
   ·rcases vis with q|q
    ·rw[k]at q;cases q
    ·rw[k]at q;cases q
   ·obtain⟨c',hc'⟩:=kO (env:=X.env) scope.names [] (PySem.mem_of_lookup n3);have:=cl_old y c' hc';rw[hcell]at this;have e5:c=c':=Z9 this;subst e5;obtain⟨ob,ho,hd⟩:=hv;refine⟨c,?_,ob,old c ob ho,hd⟩;show(cellsFrom _ _ _).lookup y=some c;rw[dI,List.lookup_append];cases e6:(cellsFrom (s.heap.objs.size+1) scope.names []).lookup y with
    | none=>simpa using hc'
    | some d=>
      have:=S.cell _ (jj (PySem.mem_of_lookup e6)) rfl;rw[n3]at this;cases this
 ·rcases two x c e with⟨_,q,_⟩|⟨q,_⟩
  ·exact⟨none,q⟩
  ·obtain⟨v,ob,ho,hd⟩:=I.cell x c q;exact⟨v,ob,old c ob ho,hd⟩
 ·rcases two x c e with⟨_,_,q⟩|⟨q,_⟩
  ·exact I.hok.fresh (by lia)
  ·exact I.freeC x c q
 ·exact absurd (show p∈([]:List (Addr×Obj))from hp) (by simp)
 ·show(mM N'.length cap σ).length=N'.length;unfold mM;rw[Z5,Yb]
end
def PTs(X:Cx)(ifs:List Expr)(t:TT):Prop:=
 ∀(pins:List (Addr×Obj)) (s:Shared) (σ:St) (H:Hp) (Q:Bool->Hp->Prop),Inv X pins σ H s->t σ H Q->
  wpAny (model X.prog X.w) X.A (forIn ifs true fun c r=>if r=true then do let ok<-isTrue c X.env (eval c X.env);pure (ForInStep.yield ok)else pure (ForInStep.yield r)) (TP X pins σ Q) X.xe s
def v6:TT:=fun _ H Q=>Q true H
theorem yy{X:Cx}:PTs X [] v6:=fun _ _ _ H _ I h=>wpAny_tests_nil ⟨H,I,h⟩
theorem yz{X:Cx}(h:PT X c t):PTs X [c] t:=fun pins s σ H Q I q=>wpAny_tests_one (h pins s σ H Q I q)
def mN(wi:TI)(n:Nat)(cap:List (Nat×Nat))(g:TG)(tc:TT)(te:TE):TE:=fun σ H Q=>wi σ H fun J H1=>∀D,H1 D=none->∃W:Nat->Nat->List V->St->Hp->Prop,
 (∃m,W 0 m [] (mM n cap σ) (upd H1 D (.lst [])))/\∀i m ys σ' H',W i m ys σ' H'->(J.stop i H'/\Q (.ref D) H')\/
  (J.go i H'/\∀x H2,J.yld i H' x H2->g x σ' H2 fun σ2 H3=>tc σ2 H3 fun b H4=>if b=true then te σ2 H4 fun y H5=>∃zs m',H5 D=some (.lst zs)/\zs.length<sizeLine/\m'<m/\W (i+1) m' (ys++[y]) σ2 (upd H5 D (.lst (zs++[y])))
   else∃m',m'<m/\W (i+1) m' ys σ2 H4)
theorem yA{code:Value}
 (hQ:∀h',h'.Ns s.heap.objs.size (fun _=>none)->(∀b u,s.heap.get? b=some u->h'.get? b=some u)->CellsOk h' (s.heap.objs.size+1) (cellsFrom (s.heap.objs.size+1) scope.names [])->
  Q (newEnv scope s.heap.objs.size globals (cellsFrom (s.heap.objs.size+1) scope.names closure) qual func code (some env) builtins) {s with heap:=h'}):wpAny M A (newFunctionEnv scope globals closure [] qual func code (some env) builtins) Q E s:=by
 simp only[newFunctionEnv,Option.isSome_some,if_true];refine Z2 (wpAny_alloc ?_);refine Z2 (wpAny_layCells _ (fun name kind cells=>by cases hkc:kind==NameKind.cell<;> simp[hkc]) _ _ _ _ ?_);have ok:=cellsFrom_ok scope.names (s.heap.push {cls:= .type "dict",data:= .dict #[]}) (s.heap.objs.size+1) [] ⟨fun _ _ hm=>(nomatch hm),List.Pairwise.nil⟩ (by rw[Zp];exact Zh _);rw[Zp]at ok;rw[show({s with heap:=s.heap.push {cls:= .type "dict",data:= .dict #[]}}:Shared).heap.objs.size=s.heap.objs.size+1 from Zp ..];rw[forIn_nil];exact Z2 (Z3 (Z3 (hQ _ ((Heap.Ns.new s.heap (.type "dict")).keeps (pushCells_keeps _ _)) (fun b u e=>pushCells_keeps _ _ b u (Z6 _ e)) ok)))
theorem mO{X:Cx}{scope:Scope}(S:aE X scope N' cap)(hc:X.calm=true)(hi:PI X tg bx wi)
 (hg:∀s₃ H₃ fp,PG (ba X scope N' s₃ H₃ fp) tg g) (ht:∀s₃ H₃ fp,PTs (ba X scope N' s₃ H₃ fp) ifs tc) (he:∀s₃ H₃ fp,PE (ba X scope N' s₃ H₃ fp) elt te)
 (hs:∀x,foldedSetIterable bx X.env x=pure x) (I:Inv X pins σ H s) (h:mN wi N'.length cap g tc te σ H Q)
 (hfin:∀(D C:Addr) (H5:Hp) (s6:Shared) (fl:Flow) (m:Str->Option Value),s6.heap.Ns C m->j3 X pins H5 C->(∀h',SameBut C s6.heap h'->Inv X pins σ H5 {s6 with heap:=h'})->Q (.ref D) H5->compPost (model X.prog X.w) X.A X.xe use QQ (.ref D) C (.ok fl) s6):
 wpAny (model X.prog X.w) X.A (comprehension (.ListComp elt [⟨tg,bx,ifs,0⟩] scope pos) scope X.env ipos (newList []) false (eval bx X.env) use) QQ X.xe s:=by
 have hfr:∀y∈scope.names,y.2= .free->∃c,X.env.cells.lookup y.1=some c:=fun y hy hk=>I.kindL (S.free y hy hk)
 refine wpAny_comprehension_free (use:=use) rfl hs (yx hfr) S.kind S.loc (thn (hi pins s σ H _ I h) fun v s1 h1=>thn h1 fun itv s2 h2=>?_);obtain⟨it,fp,tn,J,H2,e,I2,T,st2,f2,R⟩:=h2;subst e;refine wpAny_newObj_type (yA fun h₁ hns₁ hold₁ hnc₁=>?_);dsimp only at hns₁ hold₁ hnc₁ ⊢;have I3:Inv X pins σ (upd H2 s2.heap.objs.size (.lst [])) {s2 with heap:=s2.heap.push {cls:= .type "list",data:= .seq ([]:List Value).toArray}}:=I2.lnew (its:=[]) (t':=s2.toks) .nil (X0 _);have hD:H2 s2.heap.objs.size=none:=I2.fresh;have hlt2:∀b∈fp,b<s2.heap.objs.size:=fun b hb=>by obtain⟨o,ho,_⟩:=T.obj 0 _ st2 b hb;exact Zt ho
 generalize hs3:({s2 with heap:=s2.heap.push {cls:= .type "list",data:= .seq ([]:List Value).toArray}}:Shared)=s3 at I3
 have hs3h:s3.heap=s2.heap.push {cls:= .type "list",data:= .seq ([]:List Value).toArray}:=by rw[<-hs3]
 have sz3:s3.heap.objs.size=s2.heap.objs.size+1:=by rw[hs3h,Zp]
 have f3:∀b∈fp,j3 X pins (upd H2 s2.heap.objs.size (.lst [])) b:=fun b hb=>⟨by rw[ai (Zr (hlt2 b hb))];exact(f2 b hb).1,(f2 b hb).2⟩
 have hlt3:∀b∈fp,b<s3.heap.objs.size:=fun b hb=>by rw[sz3];exact Yf (hlt2 b hb)
 obtain⟨W,⟨m0,w0⟩,turn⟩:=R _ hD;have hns3:h₁.Ns s3.heap.objs.size (fun _=>none):=by rw[hs3h];exact hns₁
 have hold3:∀b u,s3.heap.get? b=some u->h₁.get? b=some u:=by rw[hs3h];exact hold₁
 have hnc3:CellsOk h₁ (s3.heap.objs.size+1) (cellsFrom (s3.heap.objs.size+1) scope.names []):=by rw[hs3h];exact hnc₁
 have I4:Inv (ba X scope N' s3 (upd H2 s2.heap.objs.size (.lst [])) fp) [] (mM N'.length cap σ) (upd H2 s2.heap.objs.size (.lst [])) {s3 with heap:=h₁,toks:=s3.toks}:=I3.block S f3 hlt3 hns3 hold3 hnc3;have st4:tn 0 h₁:=T.keep _ _ _ st2 fun b hb o e=>hold3 b o (by rw[hs3h];exact Z6 _ e)
 have hX':(ba X scope N' s3 (upd H2 s2.heap.objs.size (.lst [])) fp).env=compEnvC scope (cellsFrom (s3.heap.objs.size+1) scope.names (j6 X.env scope.names [])) s3.heap.objs.size X.env:=rfl;have stat:∀{H':Hp},(∀b∈fp,H' b=none)->∀b∈fp,j3 (ba X scope N' s3 (upd H2 s2.heap.objs.size (.lst [])) fp) [] H' b:=fun hn b hb=>
  ⟨hn b hb,(I4.ok.exf b hb).1,I4.ok.exfs b hb,.inl hb,(I4.ok.exf b hb).2,fun p hp=>absurd (show p∈([]:List (Addr×Obj))from hp) (by simp)⟩
 have loop:codeAny (model X.prog X.w) X.A (.compLoop (.ListComp elt [⟨tg,bx,ifs,0⟩] scope pos) 0 (.ref it) (.ref s2.heap.objs.size) (ba X scope N' s3 (upd H2 s2.heap.objs.size (.lst [])) fp).env)
  (compPost (model X.prog X.w) X.A X.xe use QQ (.ref s2.heap.objs.size) s3.heap.objs.size) {s3 with heap:=h₁,toks:=s3.toks}:=by
  refine codeAny_loop rfl (fun n s'=>∃i ys σ' H',Inv (ba X scope N' s3 (upd H2 s2.heap.objs.size (.lst [])) fp) [] σ' H' s'/\tn i s'.heap/\(∀b∈fp,H' b=none)/\W i n ys σ' H') ?_ m0 ⟨0,[],_,_,I4,st4,fun b hb=>(f3 b hb).1,w0⟩;rintro n s5 ⟨i,ys,σ5,H5,I5,st5,fr5,w5⟩;show wpAny _ X.A ((compTurn (.ListComp elt [⟨tg,bx,ifs,0⟩] scope pos) 0 (.ref it) (.ref s2.heap.objs.size) (ba X scope N' s3 (upd H2 s2.heap.objs.size (.lst [])) fp).env).onRaise (fun x=>do noteFrame x (ba X scope N' s3 (upd H2 s2.heap.objs.size (.lst [])) fp).env;theTreesLotGoes x)) _ _ s5;refine wpAny_noted ?_;rw[compTurn_list];refine Z2 (wpAny_standAt (Z2 ?_));rcases turn i n ys σ5 H5 w5 with⟨stop,q⟩|⟨go,step⟩
  ·refine thn (T.done (ba X scope N' s3 (upd H2 s2.heap.objs.size (.lst [])) fp) rfl rfl rfl hc i [] s5 σ5 H5 _ I5 (stat fr5) st5 stop) fun r s6 ⟨hr,I6⟩=>?_
   subst hr;refine Z3 ?_;obtain⟨m6,hn6,_⟩:=I6.loc;refine hfin s2.heap.objs.size s3.heap.objs.size H5 s6 _ m6 hn6 (I2.fpOk (by rw[sz3];exact Y7 _) I6.free) (fun h' sb=>?_) q;have u6:Un (frs X.stack) fp (upd H2 s2.heap.objs.size (.lst [])) H5 s3.heap s6.heap:=I6.base;have ne6:∀b u,s3.heap.get? b=some u->b≠s3.heap.objs.size:=fun b u e=>Zr (Zt e)
   have u7:Un (frs X.stack) fp (upd H2 s2.heap.objs.size (.lst [])) H5 s3.heap h':=⟨fun b u e n hb hx=>(sb.2 b (ne6 b u e)).trans (u6.keep b u e n hb hx),fun b u e n hb hx=>by
    obtain⟨sl,q⟩:=u6.slot b u e n hb hx;exact⟨sl,(sb.2 b (ne6 b u e)).trans q⟩,u6.free,fun b u e hx=>by
    obtain⟨o',q⟩:=u6.there b u e hx;exact⟨o',(sb.2 b (ne6 b u e)).trans q⟩,u6.tups,u6.frzs,u6.tbls⟩
   have u8:Un (frs X.stack) fp H2 (upd H2 s2.heap.objs.size (.lst [])) s2.heap s3.heap:=Un.laid (fun b u e=>by rw[hs3h];exact Z6 _ e) (Zh _) hD;have ok7:HOk X.prog X.w H5 h':=fun b u e=>by
    have hne:∀c w,H5 c=some w->c≠s3.heap.objs.size:=fun c w q z=>by
     have:H5 s3.heap.objs.size=none:=I6.free;rw[z,this]at q;cases q
    refine(I6.hok b u e).stay (fun c w hc' q=>(sb.2 c ?_).trans q) (fun _ q=>q) fun _ _ q=>q
    rcases hc' with z|z
    ·rw[z];exact hne b u e
    ·exact hne c _ z
   exact I2.call' (s':={s6 with heap:=h'}) (ch:=fp) (by show s6.os=s2.os;rw[I6.os,<-hs3];rfl) (u8.trans u7) ok7 I6.bare fun b hb=>⟨(f2 b hb).2.2.2.1,(f2 b hb).2.1,(f2 b hb).2.2.2.2.1,(f2 b hb).2.2.2.2.2⟩
  ·refine thn (T.item (ba X scope N' s3 (upd H2 s2.heap.objs.size (.lst [])) fp) rfl rfl rfl hc i [] s5 σ5 H5 _ I5 (stat fr5) st5 go) fun r s6 ⟨u,hr,h6⟩=>?_
   subst hr;refine Z2 (thn h6 fun _ s7 ⟨x,H7,I7,r7,y7,st7,fr7⟩=>?_);have I7':=I7.pinned (stat fr7) (T.obj _ _ st7);have lift:∀{α:Type} {t:Sem α} {Q1:α->Shared->Prop} {E2:Value->Shared->Prop} {s':Shared},wpAny (model X.prog X.w) X.A t Q1 (fun _ _=>False) s'->wpAny (model X.prog X.w) X.A t Q1 E2 s':=fun h=>wpAny_mono h (fun _ _ q=>q) fun _ _ f=>f.elim
   have back:∀{σ8:St} {H8:Hp} {s8:Shared},Inv (ba X scope N' s3 (upd H2 s2.heap.objs.size (.lst [])) fp) ([] ++jc fp s7.heap) σ8 H8 s8->
    Inv (ba X scope N' s3 (upd H2 s2.heap.objs.size (.lst [])) fp) [] σ8 H8 s8/\tn (i+1) s8.heap/\∀b∈fp,H8 b=none:=fun{σ8 H8 s8} I8=>by
    refine⟨I8.unpinned,T.keep _ _ _ st7 fun b hb o e=>(I8.pin (b,o) (Ym _ (Ym _ (dN hb e)))).1,fun b hb=>?_⟩;obtain⟨o,e,d⟩:=T.obj _ _ st7 b hb;exact(I8.pin (b,o) (Ym _ (Ym _ (dN hb e)))).2.1
   refine Z2 (lift (thn (hg s3 _ fp _ s7 σ5 H7 x u _ I7' r7 (step x H7 y7)) fun _ s8 ⟨σ8,H8,I8,q8⟩=>?_));refine Z2 (lift (thn (ht s3 _ fp _ s8 σ8 H8 _ I8 q8) fun b s9 ⟨H9,I9,q9⟩=>?_));cases b with
   | false=>
     obtain⟨m',hm,w9⟩:=(by simpa using q9:∃m',m'<n/\W (i+1) m' ys σ8 H9)
     obtain⟨J1,J2,J3⟩:=back I9;exact Z3 ⟨rfl,m',hm,i+1,ys,σ8,H9,J1,J2,J3,w9⟩
   | true=>
     have q9:=(by simpa using q9:te σ8 H9 fun y H5=>∃zs m',H5 s2.heap.objs.size=some (.lst zs)/\zs.length<sizeLine/\m'<n/\W (i+1) m' (ys++[y]) σ8 (upd H5 s2.heap.objs.size (.lst (zs++[y]))))
     refine Z2 (Z2 (lift (thn (he s3 _ fp _ s9 σ8 H9 _ I9 q9) fun u2 s10 ⟨y,H10,I10,r10,zs,m',hz,hl,hm,w10⟩=>?_)));refine Z2 (lift (thn (mJ _ s10 σ8 H10 (.ref s2.heap.objs.size) [y] (.ref s2.heap.objs.size) [u2] (fun v H'=>v= .non/\H'=upd H10 s2.heap.objs.size (.lst (zs++[y]))) I10 rfl (.cons r10 .nil) ⟨_,rfl,_,hz,hl,rfl,rfl⟩) fun u3 s11 ⟨v3,H11,I11,r11,e11,e12⟩=>?_));subst e12;obtain⟨J1,J2,J3⟩:=back I11;exact Z3 (Z3 ⟨rfl,m',hm,i+1,ys++[y],σ8,_,J1,J2,J3,w10⟩)
 have hloop:codeAny (model X.prog X.w) X.A (.compStart (.ListComp elt [⟨tg,bx,ifs,0⟩] scope pos) 0 (.ref it) (.ref s2.heap.objs.size) (ba X scope N' s3 (upd H2 s2.heap.objs.size (.lst [])) fp).env)
  (compPost (model X.prog X.w) X.A X.xe use QQ (.ref s2.heap.objs.size) s3.heap.objs.size) {s3 with heap:=h₁,toks:=s3.toks}:=
  codeAny_compStart_list loop (T.self _ 0 _ _ _ st4 loop)
 subst hs3;exact hloop
theorem yB{X:Cx}(S:aE X scope N' cap)(hc:X.calm=true)(hi:PI X tg bx wi)
 (hg:∀s₃ H₃ fp,PG (ba X scope N' s₃ H₃ fp) tg g) (ht:∀s₃ H₃ fp,PTs (ba X scope N' s₃ H₃ fp) ifs tc) (he:∀s₃ H₃ fp,PE (ba X scope N' s₃ H₃ fp) elt te)
 (hs:∀x,foldedSetIterable bx X.env x=pure x):
 PE X (.ListComp elt [⟨tg,bx,ifs,0⟩] scope pos) (mN wi N'.length cap g tc te):=by
 intro pins s σ H Q I h;rw[eval_ListComp];exact mO S hc hi hg ht he hs I h fun D C H5 s6 fl m hn _ k q=>⟨m,hn,fun h' sb=>⟨.ref D,H5,k h' sb,rfl,q⟩⟩
noncomputable def Its(z:Str):It:=⟨fun i _=>i<z.cps.size,fun i H x H'=>H'=H/\∃c,z.cps[i]? =some c/\x= .str ⟨#[c]⟩,fun i _=>z.cps.size<=i⟩
theorem qF{P:Program}{K:PySem.W.Frag}(it:Addr)(z:Str)(t:Tok):nv P w K tg (Its z) [it] it (fun i h=>h.IsStrIter it "str_ascii_iterator" z t i) where
 mem:=by simp
 obj:=fun i h st b hb=>by
  have e:b=it:=by simpa using hb
  subst e;obtain⟨o,e,c,d⟩:=st;exact⟨o,e,fun v z=>by rw[d]at z;cases z⟩
 keep:=fun i h h' st k=>by
  obtain⟨o,e,r⟩:=st;exact⟨o,k it (by simp) o e,r⟩
 item:=by
  intro X hP hw hK hc i pins s σ H E I hf st hg;subst hP hw hK;have hlt:i<z.cps.size:=hg;obtain⟨f0,f1,f2,f3,f4,f5⟩:=hf it (by simp);refine wpAny_pyNext_ascii_item st (c:=z.cps[i]) (by simp[hlt]) fun h' st' sb=>?_
  have I1:Inv X pins σ H {s with heap:=h',toks:=s.toks+1}:=I.turned (t':=s.toks+1) (fun b o hb e=>(sb.2 b hb).trans e) f0 f1 f3 f4 f5;obtain⟨o,e,c,d⟩:=id st';exact⟨_,rfl,oO (s:={s with heap:=h',toks:=s.toks+1}) e c d (by decide) ⟨.str ⟨#[z.cps[i]]⟩,H,I1,⟨_,rfl⟩,⟨rfl,_,by simp[hlt],rfl⟩,st',fun b hb=>(hf b hb).1⟩⟩
 done:=by
  intro X hP hw hK hc i pins s σ H E I hf st hg;subst hP hw hK;have hle:z.cps.size<=i:=hg;obtain⟨f0,f1,f2,f3,f4,f5⟩:=hf it (by simp);exact wpAny_pyNext_ascii_end (I.ok.hd hc) st (by simp[hle]) fun h' eb=>⟨rfl,I.turned (t':=s.toks) (fun b o hb e=>eb b o hb e) f0 f1 f3 f4 f5⟩
 self:=fun _ _ _ _ _ st h=>wpAny_pyIter_striter_ascii st h
theorem tK{P:Program}{K:PySem.W.Frag}(it:Addr)(z:Str)(t:Tok):nv P w K tg (Its z) [it] it (fun i h=>h.IsStrIter it "str_iterator" z t i) where
 mem:=by simp
 obj:=fun i h st b hb=>by
  have e:b=it:=by simpa using hb
  subst e;obtain⟨o,e,c,d⟩:=st;exact⟨o,e,fun v z=>by rw[d]at z;cases z⟩
 keep:=fun i h h' st k=>by
  obtain⟨o,e,r⟩:=st;exact⟨o,k it (by simp) o e,r⟩
 item:=by
  intro X hP hw hK hc i pins s σ H E I hf st hg;subst hP hw hK;have hlt:i<z.cps.size:=hg;obtain⟨f0,f1,f2,f3,f4,f5⟩:=hf it (by simp);refine wpAny_pyNext_wide_item st (c:=z.cps[i]) (by simp[hlt]) fun h' st' sb=>?_
  have I1:Inv X pins σ H {s with heap:=h',toks:=s.toks+1}:=I.turned (t':=s.toks+1) (fun b o hb e=>(sb.2 b hb).trans e) f0 f1 f3 f4 f5;obtain⟨o,e,c,d⟩:=id st';exact⟨_,rfl,oO (s:={s with heap:=h',toks:=s.toks+1}) e c d (by decide) ⟨.str ⟨#[z.cps[i]]⟩,H,I1,⟨_,rfl⟩,⟨rfl,_,by simp[hlt],rfl⟩,st',fun b hb=>(hf b hb).1⟩⟩
 done:=by
  intro X hP hw hK hc i pins s σ H E I hf st hg;subst hP hw hK;have hle:z.cps.size<=i:=hg;obtain⟨f0,f1,f2,f3,f4,f5⟩:=hf it (by simp);exact wpAny_pyNext_wide_end (I.ok.hd hc) st (by simp[hle]) fun h' eb=>⟨rfl,I.turned (t':=s.toks) (fun b o hb e=>eb b o hb e) f0 f1 f3 f4 f5⟩
 self:=fun _ _ _ _ _ st h=>wpAny_pyIter_striter_wide st h
def CK(D:Addr)(n i:Nat)(Pv:Nat->List V->St->Hp->Prop)(ys:List V)(σ:St)(y:V)(H:Hp):Prop:=
 ∃zs m',H D=some (.lst zs)/\zs.length<sizeLine/\m'<n-i/\(m'=n-(i+1)/\i+1<=n/\Pv (i+1) (ys++[y]) σ (upd H D (.lst (zs++[y]))))
def CN(n i:Nat)(Pv:Nat->List V->St->Hp->Prop)(ys:List V)(σ:St)(H:Hp):Prop:=∃m',m'<n-i/\(m'=n-(i+1)/\i+1<=n/\Pv (i+1) ys σ H)
theorem CK.mk{Pv:Nat->List V->St->Hp->Prop}(hi:i<n)(hz:H D=some (.lst zs))(hl:zs.length<sizeLine)(p:Pv (i+1) (ys++[y]) σ (upd H D (.lst (zs++[y])))):CK D n i Pv ys σ y H:=
 ⟨zs,n-(i+1),hz,hl,by lia,rfl,hi,p⟩
theorem CN.mk{Pv:Nat->List V->St->Hp->Prop}(hi:i<n)(p:Pv (i+1) ys σ H):CN n i Pv ys σ H:=⟨n-(i+1),by lia,rfl,hi,p⟩
theorem bC{J:It}{g:TG}{tc:TT}{te:TE}{QD:Hp->Prop}(Pv:Nat->List V->St->Hp->Prop)(h0:Pv 0 [] σ H)(hgo:∀i ys σ H,i<n->Pv i ys σ H->J.go i H)(hstop:∀ys σ H,Pv n ys σ H->J.stop n H)
 (hs:∀i ys σ H,i<n->Pv i ys σ H->∀x H2,J.yld i H x H2->g x σ H2 fun σ2 H3=>tc σ2 H3 fun b H4=>if b=true then te σ2 H4 fun y H5=>CK D n i Pv ys σ2 y H5 else CN n i Pv ys σ2 H4) (hd:∀ys σ H,Pv n ys σ H->QD H):
 ∃W:Nat->Nat->List V->St->Hp->Prop,(∃m,W 0 m [] σ H)/\∀i m ys σ' H',W i m ys σ' H'->(J.stop i H'/\QD H')\/
  (J.go i H'/\∀x H2,J.yld i H' x H2->g x σ' H2 fun σ2 H3=>tc σ2 H3 fun b H4=>if b=true then te σ2 H4 fun y H5=>∃zs m',H5 D=some (.lst zs)/\zs.length<sizeLine/\m'<m/\W (i+1) m' (ys++[y]) σ2 (upd H5 D (.lst (zs++[y])))
   else∃m',m'<m/\W (i+1) m' ys σ2 H4):=by
 refine⟨fun i m ys σ H=>m=n-i/\i<=n/\Pv i ys σ H,⟨n,by simp,X0 _,h0⟩,?_⟩;rintro i m ys σ H ⟨rfl,hi,p⟩;by_cases hlt:i<n
 ·exact .inr ⟨hgo i ys σ H hlt p,fun x H2 y=>hs i ys σ H hlt p x H2 y⟩
 ·have e:i=n:=by lia
  subst e;exact .inl ⟨hstop ys σ H p,hd ys σ H p⟩
theorem sf:∀{bs:List Bool} {us:List Value} {i:Nat} {v:Value},aF (bs.map V.bl) us->us[i]? =some v->∃b,bs[i]? =some b/\v= .bool b
 |[],_,_,_,r,e=>by rw[map_nil]at r;cases r;simp at e
 | b::bs,_,i,v,r,e=>by
   rw[Yi]at r;cases r with
   | cons r1 r2=>
     cases(show _=Value.bool b from r1);cases i with
     | zero=>simp at e;exact⟨b,rfl,e.symm⟩
     | succ i=>
       obtain⟨b',h1,h2⟩:=sf (bs:=bs) (i:=i) r2 (by simpa using e);exact⟨b',by simpa using h1,h2⟩
theorem kP(bs:List Bool):(List.range bs.length).all (fun i=>bs.getD i false)=bs.all id:=by
 have e:(List.range bs.length).map (fun i=>bs.getD i false)=bs:=by
  apply ext_getElem
  ·simp
  ·intro i h1 h2;simp[Zb,h2]
 have:(List.range bs.length).all (fun i=>bs.getD i false)=((List.range bs.length).map fun i=>bs.getD i false).all id:=by rw[all_map];rfl
 rw[this,e]
theorem v7{X:Cx}(hc:X.calm=true):bN X (.builtin "all") (fun xs H Q=>∃(p:Addr) (bs:List Bool),xs=[.ref p]/\SqL X.K H p (bs.map V.bl)/\Q (.bl (bs.all id)) H):=by
 intro pins s σ H xs us Q I r h;obtain⟨p,bs,rfl,hq,q⟩:=h;obtain⟨u,rfl,ru⟩:=df r;cases ru;obtain⟨its,rv,pl,hz⟩:=I.list hq;have hh:X.A.in1.handled=none:=I.ok.hd hc;have hp:p<s.heap.objs.size:=by obtain⟨o,ho,_⟩:=pl.isList;exact Zt ho
 have hlen:bs.length=its.toArray.size:=by rw[Zo,<-rv.length,Z5]
 refine call_all_walk (wpAny_pyIter_list pl.isList ?_);refine⟨s.heap.objs.size,[s.heap.objs.size,p],[s.heap.objs.size],its.toArray.size,_,_,fun i=>bs.getD i false,rfl,Walks.list (A:=X.A.in1) hh _ p (Zr hp) its.toArray,⟨⟨_,Zi _ rfl,rfl,rfl⟩,pl.isList.push _⟩,?_,?_⟩
 ·intro i v s' Q' E' hv hQ;obtain⟨b,hb,rfl⟩:=sf (i:=i) rv (by simpa using hv);have e:bs.getD i false=b:=by rw[Zb,hb];rfl
  have hQ:Q' (bs.getD i false) s':=hQ;rw[e]at hQ;exact wpAny_truthy_bool hQ
 ·intro h' tk hk;rw[<-hlen,kP];refine⟨.bl (bs.all id),H,I.kept (t':=tk) fun b o e=>hk b o ?_ (Z6 _ e),rfl,q⟩;have:=Zt e;intro hb;exact absurd (X8 hb) (Zr this)
def AK:V->Option Int->Option Int->Hp->VK->Prop:=fun x lo hi H Q=>∃z,x= .str z/\z.length<=sizeLine/\Q (.str (Txt.slice z lo hi)) H
theorem AL{X:Cx}:SlR X AK:=by
 intro pins s σ H x v vl vu lo hi sl Q I rx hs pl pu h;obtain⟨z,rfl,hz,q⟩:=h;obtain⟨t,rfl⟩:=rx;refine⟨"str",_,F.slot_str_getitem.lookup,typeIs_str _ _ _,?_⟩;have fin:∀l u,(Txt.slice z l u).length<=sizeLine:=fun l u=>Y8 (Txt.slice_le z _ _) hz
 cases pl with
 | none=>
   cases pu with
   | none=>exact wpAny_getItem_str_slice (l:=none) (u:=none) (st:=none) hs rfl (post_val_or_str ⟨fin _ _,fun t' k=>⟨.str (Txt.slice z _ _),H,I.tok k,⟨_,rfl⟩,q⟩⟩)
   | int j uj=>exact wpAny_getItem_str_slice (l:=none) (u:=some (j,uj)) (st:=none) hs rfl (post_val_or_str ⟨fin _ _,fun t' k=>⟨.str (Txt.slice z _ _),H,I.tok k,⟨_,rfl⟩,q⟩⟩)
 | int i ui=>
   cases pu with
   | none=>exact wpAny_getItem_str_slice (l:=some (i,ui)) (u:=none) (st:=none) hs rfl (post_val_or_str ⟨fin _ _,fun t' k=>⟨.str (Txt.slice z _ _),H,I.tok k,⟨_,rfl⟩,q⟩⟩)
   | int j uj=>exact wpAny_getItem_str_slice (l:=some (i,ui)) (u:=some (j,uj)) (st:=none) hs rfl (post_val_or_str ⟨fin _ _,fun t' k=>⟨.str (Txt.slice z _ _),H,I.tok k,⟨_,rfl⟩,q⟩⟩)
theorem eW:∀{ss:List Str} {us:List Value},aF (ss.map V.str) us->StrsAre us ss
 |[],_,r=>by rw[map_nil]at r;cases r;exact .nil
 | x::ss,_,r=>by
   rw[Yi]at r;cases r with
   | cons r1 r2=>
     obtain⟨t,e⟩:=r1;subst e;exact .cons x t (eW r2)
theorem mP:∀{ss:List Str} {us:List Value},StrsAre us ss->aF (ss.map V.str) us
 | _,_,.nil=> .nil
 | _,_,.cons x t h=> .cons ⟨t,rfl⟩ (mP h)
def si(K:PySem.W.Frag):V->List V->Hp->VK->Prop:=fun x vs H Q=>∃(z:Str) (l:Addr) (ss:List Str),x= .str z/\vs=[.ref l]/\SqL K H l (ss.map V.str)/\(ss.map (·.length)).sum+ss.length*z.length<=16777216/\Q (.str (Txt.join z ss)) H
theorem yC{X:Cx}:MtM X "str.join" (si X.K):=by
 intro pins s σ H x vs v us Q I rx rv h;obtain⟨z,l,ss,rfl,rfl,hq,hw,q⟩:=h;obtain⟨t,rfl⟩:=rx;obtain⟨u,rfl,ru⟩:=rv.one;cases ru;obtain⟨its,r,pl,hz⟩:=I.list hq;exact PyProof.Rows.join_list pl.isList (eW r) hw fun t' k=>⟨.str (Txt.join z ss),H,I.tok k,⟨_,rfl⟩,q⟩
theorem v8{X:Cx}:bN X (.builtin "isinstance") (fun xs H Q=>∃x n t b,xs=[x,.ty n]/\gZ X.K H x t/\kitOne X.K t (.type n)=some b/\Q (.bl b) H):=by
 intro pins s σ H xs us Q I r h;obtain⟨x,n,t,b,rfl,ty,e,q⟩:=h;obtain⟨u,u2,rfl,ru,ru2⟩:=iA r;cases(show u2=Value.type n from ru2);exact tf I ru ty e fun tk=>⟨.bl b,H,I.tok tk,rfl,q⟩
theorem mQ(z:Str)(c i:Nat):Builtin.Str.subAt z ⟨#[c]⟩ i=decide (z.cps[i]? =some c):=by
 unfold Builtin.Str.subAt;have hl:(⟨#[c]⟩:Str).length=1:=rfl;rw[hl];by_cases hi:i<z.cps.size
 ·have e:z.cps.extract i (i+1)= #[z.cps[i]]:=by
   apply Array.ext
   ·simp;lia
   ·intro j h1 h2;simp at h2;subst h2;simp
  show(z.cps.extract i (i+1)== #[c])=_;rw[e,Array.getElem?_eq_getElem hi];by_cases hc:z.cps[i]=c
  ·subst hc;simp
  ·have h1:(#[z.cps[i]]== #[c])=false:=by simpa using hc
   rw[h1];exact(Zg fun q=>hc (Z9 q)).symm
 ·have e:z.cps.extract i (i+1)= #[]:=by
   apply Array.ext
   ·simp;lia
   ·intro j h1 h2;simp at h2
  show(z.cps.extract i (i+1)== #[c])=_;rw[e,Array.getElem?_eq_none (by lia)];simp
theorem v9(z:Str)(c:Nat):(!(Builtin.Str.occurrences z ⟨#[c]⟩ 0 z.length 1).isEmpty)=decide (c∈z.cps.toList):=by
 rcases StrLaws.occ_head z ⟨#[c]⟩ 1 (Zh _)with⟨e,hn⟩|⟨i,r,e,ha,_⟩
 ·rw[e];refine(Zg fun hm=>?_).symm;obtain⟨j,hj,e2⟩:=List.mem_iff_getElem.mp hm;have hj':j<z.cps.size:=by simpa using hj
  refine hn j ⟨?_,?_⟩
  ·show j+1<=z.cps.size;lia
  ·rw[mQ];exact Ze (by rw[Array.getElem?_eq_getElem hj'];simpa using e2)
 ·rw[e];refine(Ze ?_).symm;have h2:=ha.2;rw[mQ]at h2;have h3:=Zn h2;have:=Array.mem_of_getElem? h3;simpa using this
section
variable{X:Cx}
abbrev zB:R2:=fun x y H Q=>∃i j,x= .str i/\y= .str j/\i.length+j.length<=sizeLine/\Q (.str (i++j)) H
abbrev wa:R2:=fun x y H Q=>rI0 (fun i j=> .int (i+j)) x y H Q\/(zB x y H Q\/AC x y H Q)
theorem yD:OpR X (binaryOp .Add) wa:=vx.or (qt.or AD)
abbrev wb:R2:=fun x y H Q=>rI vw (fun i j=> .int (i*j)) x y H Q\/AE x y H Q
theorem yE:OpR X (binaryOp .Mult) wb:=vy.or AF
abbrev AM:R2:=rEq
theorem AN:OpR X (compareOp .Eq) AM:=BS
abbrev AO:R2:=rNe
theorem AQ:OpR X (compareOp .NotEq) AO:=BT
abbrev B1:R2:=fun x y H Q=>∃i j,x= .str i/\y= .str j/\Q (.bl (!(Builtin.Str.occurrences j i 0 j.length 1).isEmpty)) H
abbrev yF(K:PySem.W.Frag):R2:=fun x y H Q=>B1 x y H Q\/rIn K false x y H Q
theorem AR:OpR X (compareOp .In) (yF X.K):=sU.or tz
abbrev yG(K:PySem.W.Frag):V->Option Int->Option Int->Hp->VK->Prop:=fun x lo hi H Q=>Az K x lo hi H Q\/(As K x lo hi H Q\/AK x lo hi H Q)
theorem AS:SlR X (yG X.K):=ym.or (At.or AL)
def yH(K:PySem.W.Frag)(tl:TE):TI:=fun σ H R=>tl σ H fun x H1=>(∃a,x= .ref a/\(∃xs,SqL K H1 a xs)/\R (Itl K a) H1)\/(∃a,x= .ref a/\(∃xs,SqT K H1 a xs)/\R (Itt K a) H1)\/∃z,x= .str z/\R (Its z) H1
theorem AT(hl:PE X l tl):PI X tg l (yH X.K tl):=by
 intro pins s σ H R I h;refine thn (hl pins s σ H _ I h) fun v s1 ⟨x,H1,I1,r1,q1⟩=>?_
 have fpok:∀b∈[s1.heap.objs.size],j3 X pins H1 b:=fun b hb=>by
  have e:b=s1.heap.objs.size:=by simpa using hb
  subst e;exact I1.fpOk (Zh _) (I1.hok.fresh (Zh _))
 rcases q1 with⟨a,e,⟨xs,hq⟩,q⟩|⟨a,e,⟨xs,hq⟩,q⟩|⟨z,e,q⟩
 ·subst e;cases r1;obtain⟨its,rv,p,hz⟩:=I1.list hq;refine wpAny_pyIter_list p.isList ?_;exact⟨s1.heap.objs.size,[s1.heap.objs.size],_,_,H1,rfl,I1.kept (t':=s1.toks) fun b o e=>Z6 _ e,sR a _,⟨_,Zi _ rfl,rfl,rfl⟩,fpok,q⟩
 ·subst e;cases r1;obtain⟨its,rv,p,hz⟩:=I1.tuple hq;refine wpAny_pyIter_tuple (show s1.heap.IsTuple a its.toArray from p) ?_;exact⟨s1.heap.objs.size,[s1.heap.objs.size],_,_,H1,rfl,I1.kept (t':=s1.toks) fun b o e=>Z6 _ e,qo a _,⟨_,Zi _ rfl,rfl,rfl⟩,fpok,q⟩
 ·subst e;obtain⟨t,rfl⟩:=r1;cases ha:z.cps.all (·<128)with
  | true=>
    refine wpAny_pyIter_ascii ha ?_;exact⟨s1.heap.objs.size,[s1.heap.objs.size],_,_,H1,rfl,I1.kept (t':=s1.toks) fun b o e=>Z6 _ e,qF _ z t,⟨_,Zi _ rfl,rfl,rfl⟩,fpok,q⟩
  | false=>
    refine wpAny_pyIter_wide ha ?_;exact⟨s1.heap.objs.size,[s1.heap.objs.size],_,_,H1,rfl,I1.kept (t':=s1.toks) fun b o e=>Z6 _ e,tK _ z t,⟨_,Zi _ rfl,rfl,rfl⟩,fpok,q⟩
end
noncomputable def bT(sc:Scope)(N:List Str)(scope:Scope)(N':List Str)(cap:List (Nat×Nat)):Bool:=
 decide (scope.kind= .function)&&scope.names.all (fun y=>(decide (y.2≠ .cell)||decide (scope.names.lookup y.1=some .cell))&&(decide (y.2≠ .local)||decide (scope.names.lookup y.1=some .local))&&(decide (y.2≠ .free)||decide (sc.names.lookup y.1=some .cell)||decide (sc.names.lookup y.1=some .free)))&&
  cap.all fun p=>match N'[p.1]? with
   | some x=>decide (N[p.2]? =some x)&&decide (scope.names.lookup x=some .free)
   | none=>false
theorem aE.of{X:Cx}(h:bT X.env.scope X.N scope N' cap=true):aE X scope N' cap:=by
 unfold bT at h;rw[Zu,Zu,all_eq_true,all_eq_true]at h;obtain⟨⟨h1,h2⟩,h3⟩:=h;refine⟨Zn h1,fun y hy hl=>?_,fun y hy hl=>?_,fun y hy hf=>?_,fun p hp=>?_⟩
 ·have:=h2 y hy;simp only[Zu,or_eq_true,decide_eq_true_eq]at this;exact this.1.1.resolve_left fun q=>q hl
 ·have:=h2 y hy;simp only[Zu,or_eq_true,decide_eq_true_eq]at this;exact this.1.2.resolve_left fun q=>q hl
 ·have:=h2 y hy;simp only[Zu,or_eq_true,decide_eq_true_eq]at this;rcases this.2 with(q|q)|q
  ·exact absurd hf q
  ·exact .inl q
  ·exact .inr q
 ·have:=h3 p hp;cases e:N'[p.1]? with
  | none=>rw[e]at this;cases this
  | some x=>
    rw[e]at this;simp only[Zu,decide_eq_true_eq]at this;exact⟨x,rfl,this.1,this.2⟩
structure Gv (mg:Str->Option Value) (x:Str) (v:V):Prop where
 ex:∃u,mg x=some u/\aJ v u
theorem zC{X:Cx}(g:Gv X.mg x v)(hg:Gl X x)(hd:(x==("__debug__":Str))=false):PE X (.Name x pos) (tC v):=by
 obtain⟨u,h,r⟩:=g.ex;exact xQ hg h r hd
structure Cal (P:Program) (w:World) (K:PySem.W.Frag) (mg:Str->Option Value) (base:Heap) (k:Nat) (x:Str) (ps:List Str) (sp:Sp):Prop where
 ex:∃f fd,hJ P w K mg base CX0 k f fd ps sp/\mg x=some (.ref f)/\keepIn K (.ref f)=true/\ei K fd ps []
structure aG (K:PySem.W.Frag) (mg:Str->Option Value) (x:Str) (st:Stmt) (ps:List Str):Prop where
 ex:∃f fd,Fun K x x st f fd/\mg x=some (.ref f)/\ei K fd ps []
theorem aG.cal{P:Program}{K:PySem.W.Frag}{st:Stmt}(D:aG K mg x st ps)(S:ao N ps (af st))(len:∀vs H Q E,sp vs H Q E->vs.length=ps.length)
 (hbody:∀(f:Addr) (cdv:Value) (A:Around) (outer:List Env) (s:Shared) (H:Hp) (vs:List V) (Q:VK) (E:XK),bS k (A.deeper (envOfC x (af st) s.heap.objs.size f cdv))->sp vs H Q E->
  ∃t,PSs (nA CX0 P w K mg base N x (af st) f cdv A outer s H E).nox (bi st) t/\t {nx:=fun _ H'=>Q .non H',rt:=Q} (start N vs) H):Cal P w K mg base (k+1) x ps sp:=by
 obtain⟨f,fd,F,hm,hb⟩:=D.ex;exact⟨f,fd,F.ok S len (hbody f),hm,F.kp,hb⟩
theorem AU{X:Cx}(C:Cal X.prog X.w X.K X.mg X.base j x ps sp)(hr:bS k X.A)(hg:Gl X x)(hx:hV CX0 X E0)(ha:PA X (e::es) t)(hjk:j<=k)
 (hdb:(x==("__debug__":Str))=false) (he:starEach (e::es) X.env=(false,eval e X.env)::starEach es X.env) (hpl:(backTo pos (starEach es X.env)).any (·.1)=false):
 PE X (.Call (.Name x p) (e::es) [] pos) (r9 sp [] E0 t):=by
 obtain⟨f,fd,F,hm,hk,hb⟩:=C.ex;exact yg F (hr.mono hjk) hg hm hk hb .nil hx ha hdb he hpl
theorem AV{K:PySem.W.Frag}{h:Heap}{st:Stmt}{kV doc pm cdv ct:Value}(X:K.In h)(G:h.Ns mainGlobals mg)
 (a:nsIn K mainGlobals x=some (some (.ref f))) (l:K.lookup f=some ⟨oc,od,.func (fnOf x x (bI st) (bi st) (af st) .none kV doc pm an cdv ct),osl⟩) (c:codeIn K cdv x=true) (k:keepIn K (.ref f)=true)
 (b:∀(kV doc pm:Value) (an:Option Addr) (cdv ct:Value) (us:List Value),us.length=ps.length->bindArgs (fnOf x x (bI st) (bi st) (af st) .none kV doc pm an cdv ct) ⟨us,[]⟩=pure (ps.zip us)):aG K mg x st ps:=
 ⟨f,_,dP l c k,mg_of X G a,(dP l c k).binds b⟩
theorem fG{K:PySem.W.Frag}{h:Heap}(X:K.In h)(G:h.Ns mainGlobals mg)(a:nsIn K mainGlobals x=some (some u))(r:aJ v u):Gv mg x v:=⟨u,mg_of X G a,r⟩
theorem jk(h:∀nx:St->Hp->Prop,(∀σ' H',u D σ' H'->nx σ' H')->t {D with nx:=nx} σ H):bg t u D σ H:=h _ fun _ _ x=>x
theorem av(h:∀Kont:It->Hp->Prop,(∀J H1,(∃W:Nat->Nat->St->Hp->Prop,(∃m,W 0 m σ H1)/\∀i m σ H,W i m σ H->
 (J.stop i H/\D.nx σ H)\/(J.go i H/\∃N:St->Hp->Prop,(∀σ' H',N σ' H'->∃m',m'<m/\W (i+1) m' σ' H')/\∀x H',J.yld i H x H'->g x σ H' fun σ2 H2=>tb {D with nx:=N,ct:=N,bk:=D.nx} σ2 H2))->Kont J H1)->wi σ H Kont):vv wi g tb D σ H:=h _ fun _ _ x=>x
theorem aP(h:∀Kont:It->Hp->Prop,(∀J H1,(∀D,H1 D=none->∃W:Nat->Nat->List V->St->Hp->Prop,
 (∃m,W 0 m [] (mM n cap σ) (upd H1 D (.lst [])))/\∀i m ys σ' H',W i m ys σ' H'->(J.stop i H'/\Q (.ref D) H')\/
  (J.go i H'/\∀x H2,J.yld i H' x H2->g x σ' H2 fun σ2 H3=>tc σ2 H3 fun b H4=>if b=true then te σ2 H4 fun y H5=>∃zs m',H5 D=some (.lst zs)/\zs.length<sizeLine/\m'<m/\W (i+1) m' (ys++[y]) σ2 (upd H5 D (.lst (zs++[y])))
   else∃m',m'<m/\W (i+1) m' ys σ2 H4))->Kont J H1)->wi σ H Kont):mN wi n cap g tc te σ H Q:=h _ fun _ _ x=>x
section
variable{X:Cx}{K:PySem.W.Frag}
theorem AW(h:X.K=K):OpR X (compareOp .In) (yF K):=by subst h;exact AR
theorem slK(h:X.K=K):SlR X (yG K):=by subst h;exact AS
theorem tL(h:X.K=K):bN X (.builtin "len") (fun xs H Q=>∃x n,xs=[x]/\ya K x H n/\Q (.int n) H):=by subst h;exact vF
theorem tM(h:X.K=K)(hc:X.calm=true):bN X (.builtin "all") (fun xs H Q=>∃(p:Addr) (bs:List Bool),xs=[.ref p]/\SqL K H p (bs.map V.bl)/\Q (.bl (bs.all id)) H):=by subst h;exact v7 hc
theorem tN(h:X.K=K):bN X (.builtin "isinstance") (fun xs H Q=>∃x n t b,xs=[x,.ty n]/\gZ K H x t/\kitOne K t (.type n)=some b/\Q (.bl b) H):=by subst h;exact v8
theorem qG(h:X.K=K):bN X (.type "list") (fun xs H Q=>∃p ys,xs=[.ref p]/\(SqL K H p ys\/SqT K H p ys)/\∀l,H l=none->Q (.ref l) (upd H l (.lst ys))):=by subst h;exact nF
theorem wc(h:X.K=K):MtR X "str.join" (si K):=by subst h;exact yC
theorem tO(h:X.K=K)(ha:PE X a ta)(he:∀whole,isTrue a X.env whole=(do let v<-whole;standAt a.pos;holding [v] (truthy v))):PT X a (fun σ H Q=>ta σ H fun x H'=>∃k,vC K x H' k/\Q k H'):=by subst h;exact vD ha he
theorem yI(h:X.K=K)(hl:PE X l tl):PI X tg l (yH K tl):=by subst h;exact AT hl
variable{o e:Expr}{es:List Expr}{to:TE}{t:TA}{name:Str}{apos cpos:Pos}{T id:String}{r:V->List V->Hp->VK->Prop}
theorem yJ(h:X.K=K)(pa:PlainAttrs T)(slot:Slot T name id)(hty:typeOf (.builtin id)=pure (.type "method_descriptor"))(hm:MtR X id r)(ho:PE X o to)
 (hbase:attributeBase o name X.env (eval o X.env)=eval o X.env) (hline:(apos.endLine==cpos.line)=true):PE X (.Call (.Attribute o name apos) [] [] cpos) (yn K T r to):=by
 subst h;exact AB pa slot hty hm ho hbase hline
theorem we(h:X.K=K)(pa:PlainAttrs T)(slot:Slot T name id)(hty:typeOf (.builtin id)=pure (.type "method_descriptor"))(hm:MtR X id r)(ho:PE X o to)(ha:PA X (e::es) t)
 (hbase:attributeBase o name X.env (eval o X.env)=eval o X.env)
 (hfew:((backTo cpos (starEach (e::es) X.env)).all (fun x=>!x.1)&&(backToKw cpos (keywordEach [] X.env)).all (fun x=>x.1.isSome)
  && decide ((e::es).length+([]:List Keyword).length+(if([]:List Keyword).isEmpty then 0 else 1)<30))=true)
 (hline:(apos.endLine==cpos.line)=true) (hs:starEach (e::es) X.env=(false,eval e X.env)::starEach es X.env) (hplain:(backTo cpos (starEach es X.env)).any (·.1)=false):
 PE X (.Call (.Attribute o name apos) (e::es) [] cpos) (tBM K T r to t):=by
 subst h;exact BZ pa slot hty hm ho ha hbase hfew hline hs hplain
end
structure qH (z TI TO i1 i2:Addr):Prop where
 TIz:TI≠z
 TOz:TO≠z
 i1z:i1≠z
 i2z:i2≠z
 TITO:TI≠TO
 TIi1:TI≠i1
 TIi2:TI≠i2
 TOi1:TO≠i1
 TOi2:TO≠i2
 i12:i1≠i2
section
variable{prog:Program}{w:World}{A:Around}{E:Value->Shared->Prop}{s:Shared}{z TI TO i1 i2:Addr}{fp1 fp2:List Addr}{n1 n2 i:Nat}{P1 P2:Nat->Value->Prop}{St1 St2:Nat->Heap->Prop}
theorem wg{Q:Value->Shared->Prop}(D1:Draws prog w A i1 fp1 n1 P1 St1)(D2:Draws prog w A i2 fp2 n2 P2 St2)(D:qH z TI TO i1 i2)(m1:∀b∈fp1,b≠z/\b≠TO/\b≠i2)(m2:∀b∈fp2,b≠z/\b≠TO/\b≠i1)
 (hz:IsZip s.heap z TI TO .none) (hTI:IsPair s.heap TI (.ref i1) (.ref i2)) (hTO:IsPair s.heap TO a b) (h1:St1 i s.heap) (h2:St2 i s.heap) (l1:i<n1) (l2:i<n2)
 (hQ:∀x y h' tk,P1 i x->P2 i y->IsZip h' z TI TO (rawInt s.heap.objs.size)->IsPair h' TO x y->St1 (i+1) h'->St2 (i+1) h'->IsPair h' s.heap.objs.size x y->
  (∀c o,c≠z->c≠TO->c≠i1->c≠i2->s.heap.get? c=some o->h'.get? c=some o)->Q (.ref s.heap.objs.size) {s with heap:=h',toks:=tk}):
 wpAny (model prog w) A (Builtin.«zip.__next__» ⟨[.ref z],[]⟩) (fun fin s'=>∃v,fin= .done (.ret v)/\Q v s') E s:=by
 have fr1:∀{k h h' c},(∀b∈fp1,b≠c)->SameBut c h h'->St1 k h->St1 k h':=fun hc sb st=>D1.frame _ _ _ st fun b hb o e=>(sb.2 b (hc b hb)).trans e
 have fr2:∀{k h h' c},(∀b∈fp2,b≠c)->SameBut c h h'->St2 k h->St2 k h':=fun hc sb st=>D2.frame _ _ _ st fun b hb o e=>(sb.2 b (hc b hb)).trans e
 show wpAny _ _ (field (.ref z) 2>>= _) _ _ _;refine Z2 (wpAny_field hz rfl (x:= .bool false) rfl ?_);show wpAny _ _ (field (.ref z) 3>>= _) _ _ _;refine Z2 (wpAny_field hz rfl (x:= .ref TI) rfl (Z2 (wpAny_seqItems hTI rfl ?_)));show wpAny _ _ (Builtin.SmallTypes.ownedTupleIsFree (.ref z)>>= _) _ _ _;refine Z2 ?_;unfold Builtin.SmallTypes.ownedTupleIsFree;refine Z2 (wpAny_field hz rfl (x:= .none) rfl (Z3 ?_));simp only[if_true];refine Z2 (wpAny_rule (Z2 (wpAny_field hz rfl (x:= .ref TO) rfl (Z2 (wpAny_setField_rec hz (by simp) fun g1 hz1 sb1=>?_)))));replace hz1:IsZip g1 z TI TO .ellipsis:=hz1;refine Z2 ?_;simp only[List.zipIdx_cons,List.zipIdx_nil,forIn_cons,forIn_nil];refine Z2 (Z2 (wpAny_onRaise ?_));show wpAny _ _ (Builtin.SmallTypes.nextOf (.ref i1)>>= _) _ _ _;refine Z2 (D1.item i _ _ _ l1 (fr1 (fun b hb=>(m1 b hb).1) sb1 h1) fun x g2 tk2 px st2 sb2=>Z3 ?_);replace sb2:SameBut i1 g1 g2:=sb2;have hTO2:IsPair g2 TO a b:=(sb2.2 _ D.TOi1).trans ((sb1.2 _ D.TOz).trans hTO);refine Z2 (wpAny_seqItems hTO2 rfl (Z2 (wpAny_updateSeq_pair (s:={s with heap:=g2,toks:=tk2}) hTO2 fun g3 hTO3 sb3=>?_)));replace hTO3:IsPair g3 TO x b:=hTO3;replace sb3:SameBut TO g2 g3:=sb3;refine Z2 (wpAny_letGo (Z3 (Z2 (Z2 (wpAny_onRaise ?_)))));show wpAny _ _ (Builtin.SmallTypes.nextOf (.ref i2)>>= _) _ _ _;have h2':St2 i g3:=fr2 (fun b hb=>(m2 b hb).2.1) sb3 (fr2 (fun b hb=>(m2 b hb).2.2) sb2 (fr2 (fun b hb=>(m2 b hb).1) sb1 h2));refine Z2 (D2.item i _ _ _ l2 h2' fun y g4 tk4 py st4 sb4=>Z3 ?_);replace sb4:SameBut i2 g3 g4:=sb4;have hTO4:IsPair g4 TO x b:=(sb4.2 _ D.TOi2).trans hTO3;refine Z2 (wpAny_seqItems hTO4 rfl (Z2 (wpAny_updateSeq_pair (s:={s with heap:=g4,toks:=tk4}) hTO4 fun g5 hTO5 sb5=>?_)));replace hTO5:IsPair g5 TO x y:=hTO5;replace sb5:SameBut TO g4 g5:=sb5;refine Z2 (wpAny_letGo (Z3 (Z3 (Z2 (wpAny_seqItems hTO5 rfl (Z2 (wpAny_newTuple ?_)))))));have hsz:g5.objs.size=s.heap.objs.size:=by rw[sb5.1,sb4.1,sb3.1,sb2.1,sb1.1]
 have hz5:IsZip g5 z TI TO .ellipsis:=(sb5.2 _ D.TOz.symm).trans ((sb4.2 _ D.i2z.symm).trans ((sb3.2 _ D.TOz.symm).trans ((sb2.2 _ D.i1z.symm).trans hz1)));have hk5:∀c o,c≠z->c≠TO->c≠i1->c≠i2->s.heap.get? c=some o->g5.get? c=some o:=fun c o c1 c2 c3 c4 e=>
  (sb5.2 c c2).trans ((sb4.2 c c4).trans ((sb3.2 c c2).trans ((sb2.2 c c3).trans ((sb1.2 c c1).trans e))))
 have h15:St1 (i+1) g5:=fr1 (fun b hb=>(m1 b hb).2.1) sb5 (fr1 (fun b hb=>(m1 b hb).2.2) sb4 (fr1 (fun b hb=>(m1 b hb).2.1) sb3 st2));have h25:St2 (i+1) g5:=fr2 (fun b hb=>(m2 b hb).2.1) sb5 st4;have hzlt:z<g5.objs.size:=Zt hz5;have hTOlt:TO<g5.objs.size:=Zt hTO5;show wpAny _ _ (Builtin.SmallTypes.ownedTupleHandOut (.ref z) (.ref g5.objs.size)>>= _) _ _ _;refine Z2 ?_;unfold Builtin.SmallTypes.ownedTupleHandOut;have hz6:IsZip (g5.push {cls:= .type "tuple",data:= .seq #[x,y]}) z TI TO .ellipsis:=Z6 _ hz5;refine Z2 (wpAny_setField_rec (s:={s with heap:=g5.push {cls:= .type "tuple",data:= .seq #[x,y]},toks:=tk4}) hz6 (by simp) fun g7 hz7 sb7=>?_);replace hz7:IsZip g7 z TI TO (rawInt g5.objs.size):=hz7;replace sb7:SameBut z (g5.push {cls:= .type "tuple",data:= .seq #[x,y]}) g7:=sb7;refine wpAny_setField_rec (s:={s with heap:=g7,toks:=tk4}) hz7 (by simp) fun g8 hz8 sb8=>?_
 replace hz8:IsZip g8 z TI TO (rawInt g5.objs.size):=hz8;replace sb8:SameBut z g7 g8:=sb8;have up:∀c o,c≠z->g5.get? c=some o->g8.get? c=some o:=fun c o c1 e=>(sb8.2 c c1).trans ((sb7.2 c c1).trans (Z6 _ e))
 have hT8:IsPair g8 g5.objs.size x y:=(sb8.2 _ (Yp hzlt)).trans ((sb7.2 _ (Yp hzlt)).trans (Zi _ rfl));have h18:St1 (i+1) g8:=D1.frame _ _ _ h15 fun b hb o e=>up b o (m1 b hb).1 e
 have h28:St2 (i+1) g8:=D2.frame _ _ _ h25 fun b hb o e=>up b o (m2 b hb).1 e
 rw[hsz]at hz8 hT8;refine Z3 ⟨_,rfl,?_⟩;show Q (.ref g5.objs.size) _;rw[hsz];exact hQ x y g8 tk4 px py hz8 (up _ _ D.TOz hTO5) h18 h28 hT8 fun c o c1 c2 c3 c4 e=>up c o c1 (hk5 c o c1 c2 c3 c4 e)
theorem wj(D1:Draws prog w A i1 fp1 n1 P1 St1)(D2:Draws prog w A i2 fp2 n2 P2 St2)(D:qH z TI TO i1 i2)(m1:∀b∈fp1,b≠z/\b≠TO/\b≠i2)(m2:∀b∈fp2,b≠z/\b≠TO/\b≠i1)
 (hz:IsZip s.heap z TI TO .none) (hTI:IsPair s.heap TI (.ref i1) (.ref i2)) (hTO:IsPair s.heap TO a b) (h1:St1 i s.heap) (h2:St2 i s.heap) (l1:i<=n1) (l2:i<=n2) (hend:i=n1\/i=n2)
 (hE:∀h' e tk,(∀c o,c≠z->c≠TO->c≠i1->c≠i2->s.heap.get? c=some o->h'.get? c=some o)->(∃o,h'.get? e=some o/\o.cls= .type "StopIteration")->E (.ref e) {s with heap:=h',toks:=tk}):
 wpAny (model prog w) A (Builtin.«zip.__next__» ⟨[.ref z],[]⟩) Q E s:=by
 have fr1:∀{k h h' c},(∀b∈fp1,b≠c)->SameBut c h h'->St1 k h->St1 k h':=fun hc sb st=>D1.frame _ _ _ st fun b hb o e=>(sb.2 b (hc b hb)).trans e
 have fr2:∀{k h h' c},(∀b∈fp2,b≠c)->SameBut c h h'->St2 k h->St2 k h':=fun hc sb st=>D2.frame _ _ _ st fun b hb o e=>(sb.2 b (hc b hb)).trans e
 show wpAny _ _ (field (.ref z) 2>>= _) _ _ _;refine Z2 (wpAny_field hz rfl (x:= .bool false) rfl ?_);show wpAny _ _ (field (.ref z) 3>>= _) _ _ _;refine Z2 (wpAny_field hz rfl (x:= .ref TI) rfl (Z2 (wpAny_seqItems hTI rfl ?_)));show wpAny _ _ (Builtin.SmallTypes.ownedTupleIsFree (.ref z)>>= _) _ _ _;refine Z2 ?_;unfold Builtin.SmallTypes.ownedTupleIsFree;refine Z2 (wpAny_field hz rfl (x:= .none) rfl (Z3 ?_));simp only[if_true];refine Z2 (wpAny_rule (Z2 (wpAny_field hz rfl (x:= .ref TO) rfl (Z2 (wpAny_setField_rec hz (by simp) fun g1 hz1 sb1=>?_)))));replace hz1:IsZip g1 z TI TO .ellipsis:=hz1;refine Z2 ?_;simp only[List.zipIdx_cons,List.zipIdx_nil,forIn_cons,forIn_nil];refine Z2 (Z2 (wpAny_onRaise ?_));show wpAny _ _ (Builtin.SmallTypes.nextOf (.ref i1)>>= _) _ _ _;have h1':St1 i g1:=fr1 (fun b hb=>(m1 b hb).1) sb1 h1;by_cases c1:i<n1
 ·have e2:i=n2:=by lia
  refine Z2 (D1.item i _ _ _ c1 h1' fun x g2 tk2 px st2 sb2=>Z3 ?_);replace sb2:SameBut i1 g1 g2:=sb2;have hTO2:IsPair g2 TO a b:=(sb2.2 _ D.TOi1).trans ((sb1.2 _ D.TOz).trans hTO);refine Z2 (wpAny_seqItems hTO2 rfl (Z2 (wpAny_updateSeq_pair (s:={s with heap:=g2,toks:=tk2}) hTO2 fun g3 hTO3 sb3=>?_)));replace sb3:SameBut TO g2 g3:=sb3;refine Z2 (wpAny_letGo (Z3 (Z2 (Z2 (wpAny_onRaise ?_)))));show wpAny _ _ (Builtin.SmallTypes.nextOf (.ref i2)>>= _) _ _ _;have h2':St2 n2 g3:=e2▸fr2 (fun b hb=>(m2 b hb).2.1) sb3 (fr2 (fun b hb=>(m2 b hb).2.2) sb2 (fr2 (fun b hb=>(m2 b hb).1) sb1 h2));refine Z2 (D2.done _ _ _ h2' fun g4 e sb4 he=>?_);replace sb4:Heap.ExtBut i2 g3 g4:=sb4;obtain⟨oe,hoe,hce⟩:=he;have hz4:IsZip g4 z TI TO .ellipsis:=sb4 _ _ D.i2z.symm ((sb3.2 _ D.TOz.symm).trans ((sb2.2 _ D.i1z.symm).trans hz1));have hez:e≠z:=fun x=>by subst x;rw[hz4]at hoe;cases hoe;simp at hce
  refine wpAny_setField_rec (s:={s with heap:=g4,toks:=tk2}) hz4 (by simp) fun g5 _ sb5=>?_
  replace sb5:SameBut z g4 g5:=sb5;exact hE g5 e tk2 (fun c o d1 d2 d3 d4 x=>(sb5.2 c d1).trans (sb4 c o d4 ((sb3.2 c d2).trans ((sb2.2 c d3).trans ((sb1.2 c d1).trans x))))) ⟨oe,(sb5.2 e hez).trans hoe,hce⟩
 ·have e1:i=n1:=by lia
  refine Z2 (D1.done _ _ _ (e1▸h1') fun g2 e sb2 he=>?_);replace sb2:Heap.ExtBut i1 g1 g2:=sb2;obtain⟨oe,hoe,hce⟩:=he;have hz2:IsZip g2 z TI TO .ellipsis:=sb2 _ _ D.i1z.symm hz1;have hez:e≠z:=fun x=>by subst x;rw[hz2]at hoe;cases hoe;simp at hce
  refine wpAny_setField_rec (s:={s with heap:=g2}) hz2 (by simp) fun g3 _ sb3=>?_
  replace sb3:SameBut z g2 g3:=sb3;exact hE g3 e s.toks (fun c o d1 _ d3 _ x=>(sb3.2 c d1).trans (sb2 c o d3 ((sb1.2 c d1).trans x))) ⟨oe,(sb3.2 e hez).trans hoe,hce⟩
end
noncomputable def Itz(x y:Str):It:=⟨fun i _=>i<x.cps.size/\i<y.cps.size,fun i H v H'=>∃c d T,x.cps[i]? =some c/\y.cps[i]? =some d/\H T=none/\v= .ref T/\H'=upd H T (.tup [.str ⟨#[c]⟩,.str ⟨#[d]⟩]),
 fun i _=>i<=x.cps.size/\i<=y.cps.size/\(i=x.cps.size\/i=y.cps.size)⟩
def ZSt(z TI TO i1 i2:Addr)(S1 S2:Nat->Heap->Prop)(i:Nat)(h:Heap):Prop:=IsZip h z TI TO .none/\IsPair h TI (.ref i1) (.ref i2)/\(∃a b,IsPair h TO a b)/\S1 i h/\S2 i h
theorem gA(prog:Program)(w:World)(x:Str)(t:Tok)(it:Addr):∀A:Around,A.handled=none->
 Draws prog w A it [it] x.cps.size (fun i v=>∃c u,x.cps[i]? =some c/\v= .str ⟨#[c]⟩ u) (fun i h=>h.IsStrIter it (strIterType x) x t i):=by
 intro A hh;unfold strIterType;cases ha:x.cps.all (·<128)with
 | true=>exact Draws.strAscii hh it x t
 | false=>exact Draws.strWide hh it x t
theorem wk{P:Program}{K:PySem.W.Frag}(z TI TO i1 i2:Addr)(x y:Str)(t u:Tok)(D:qH z TI TO i1 i2):
 nv P w K (.Tuple elts kt tp) (Itz x y) [z,TI,TO,i1,i2] z (ZSt z TI TO i1 i2 (fun i h=>h.IsStrIter i1 (strIterType x) x t i) (fun i h=>h.IsStrIter i2 (strIterType y) y u i)) where
 mem:=by simp
 obj:=fun i h st b hb=>by
  obtain⟨hz,hTI,⟨a,c,hTO⟩,⟨o1,e1,_,d1⟩,o2,e2,_,d2⟩:=st;simp only[Yn,Yu,or_false]at hb;rcases hb with rfl|rfl|rfl|rfl|rfl
  ·exact⟨_,hz,fun v q=>nomatch q⟩
  ·exact⟨_,hTI,fun v q=>nomatch q⟩
  ·exact⟨_,hTO,fun v q=>nomatch q⟩
  ·exact⟨o1,e1,fun v q=>by rw[d1]at q;cases q⟩
  ·exact⟨o2,e2,fun v q=>by rw[d2]at q;cases q⟩
 keep:=fun i h h' st k=>by
  obtain⟨hz,hTI,⟨a,c,hTO⟩,⟨o1,e1,r1⟩,o2,e2,r2⟩:=st;exact⟨k z (by simp) _ hz,k TI (by simp) _ hTI,⟨a,c,k TO (by simp) _ hTO⟩,⟨o1,k i1 (by simp) _ e1,r1⟩,o2,k i2 (by simp) _ e2,r2⟩
 item:=by
  intro X hP hw hK hc i pins s σ H E I hf st hg;subst hP hw hK;obtain⟨hz,hTI,⟨a,c,hTO⟩,h1,h2⟩:=st;obtain⟨g1,g2⟩:i<x.cps.size/\i<y.cps.size:=hg;have hT:s.TypeIs (.ref z) "zip":=⟨_,hz,rfl⟩
  have hh:X.A.in1.handled=none:=I.ok.hd hc;unfold pyNext;refine Z2 (wpAny_attempt (wpAny_callSpecial?_slot (name:=Str.ofString "__next__") hT F.slot_zip_next (wpAny_call_entry F.slot_zip_next hT F.entry_zip_next
   (wg (gA _ _ x t i1 _ hh) (gA _ _ y u i2 _ hh) D (fun b hb=>by rw[show b=i1 by simpa using hb];exact⟨D.i1z,Ne.symm D.TOi1,D.i12⟩) (fun b hb=>by rw[show b=i2 by simpa using hb];exact⟨D.i2z,Ne.symm D.TOi2,Ne.symm D.i12⟩) hz hTI hTO h1 h2 g1 g2 fun v1 v2 h' tk p1 p2 a1 a2 a3 a4 a5 hk=>Z3 ?_) (F.args_zip_next_1 _))))
  obtain⟨c1,u1,e1,rfl⟩:=p1;obtain⟨c2,u2,e2,rfl⟩:=p2;refine⟨_,rfl,wpAny_letOwnedTupleGo_zip (s:={s with heap:=h',toks:=tk}) a1 fun h'' hz'' sb=>?_⟩;replace sb:SameBut z h' h'':=sb;have zlt:z<s.heap.objs.size:=Zt hz;have Tne:s.heap.objs.size≠z:=Yp zlt;have hT2:h''.get? s.heap.objs.size=some {cls:= .type "tuple",data:= .seq #[.str ⟨#[c1]⟩ u1,.str ⟨#[c2]⟩ u2]}:=(sb.2 _ Tne).trans a5;have turn1:Inv X pins σ H {s with heap:=h'',toks:=tk}:=by
   have nit:∀b v,H b=some v->b∉[z,TI,TO,i1,i2]:=fun b v e hb=>by rw[(hf b hb).1]at e;cases e
   have kk:∀b o,b∉[z,TI,TO,i1,i2]->s.heap.get? b=some o->h''.get? b=some o:=fun b o hb e=>by
    simp only[Yn,Yu,or_false,not_or]at hb;exact(sb.2 b hb.1).trans (hk b o hb.1 hb.2.2.1 hb.2.2.2.1 hb.2.2.2.2 e)
   refine I.step (g':=s.gens) (d':=s.drawn) (ch:=[z,TI,TO,i1,i2]) (fun b hb=>⟨(hf b hb).2.2.2.1,(hf b hb).2.1,(hf b hb).2.2.2.2.1,(hf b hb).2.2.2.2.2⟩) (fun b o _ _ hc e _=>kk b o hc e) (fun b o _ _ hc e _=>⟨o.slots,kk b o hc e⟩) (fun _ _ _ _ n=>n)
    (fun b o hc e=>⟨o,kk b o hc e⟩) (fun _ _ e=>e) (fun _ _ _ e=>e) (fun b ps e=>⟨#[],by rw[e];simp⟩) (fun m hm=>?_) (fun b v e=>?_) I.bare
   ·obtain⟨o,es,ep,ho,r⟩:=hm;exact⟨o,es,ep,kk _ o (fun hb=>(hf _ hb).2.1 rfl) ho,r⟩
   ·refine(I.hok b v e).stay (fun c' v' hc' q=>kk c' v' ?_ q) (fun _ q=>q) fun _ _ q=>q
    rcases hc' with q'|q'
    ·rw[q'];exact nit b v e
    ·exact nit c' _ q'
  have Hn:H s.heap.objs.size=none:=I.fresh;have I2:Inv X pins σ (upd H s.heap.objs.size (.tup [.str ⟨#[c1]⟩,.str ⟨#[c2]⟩])) {s with heap:=h'',toks:=tk}:=by
   have nf:s.heap.objs.size∉X.fs:=I.nofs (Zh _);refine⟨turn1.ok,turn1.os,turn1.bare,?_,turn1.loc,turn1.cell,?_,?_,?_,?_,turn1.len⟩
   ·have lt0:∀b o,X.s₀.heap.get? b=some o->b≠s.heap.objs.size:=fun b o e=>Zr (Zf (Zt e) I.sz)
    refine⟨turn1.base.keep,turn1.base.slot,fun b o e n hx=>?_,turn1.base.there,fun b xs e=>?_,fun b o v e=>?_,fun b ps e=>?_⟩
    ·rw[ai (lt0 b o e)];exact turn1.base.free b o e n hx
    ·rw[ai (aq (turn1.base.tups b xs e) Hn)];exact turn1.base.tups b xs e
    ·rw[ai (aq (turn1.base.frzs b o v e) Hn)];exact turn1.base.frzs b o v e
    ·obtain⟨m,q⟩:=turn1.base.tbls b ps e;exact⟨m,by rw[ai (aq q Hn)];exact q⟩
   ·rw[ai (Zr I.lt)];exact turn1.free
   ·intro x' c' e;obtain⟨v',q⟩:=I.cell x' c' e;rw[ai (Zr q.lt)];exact turn1.freeC x' c' e
   ·intro p hp;obtain⟨e,n,r⟩:=turn1.pin p hp;refine⟨e,?_,r⟩;rw[ai (Zr (Zt (I.pin p hp).1))];exact n
   ·intro b v e;by_cases hb:b=s.heap.objs.size
    ·subst hb;rw[aa]at e;cases e;exact⟨by show 2<=sizeLine;decide,[.str ⟨#[c1]⟩ u1,.str ⟨#[c2]⟩ u2],.cons ⟨_,rfl⟩ (.cons ⟨_,rfl⟩ .nil),_,hT2,rfl,_,rfl⟩
    ·rw[ai hb]at e;refine(turn1.hok b v e).stay (fun _ _ _ q=>q) (fun c' q=>?_) fun c' xs q=>?_
     ·rw[ai (aq q Hn)];exact q
     ·rw[ai (aq q Hn)];exact q
  refine⟨.ref s.heap.objs.size,_,I2,rfl,⟨c1,c2,_,e1,e2,Hn,rfl,rfl⟩,⟨hz'',(sb.2 _ D.TIz).trans (hk _ _ D.TIz D.TITO D.TIi1 D.TIi2 hTI),⟨_,_,(sb.2 _ D.TOz).trans a2⟩,?_,?_⟩,fun b hb=>?_⟩
  ·obtain⟨o,e,r⟩:=a3;exact⟨o,(sb.2 _ D.i1z).trans e,r⟩
  ·obtain⟨o,e,r⟩:=a4;exact⟨o,(sb.2 _ D.i2z).trans e,r⟩
  ·have:b<s.heap.objs.size:=by
    simp only[Yn,Yu,or_false]at hb;obtain⟨o1,q1,_⟩:=h1;obtain⟨o2,q2,_⟩:=h2;rcases hb with rfl|rfl|rfl|rfl|rfl
    ·exact Zt hz
    ·exact Zt hTI
    ·exact Zt hTO
    ·exact Zt q1
    ·exact Zt q2
   rw[ai (Zr this)];exact(hf b hb).1
 done:=by
  intro X hP hw hK hc i pins s σ H E I hf st hg;subst hP hw hK;obtain⟨hz,hTI,⟨a,c,hTO⟩,h1,h2⟩:=st;obtain⟨g1,g2,g3⟩:i<=x.cps.size/\i<=y.cps.size/\(i=x.cps.size\/i=y.cps.size):=hg;have hT:s.TypeIs (.ref z) "zip":=⟨_,hz,rfl⟩
  have hh:X.A.in1.handled=none:=I.ok.hd hc;unfold pyNext;refine Z2 (wpAny_attempt (wpAny_callSpecial?_slot (name:=Str.ofString "__next__") hT F.slot_zip_next (wpAny_call_entry F.slot_zip_next hT F.entry_zip_next
   (wj (gA _ _ x t i1 _ hh) (gA _ _ y u i2 _ hh) D (fun b hb=>by rw[show b=i1 by simpa using hb];exact⟨D.i1z,Ne.symm D.TOi1,D.i12⟩) (fun b hb=>by rw[show b=i2 by simpa using hb];exact⟨D.i2z,Ne.symm D.TOi2,Ne.symm D.i12⟩) hz hTI hTO h1 h2 g1 g2 g3 fun h' e tk hk he=>?_) (F.args_zip_next_1 _))))
  obtain⟨o,ho,hco⟩:=he;refine Z2 (wpAny_isInstance (T:="StopIteration") (b:=true) ⟨o,ho,hco⟩ isSubtype_stop (Z3 ⟨rfl,?_⟩));have nit:∀b v,H b=some v->b∉[z,TI,TO,i1,i2]:=fun b v e hb=>by rw[(hf b hb).1]at e;cases e
  have kk:∀b o,b∉[z,TI,TO,i1,i2]->s.heap.get? b=some o->h'.get? b=some o:=fun b o hb e=>by
   simp only[Yn,Yu,or_false,not_or]at hb;exact hk b o hb.1 hb.2.2.1 hb.2.2.2.1 hb.2.2.2.2 e
  refine I.step (g':=s.gens) (d':=s.drawn) (ch:=[z,TI,TO,i1,i2]) (fun b hb=>⟨(hf b hb).2.2.2.1,(hf b hb).2.1,(hf b hb).2.2.2.2.1,(hf b hb).2.2.2.2.2⟩) (fun b o _ _ hc e _=>kk b o hc e) (fun b o _ _ hc e _=>⟨o.slots,kk b o hc e⟩) (fun _ _ _ _ n=>n)
   (fun b o hc e=>⟨o,kk b o hc e⟩) (fun _ _ e=>e) (fun _ _ _ e=>e) (fun b ps e=>⟨#[],by rw[e];simp⟩) (fun m hm=>?_) (fun b v e=>?_) I.bare
  ·obtain⟨o',es,ep,ho',r⟩:=hm;exact⟨o',es,ep,kk _ o' (fun hb=>(hf _ hb).2.1 rfl) ho',r⟩
  ·refine(I.hok b v e).stay (fun c' v' hc' q=>kk c' v' ?_ q) (fun _ q=>q) fun _ _ q=>q
   rcases hc' with q'|q'
   ·rw[q'];exact nit b v e
   ·exact nit c' _ q'
 self:=fun _ _ _ _ _ st h=>wpAny_pyIter_zip st.1 h
noncomputable def bj:Expr->Bool
 | .Starred _ _=>true
 | _=>false
theorem ay(h:bj e=false):starEach (e::es) env=(false,eval e env)::starEach es env:=by
 cases e<;> first|rfl|exact absurd h (by simp[bj])
theorem cQ(h:bj e=false):assignEach (e::es) env=(false,assign e env)::assignEach es env:=by
 cases e<;> first|rfl|exact absurd h (by simp[bj])
theorem eX:∀{es:List Expr},es.any bj=false->(backTo pos (starEach es env)).any (·.1)=false
 |[],_=>rfl
 | e::es,h=>by
   rw[Zv,Yv]at h;rw[ay h.1];have:=eX (pos:=pos) (env:=env) h.2;cases es with
   | nil=>rfl
   | cons e2 es2=>
     simp only[backTo]at this ⊢;simpa using this
theorem nL:∀{es:List Expr},es.any bj=false->(backTo pos (starEach es env)).all (fun x=>!x.1)=true
 |[],_=>rfl
 | e::es,h=>by
   rw[Zv,Yv]at h;rw[ay h.1];have:=nL (pos:=pos) (env:=env) h.2;cases es with
   | nil=>rfl
   | cons e2 es2=>
     simp only[backTo]at this ⊢;simpa using this
theorem hW:∀{es:List Expr},es.any bj=false->(assignEach es env).length=es.length/\(assignEach es env).findIdx? (·.1)=none
 |[],_=>⟨rfl,rfl⟩
 | e::es,h=>by
   rw[Zv,Yv]at h;rw[cQ h.1];have ih:=hW (env:=env) h.2;refine⟨by rw[Zq,Zq,ih.1],?_⟩;rw[List.findIdx?_cons,ih.2];rfl
noncomputable def gB:Expr->Bool
 | .ListComp _ _ _ _=>true
 | .SetComp _ _ _ _=>true
 | .DictComp _ _ _ _ _=>true
 | _=>false
theorem iD(h:gB e=false):swapsWith e t l env=pure false:=by
 cases e<;> first|rfl|exact absurd h (by simp[gB])
noncomputable def qI:Expr->Bool
 | .Tuple _ _ _=>true
 | _=>false
theorem qJ(h:qI e=false):swappedStores [t] e env=pure none:=by
 cases e with
 | Tuple _ _ _=>exact absurd h (by simp[qI])
 | _=>cases t<;> rfl
noncomputable def iE:Expr->Bool
 | .Call _ _ _ _=>true
 | _=>false
theorem fR(h:iE o=false):attributeBase o a env w=w:=by
 cases o<;> first|rfl|exact absurd h (by simp[iE])
noncomputable def kQ:Expr->Bool
 | .Set _ _ _=>true
 | _=>false
theorem jn(h:kQ e=false)(x:Value):foldedSetIterable e env x=pure x:=by
 cases e<;> first|rfl|exact absurd h (by simp[kQ])
structure QE (X:Cx) (e:Expr) (t:TE):Prop where
 h:PE X e t
structure QT (X:Cx) (e:Expr) (t:TT):Prop where
 h:PT X e t
structure QW (X:Cx) (e:Expr) (t:TT):Prop where
 h:PW X e t
structure QA (X:Cx) (es:List Expr) (t:TA):Prop where
 h:PA X es t
structure QS (X:Cx) (st:Stmt) (t:TS):Prop where
 h:PS X st t
structure QSs (X:Cx) (st:List Stmt) (t:TS):Prop where
 h:PSs X st t
structure QG (X:Cx) (e:Expr) (t:TG):Prop where
 h:PG X e t
structure QGs (X:Cx) (es:List Expr) (t:TGs):Prop where
 h:PGs X es t
structure QI (X:Cx) (tg bx:Expr) (wi:TI):Prop where
 h:PI X tg bx wi
structure QO (X:Cx) (e:Option Expr) (t:TO):Prop where
 h:PO X e t
structure QTs (X:Cx) (ifs:List Expr) (t:TT):Prop where
 h:PTs X ifs t
structure OpQ (X:Cx) (f:Value->Value->Sem Value) (r:R2):Prop where
 h:OpR X f r
structure cy (X:Cx) (f:Value) (r:List V->Hp->VK->Prop):Prop where
 h:bN X f r
structure MtQ (X:Cx) (id:String) (r:V->List V->Hp->VK->Prop):Prop where
 h:MtR X id r
section
variable{X:Cx}{K:PySem.W.Frag}{pos:Pos}
theorem ap{i j}:QE X (.Constant (.int i) j pos) (tC (.int i)):=⟨zV⟩
theorem eBl{b j}:QE X (.Constant (.bool b) j pos) (tC (.bl b)):=⟨BJ⟩
theorem lU{j}:QE X (.Constant .none j pos) (tC .non):=⟨zW⟩
theorem dh{x j}:QE X (.Constant (.str x) j pos) (tC (.str x)):=⟨zX⟩
theorem vn(i:Nat)(hN:X.N[i]? =some x)(hv:Vis X.env.scope x)(hd:(x==("__debug__":Str))=false)(hcd:(x==("__classdict__":Str))=false):QE X (.Name x pos) (oM i):=⟨va hN hv hd hcd⟩
theorem gvE(g:Gv X.mg x v)(hg:Gl X x)(hd:(x==("__debug__":Str))=false):QE X (.Name x pos) (tC v):=⟨zC g hg hd⟩
theorem blE(hg:Gl X x)(hm:X.mg x=none)(hv:bootBuiltins x=some u)(r:aJ v u)(hn:(x==("__name__":Str))=false)(hd:(x==("__debug__":Str))=false):QE X (.Name x pos) (tC v):=
 ⟨xR hg hm hv r (fun e=>by subst e;cases hn) hd⟩
theorem ah:QA X [] vI:=⟨Am⟩
theorem paE(hs:bj e=false)(ha:QE X e te)(hr:QA X es t):QA X (e::es) (vJ te t):=⟨yf ha.h hr.h (ay hs)⟩
theorem aD(C:Cal X.prog X.w X.K X.mg X.base j x ps sp)(hr:bS k X.A)(hg:Gl X x)(hjk:Nat.ble j k=true)
 (hdb:(x==("__debug__":Str))=false) (he:(e::es).any bj=false) (ha:QA X (e::es) t):
 QE X (.Call (.Name x p) (e::es) [] pos) (r9 sp [] E0 t):=by
 rw[Zv,Yv]at he;exact⟨AU C hr hg v5 ha.h (Nat.le_of_ble_eq_true hjk) hdb (ay he.1) (eX he.2)⟩
theorem cbE{id:String}(hc:cy X (.builtin id) r)(hg:Gl X x)(hm:X.mg x=none)(hv:bootBuiltins x=some (.builtin id))(hn:(x==("__name__":Str))=false)(hdb:(x==("__debug__":Str))=false)
 (he:(e::es).any bj=false) (ha:QA X (e::es) t):QE X (.Call (.Name x p) (e::es) [] pos) (tCB r t):=by
 rw[Zv,Yv]at he;exact⟨vP hc.h hg hm hv ha.h (fun e=>by subst e;cases hn) hdb (ay he.1) (eX he.2)⟩
theorem ctE(hc:cy X (.type T) r)(hg:Gl X x)(hm:X.mg x=none)(hv:bootBuiltins x=some (.type T))(hn:(x==("__name__":Str))=false)(hdb:(x==("__debug__":Str))=false)
 (he:(e::es).any bj=false) (ha:QA X (e::es) t):QE X (.Call (.Name x p) (e::es) [] pos) (tCB r t):=by
 rw[Zv,Yv]at he;exact⟨tt hc.h hg hm hv ha.h (fun e=>by subst e;cases hn) hdb (ay he.1) (eX he.2)⟩
theorem bmE{T id:String}(h:X.K=K)(pa:PlainAttrs T)(slot:Slot T name id)(hty:typeOf (.builtin id)=pure (.type "method_descriptor"))(hm:MtQ X id r)
 (hbase:iE o=false) (hfew:(e::es).any bj=false) (h30:Nat.blt (e::es).length 30=true) (hline:(apos.endLine==cpos.line)=true) (ho:QE X o to) (ha:QA X (e::es) t):
 QE X (.Call (.Attribute o name apos) (e::es) [] cpos) (tBM K T r to t):=by
 have he:=hfew;rw[Zv,Yv]at he;refine⟨we h pa slot hty hm.h ho.h ha.h (fR hbase) ?_ hline (ay he.1) (eX he.2)⟩;rw[nL hfew];have h30':(e::es).length<30:=Nat.blt_eq.mp h30;have:decide ((e::es).length+([]:List Keyword).length+(if([]:List Keyword).isEmpty then 0 else 1)<30)=true:=Ze (by simpa using h30');rw[this];rfl
theorem B2{T id:String}(h:X.K=K)(pa:PlainAttrs T)(slot:Slot T name id)(hty:typeOf (.builtin id)=pure (.type "method_descriptor"))(hm:MtQ X id r)
 (hbase:iE o=false) (hline:(apos.endLine==cpos.line)=true) (ho:QE X o to):QE X (.Call (.Attribute o name apos) [] [] cpos) (yn K T r to):=⟨yJ h pa slot hty hm.h ho.h (fR hbase) hline⟩
theorem jS(hg:Gl X "range")(hm:X.mg "range"=none)(hs:bj a=false)(ha:QA X [a] ta):QI X tg (.Call (.Name "range" p) [a] [] pos) (vt ta):=⟨sS hg hm ha.h (ay hs)⟩
theorem cw(h:X.K=K)(hl:QE X l tl):QI X tg l (yH K tl):=⟨yI h hl.h⟩
section
variable{a b c:Expr}{ta tb tc:TE}{op op':CmpOp}{r r':R2}
theorem qK(ho:OpQ X (compareOp op) r)(ho':OpQ X (compareOp op') r')(hm:lastMarks [op,op'] [b,c]=false)(ha:QE X a ta)(hb:QE X b tb)(hc:QE X c tc):QE X (.Compare a [op,op'] [b,c] pos) (qq r r' ta tb tc):=⟨vB ho.h ho'.h ha.h hb.h hc.h hm⟩
theorem jo(ho:OpQ X (compareOp op) r)(hm:behindInMarks op b=false)(ha:QE X a ta)(hb:QE X b tb):QE X (.Compare a [op] [b] pos) (tOp r ta tb):=⟨x8 ho.h ha.h hb.h hm⟩
theorem bu(ho:OpQ X (compareOp op) r)(hm:behindInMarks op b=false)(ha:QE X a ta)(hb:QE X b tb):QT X (.Compare a [op] [b] pos) (vA (tOp r ta tb)):=⟨x9 ho.h ha.h hb.h hm⟩
theorem opE{op:Operator}(ho:OpQ X (binaryOp op) r)(ha:QE X a ta)(hb:QE X b tb):QE X (.BinOp a op b pos) (tOp r ta tb):=⟨BO ho.h ha.h hb.h⟩
theorem qL(ha:QE X a ta):QE X (.UnaryOp .USub a pos) (tUn (rU fun i=> .int (-i)) ta):=⟨BP Ae ha.h⟩
theorem slE{lo hi:Option Expr}(h:X.K=K)(ha:QE X a ta)(hl:QO X lo tl)(hu:QO X hi th):QE X (.Subscript a (.Slice lo hi none p2) pos) (tSl (yG K) ta tl th):=⟨vS (slK h) ha.h hl.h hu.h⟩
theorem noO:QO X none nB:=⟨yi⟩
theorem oY(h:QE X a ta):QO X (some a) (vR ta):=⟨yj h.h⟩
theorem oZ{op}(h:QE X a ta):QE X (.BoolOp op [a] pos) ta:=⟨z4 h.h⟩
theorem nM{rest:List Expr}(ha:QE X a ta)(hb:QE X (.BoolOp .And (b::rest) pos) tb):QE X (.BoolOp .And (a::b::rest) pos) (vc ta tb):=⟨z5 ha.h hb.h⟩
theorem orV{rest:List Expr}(ha:QE X a ta)(hb:QE X (.BoolOp .Or (b::rest) pos) tb):QE X (.BoolOp .Or (a::b::rest) pos) (z3 ta tb):=⟨BM ha.h hb.h⟩
theorem cz(h:QA X es t):QE X (.List es pos) (Ao t):=⟨Aq h.h⟩
theorem gR{x1}(h:QA X es t):QE X (.Tuple es x1 pos) (An t):=⟨Ap h.h⟩
theorem jT:QE X (.Dict [] [] pos) qE:=⟨v4⟩
variable{tA tB':TT}{rest:List Expr}
theorem fS(ha:QT X a tA):QT X (.UnaryOp .Not a pos) (zY tA):=⟨z1 ha.h⟩
theorem iF(ha:QT X a tA):QW X (.BoolOp .And [a] pos) tA:=⟨xT ha.h⟩
theorem j7(ha:QT X a tA):QW X (.BoolOp .Or [a] pos) tA:=⟨zZ ha.h⟩
theorem kR(ha:QT X a tA)(hb:QW X (.BoolOp .And (b::rest) pos) tB'):QW X (.BoolOp .And (a::b::rest) pos) (xS tA tB'):=⟨z0 ha.h hb.h⟩
theorem orW(ha:QT X a tA)(hb:QW X (.BoolOp .Or (b::rest) pos) tB'):QW X (.BoolOp .Or (a::b::rest) pos) (tOr tA tB'):=⟨BL ha.h hb.h⟩
theorem wT(h:QW X a tA):QT X a tA:=⟨PW.pt h.h⟩
theorem ef(h:X.K=K)(he:∀whole,isTrue a X.env whole=(do let v<-whole;standAt a.pos;holding [v] (truthy v)))(ha:QE X a ta):QT X a (fun σ H Q=>ta σ H fun x H'=>∃k,vC K x H' k/\Q k H'):=⟨tO h ha.h he⟩
theorem j8:QTs X [] v6:=⟨yy⟩
theorem sj(h:QT X c tA):QTs X [c] tA:=⟨yz h.h⟩
end
theorem fH(S:aE X scope N' cap)(hc:X.calm=true)(hs:kQ bx=false)(hi:QI X tg bx wi)
 (hg:∀s₃ H₃ fp,QG (ba X scope N' s₃ H₃ fp) tg g) (ht:∀s₃ H₃ fp,QTs (ba X scope N' s₃ H₃ fp) ifs tc) (he:∀s₃ H₃ fp,QE (ba X scope N' s₃ H₃ fp) elt te):
 QE X (.ListComp elt [⟨tg,bx,ifs,0⟩] scope pos) (mN wi N'.length cap g tc te):=⟨yB S hc hi.h (fun s₃ H₃ fp=>(hg s₃ H₃ fp).h) (fun s₃ H₃ fp=>(ht s₃ H₃ fp).h) (fun s₃ H₃ fp=>(he s₃ H₃ fp).h) (jn hs)⟩
theorem aU:QSs X [] vd:=⟨xU⟩
theorem ae{st:Stmt}{rest:List Stmt}(h1:QS X st t)(h2:QSs X rest u):QSs X (st::rest) (bg t u):=⟨ve h1.h h2.h⟩
theorem am{st:Stmt}(h1:QS X st t):QSs X [st] t:=⟨xV h1.h⟩
theorem ifS(hc:QT X c tc)(ha:QSs X a t)(hb:QSs X b u):QS X (.If c a b pos) (j2 tc t u):=⟨BN hc.h ha.h hb.h⟩
theorem aK(he:QE X e te):QS X (.Return (some e) pos) (eM te):=⟨z6 he.h⟩
theorem eY{st:Stmt}:QS X st vf:=⟨vg⟩
theorem cA(hp:PassesOwn (model X.prog X.w) X.A X.env X.xe)(hc:X.calm=true)(hs:kQ bx=false)(hi:QI X tg bx wi)(hg:QG X tg g)(hb:QSs X body tb):
 QS X (.For tg bx body [] pos) (vv wi g tb):=⟨Aa hp hc hi.h hg.h hb.h (jn hs)⟩
theorem aI(i:Nat)(hN:X.N.Nodup)(hi:X.N[i]? =some x)(hx:Loc X.env.scope x)(hf:X.fn x=true\/X.env.scope.names.lookup x=some .local)(hs:gB e=false)(he:QE X e te):
 QS X (.Assign [.Name x pos'] e pos) (oN te (jL i)):=⟨vm hN hi hx he.h (iD hs) hf⟩
theorem bD(hs:gB e=false)(he:QE X e te):QS X (.Expr e pos) (iz te):=⟨xW he.h (iD hs)⟩
theorem yK(hs:gB e=false)(hw:qI e=false)(hst:bj tg=false)(he:QE X e te)(hg:QG X tg g):QS X (.Assign [tg] e pos) (oN te g):=
 ⟨z9 he.h hg.h (iD hs) (qJ hw) (by rw[cQ hst];rfl)⟩
theorem au(i:Nat)(hN:X.N.Nodup)(hi:X.N[i]? =some x)(hx:Loc X.env.scope x)(hf:X.fn x=true\/X.env.scope.names.lookup x=some .local):QG X (.Name x pos) (jL i):=⟨xX hN hi hx hf⟩
theorem cu:QGs X [] z7:=⟨xY⟩
theorem gsE(hs:bj e=false)(h1:QG X e t)(h2:QGs X es u):QGs X (e::es) (vh t u):=⟨vk h1.h h2.h (by rw[cQ hs];rfl)⟩
theorem eN(hK:X.K=K)(hc:X.calm=true)(hs:es.any bj=false)(h:QGs X es t):QG X (.Tuple es k pos) (xZ K es.length t):=by
 subst hK;exact⟨z8 hc h.h (hW hs).1 (hW hs).2⟩
theorem hX:OpQ X (binaryOp .Add) wa:=⟨yD⟩
theorem pc:OpQ X (binaryOp .Sub) (rI0 fun i j=> .int (i-j)):=⟨Ac⟩
theorem qM:OpQ X (binaryOp .Mult) wb:=⟨yE⟩
theorem bH:OpQ X (binaryOp .Mod) (rI (fun _ j=>0<j) fun i j=> .int (i%j)):=⟨Ad⟩
theorem cB:OpQ X (binaryOp .FloorDiv) (rI BR fun i j=> .int (i/j)):=⟨x5⟩
theorem cL:OpQ X (compareOp .Eq) AM:=⟨AN⟩
theorem eA:OpQ X (compareOp .NotEq) AO:=⟨AQ⟩
theorem qN:OpQ X (compareOp .Lt) (rI0 fun i j=> .bl (decide (i<j))):=⟨BU⟩
theorem tP:OpQ X (compareOp .LtE) (rI0 fun i j=> .bl (decide (i<=j))):=⟨BV⟩
theorem wl:OpQ X (compareOp .Gt) (rI0 fun i j=> .bl (decide (j<i))):=⟨BW⟩
theorem q_ge:OpQ X (compareOp .GtE) (rI0 fun i j=> .bl (decide (j<=i))):=⟨BX⟩
theorem B3:OpQ X (compareOp .Is) (fun x y H Q=>y= .non/\Q (.bl (decide (x= .non))) H):=⟨Ag⟩
theorem jp:OpQ X (compareOp .IsNot) (fun x y H Q=>y= .non/\Q (.bl (!decide (x= .non))) H):=⟨x6⟩
theorem qO(h:X.K=K):OpQ X (compareOp .In) (yF K):=⟨AW h⟩
theorem bV(h:X.K=K):cy X (.builtin "len") (fun xs H Q=>∃x n,xs=[x]/\ya K x H n/\Q (.int n) H):=⟨tL h⟩
theorem wn(h:X.K=K)(hc:X.calm=true):cy X (.builtin "all") (fun xs H Q=>∃(p:Addr) (bs:List Bool),xs=[.ref p]/\SqL K H p (bs.map V.bl)/\Q (.bl (bs.all id)) H):=⟨tM h hc⟩
theorem zD(hc:X.calm=true):cy X (.builtin "max") (fun xs H Q=>∃i j,xs=[.int i,.int j]/\Q (.int (if j>i then j else i)) H):=⟨sV hc⟩
theorem B4(hc:X.calm=true):cy X (.builtin "min") (fun xs H Q=>∃i j,xs=[.int i,.int j]/\Q (.int (if j<i then j else i)) H):=⟨sW hc⟩
theorem fT(h:X.K=K):cy X (.builtin "isinstance") (fun xs H Q=>∃x n t b,xs=[x,.ty n]/\gZ K H x t/\kitOne K t (.type n)=some b/\Q (.bl b) H):=⟨tN h⟩
theorem zE:cy X (.type "int") (fun xs H Q=>(∃i,xs=[.int i]/\Q (.int i) H)\/∃k,xs=[.bl k]/\Q (.int (if k then 1 else 0)) H):=⟨sX⟩
theorem hZ(h:X.K=K):cy X (.type "list") (fun xs H Q=>∃p ys,xs=[.ref p]/\(SqL K H p ys\/SqT K H p ys)/\∀l,H l=none->Q (.ref l) (upd H l (.lst ys))):=⟨qG h⟩
theorem aV:MtQ X "list.append" nG:=⟨mJ⟩
theorem pd:MtQ X "list.extend" nH:=⟨tD⟩
theorem yL:MtQ X "list.clear" qD:=⟨vW⟩
theorem qP(h:X.K=K):MtQ X "str.join" (si K):=⟨wc h⟩
end
open PySem PySem.Spec PyProof.Rows PySem.SeqAt
section
variable{X:Cx}{pins:List (Addr×Obj)}{σ:St}{H:Hp}{s:Shared}{h':Heap}{tk:Nat}{fp:List Addr}
theorem Inv.moved(I:Inv X pins σ H s)(hf:∀b∈fp,j3 X pins H b)(kk:∀b o,b∉fp->s.heap.get? b=some o->h'.get? b=some o):Inv X pins σ H {s with heap:=h',toks:=tk}:=by
 have nit:∀b v,H b=some v->b∉fp:=fun b v e hb=>by rw[(hf b hb).1]at e;cases e
 refine I.step (g':=s.gens) (d':=s.drawn) (ch:=fp) (fun b hb=>⟨(hf b hb).2.2.2.1,(hf b hb).2.1,(hf b hb).2.2.2.2.1,(hf b hb).2.2.2.2.2⟩) (fun b o _ _ hc e _=>kk b o hc e) (fun b o _ _ hc e _=>⟨o.slots,kk b o hc e⟩) (fun _ _ _ _ n=>n)
  (fun b o hc e=>⟨o,kk b o hc e⟩) (fun _ _ e=>e) (fun _ _ _ e=>e) (fun b ps e=>⟨#[],by rw[e];simp⟩) (fun m hm=>?_) (fun b v e=>?_) I.bare
 ·obtain⟨o,es,ep,ho,r⟩:=hm;exact⟨o,es,ep,kk _ o (fun hb=>(hf _ hb).2.1 rfl) ho,r⟩
 ·refine(I.hok b v e).stay (fun c' v' hc' q=>kk c' v' ?_ q) (fun _ q=>q) fun _ _ q=>q
  rcases hc' with q'|q'
  ·rw[q'];exact nit b v e
  ·exact nit c' _ q'
theorem Inv.stood(I:Inv X pins σ H s)(J:Inv X pins σ H {s with heap:=h',toks:=tk})(ha:s.heap.objs.size<=a)(new:bh X.prog X.w (upd H a o) h' a o):Inv X pins σ (upd H a o) {s with heap:=h',toks:=tk}:=by
 have Hn:H a=none:=I.hok.fresh ha;have lt0:∀b o,X.s₀.heap.get? b=some o->b≠a:=fun b o e=>Zr (Zf (Zf (Zt e) I.sz) ha)
 refine⟨J.ok,J.os,J.bare,?_,J.loc,J.cell,?_,?_,?_,?_,J.len⟩
 ·refine⟨J.base.keep,J.base.slot,fun b o e n hx=>?_,J.base.there,fun b xs e=>?_,fun b o v e=>?_,fun b ps e=>?_⟩
  ·rw[ai (lt0 b o e)];exact J.base.free b o e n hx
  ·rw[ai (aq (J.base.tups b xs e) Hn)];exact J.base.tups b xs e
  ·rw[ai (aq (J.base.frzs b o v e) Hn)];exact J.base.frzs b o v e
  ·obtain⟨m,q⟩:=J.base.tbls b ps e;exact⟨m,by rw[ai (aq q Hn)];exact q⟩
 ·rw[ai (Zr (Zf I.lt ha))];exact J.free
 ·intro x' c' e;obtain⟨v',q⟩:=I.cell x' c' e;rw[ai (Zr (Zf q.lt ha))];exact J.freeC x' c' e
 ·intro p hp;obtain⟨e,n,r⟩:=J.pin p hp;refine⟨e,?_,r⟩;rw[ai (Zr (Zf (Zt (I.pin p hp).1) ha))];exact n
 ·intro b v e;by_cases hb:b=a
  ·subst hb;rw[aa]at e;cases e;exact new
  ·rw[ai hb]at e;refine(J.hok b v e).stay (fun _ _ _ q=>q) (fun c' q=>?_) fun c' xs q=>?_
   ·rw[ai (aq q Hn)];exact q
   ·rw[ai (aq q Hn)];exact q
end
def qQ:V->List V->Hp->VK->Prop:=fun x vs H Q=>∃z y,x= .str z/\vs=[.str y]/\1<=y.length/\z.length+2<=sizeLine/\∀l,H l=none->Q (.ref l) (upd H l (.lst ((Txt.split z y).map V.str)))
theorem mR:∀(ss:List Str) (k:Nat),aF (ss.map V.str) (strsFrom k ss)
 |[],_=> .nil
 | _::r,k=> .cons ⟨_,rfl⟩ (mR r (k+1))
theorem wo{X:Cx}:MtM X "str.split" qQ:=by
 intro pins s σ H x vs v us Q I rx rv h;obtain⟨z,y,rfl,rfl,h1,hz,q⟩:=h;obtain⟨t,rfl⟩:=rx;obtain⟨u0,rfl,ru⟩:=rv.one;obtain⟨u,rfl⟩:=ru;have hy0:(y.length==0)=false:=by simp;lia
 have hsl:=split_le z y;by_cases c1:(decide (z.length<y.length)||decide (Builtin.Str.strKind z<Builtin.Str.strKind y))=true
 ·have e:Txt.split z y=[z]:=if_pos c1;rw[e]at q;exact call_meets F.slot_str_split (typeIs_str _ _ _) F.entry_str_split (F.args_str_split_2 _ _) (meets_str_split_cannot_occur z y t u c1) ⟨.ref _,_,I.lnew (ys:=[.str z]) (its:=[.str z t]) (t':=s.toks) (.cons ⟨_,rfl⟩ .nil) (by show 1<=sizeLine;decide),rfl,q _ I.fresh⟩
 ·have c1':=Bool.eq_false_iff.mpr c1;by_cases c2:(Builtin.Str.occurrences z y 0 z.length (z.length+1)).isEmpty=true
  ·have e:Txt.split z y=[z]:=(if_neg c1).trans (if_pos c2);rw[e]at q;exact call_meets F.slot_str_split (typeIs_str _ _ _) F.entry_str_split (F.args_str_split_2 _ _) (meets_str_split_not_found z y t u c1' hy0 c2) ⟨.ref _,_,I.lnew (ys:=[.str z]) (its:=[.str z t]) (t':=s.toks) (.cons ⟨_,rfl⟩ .nil) (by show 1<=sizeLine;decide),rfl,q _ I.fresh⟩
  ·have e:Txt.split z y=Builtin.Str.partsBetween z (Builtin.Str.occurrences z y 0 z.length (z.length+1)) y.length:=(if_neg c1).trans (if_neg c2);have hl2:(Builtin.Str.partsBetween z (Builtin.Str.occurrences z y 0 z.length (z.length+1)) y.length).length<=sizeLine:=by rw[<-e];lia
   refine call_meets F.slot_str_split (typeIs_str _ _ _) F.entry_str_split (F.args_str_split_2 _ _) (meets_str_split_sep z y t u c1' hy0 (Bool.eq_false_iff.mpr c2) (by lia) hl2) ?_;rw[<-e]at hl2 ⊢;exact⟨.ref _,_,I.lnew (its:=strsFrom s.toks (Txt.split z y)) (t':=s.toks+(Txt.split z y).length) (mR _ _) (by rw[Z5];exact hl2),rfl,q _ I.fresh⟩
theorem yM{X:Cx}:MtQ X "str.split" qQ:=⟨wo⟩
noncomputable def Ite(K:PySem.W.Frag)(a:Addr)(xs:List V):It:=⟨fun i H=>SqL K H a xs/\i<xs.length,fun i H v H'=>∃x T,xs[i]? =some x/\H T=none/\v= .ref T/\H'=upd H T (.tup [.int i,x]),fun i H=>SqL K H a xs/\xs.length<=i⟩
def ESt(e it a:Addr)(i:Nat)(h:Heap):Prop:=(∃old,IsEnum h e it i old)/\h.IsListIter it a i
theorem tQ{P:Program}{K:PySem.W.Frag}(e it a:Addr)(xs:List V)(hne:e≠it):nv P w K (.Tuple elts kt tp) (Ite K a xs) [e,it] e (ESt e it a) where
 mem:=by simp
 obj:=fun i h st b hb=>by
  obtain⟨⟨old,he⟩,o1,e1,_,d1⟩:=st;simp only[Yn,Yu,or_false]at hb;rcases hb with rfl|rfl
  ·exact⟨_,he,fun v q=>nomatch q⟩
  ·exact⟨o1,e1,fun v q=>by rw[d1]at q;cases q⟩
 keep:=fun i h h' st k=>by
  obtain⟨⟨old,he⟩,o1,e1,r1⟩:=st;exact⟨⟨old,k e (by simp) _ he⟩,o1,k it (by simp) _ e1,r1⟩
 item:=by
  intro X hP hw hK hc i pins s σ H E I hf st hg;subst hP hw hK;obtain⟨⟨old,he⟩,hit⟩:=st;obtain⟨hq,hi⟩:SqL X.K H a xs/\i<xs.length:=hg;obtain⟨its,rv,p,hz⟩:=I.list hq;obtain⟨u,hu,ru⟩:=rv.get (i:=i) (x:=xs[i]) (by simp[hi]);refine wpAny_pyNext_enum_item he hit p.isList (x:=u) (by simpa using hu) hne fun h1 he1 hit1 ht1 hz1 hk1=>⟨_,rfl,?_⟩
  refine wpAny_letOwnedTupleGo_enum (s:={s with heap:=h1,toks:=s.toks+1}) he1 fun h2 he2 sb2=>?_
  replace sb2:SameBut e h1 h2:=sb2;have elt:e<s.heap.objs.size:=Zt he;have ilt:it<s.heap.objs.size:=by obtain⟨o,q,_⟩:=hit;exact Zt q
  have kk:∀b o,b∉[e,it]->s.heap.get? b=some o->h2.get? b=some o:=fun b o hb q=>by
   simp only[Yn,Yu,or_false,not_or]at hb;exact(sb2.2 b hb.1).trans (hk1 b o hb.1 hb.2 q)
  have J:Inv X pins σ H {s with heap:=h2,toks:=s.toks+1}:=I.moved hf kk;have hT:h2.get? s.heap.objs.size=some {cls:= .type "tuple",data:= .seq #[.int i s.toks,u]}:=(sb2.2 _ (Yp elt)).trans ht1;have I2:Inv X pins σ (upd H s.heap.objs.size (.tup [.int i,xs[i]])) {s with heap:=h2,toks:=s.toks+1}:=
   I.stood J (Zh _) ⟨by show 2<=sizeLine;decide,[.int i s.toks,u],.cons ⟨_,rfl⟩ (.cons ru .nil),_,hT,rfl,_,rfl⟩
  refine⟨.ref s.heap.objs.size,_,I2,rfl,⟨xs[i],_,by simp[hi],I.fresh,rfl,rfl⟩,⟨⟨u,by rw[Int.natCast_succ];exact he2⟩,?_⟩,fun b hb=>?_⟩
  ·obtain⟨o,q,r⟩:=hit1;exact⟨o,(sb2.2 _ (Ne.symm hne)).trans q,r⟩
  ·have:b<s.heap.objs.size:=by
    simp only[Yn,Yu,or_false]at hb;rcases hb with rfl|rfl
    ·exact elt
    ·exact ilt
   rw[ai (Zr this)];exact(hf b hb).1
 done:=by
  intro X hP hw hK hc i pins s σ H E I hf st hg;subst hP hw hK;obtain⟨⟨old,he⟩,hit⟩:=st;obtain⟨hq,hi⟩:SqL X.K H a xs/\xs.length<=i:=hg;obtain⟨its,rv,p,hz⟩:=I.list hq;have hl:=rv.length;have hh:X.A.handled=none:=I.ok.hd hc;refine wpAny_pyNext_enum_end hh he hit p.isList (by simp;lia) fun h1 xb=>⟨rfl,I.moved (fp:=[e,it]) (tk:=s.toks) hf fun b o hb q=>?_⟩
  simp only[Yn,Yu,or_false,not_or]at hb;exact xb b o hb.2 q
 self:=fun A i s Q E st h=>by
  obtain⟨⟨old,he⟩,hit⟩:=st;exact wpAny_pyIter_enum he h
def zF(K:PySem.W.Frag)(ta:TA):TI:=fun σ H R=>ta σ H fun vs H1=>∃a xs,vs=[.ref a]/\SqL K H1 a xs/\R (Ite K a xs) H1
section
variable{X:Cx}{K:PySem.W.Frag}{pos:Pos}
theorem sk(hK:X.K=K)(hg:Gl X "enumerate")(hm:X.mg "enumerate"=none)(hs:bj a=false)(ha:QA X [a] ta):
 QI X (.Tuple elts kt tp) (.Call (.Name "enumerate" p) [a] [] pos) (zF K ta):=by
 subst hK
 constructor
 intro pins s σ H R I h;refine Call_ (gY I hg hm boot_enumerate (PyProof.Rows.callWith_type1 (thn (ha.h pos pins s σ H _ I h) fun us s1 ⟨vs,H1,I1,r1,q1⟩=>?_) (ay hs) rfl));obtain⟨l,xs,e,hq,q⟩:=q1;subst e;obtain⟨u,rfl,ru⟩:=df r1;cases ru;obtain⟨its,rv,p,hz⟩:=I1.list hq;refine call_enumerate_list p.isList fun h1 he hit hz1 hk=>wpAny_pyIter_enum (s:={s1 with heap:=h1}) he ?_
 have J:Inv X pins σ H1 {s1 with heap:=h1}:=I1.kept (t':=s1.toks) hk;refine⟨s1.heap.objs.size+1,[s1.heap.objs.size+1,s1.heap.objs.size],ESt (s1.heap.objs.size+1) s1.heap.objs.size l,Ite X.K l xs,H1,rfl,J,tQ _ _ _ _ (Nat.succ_ne_self _),⟨⟨_,he⟩,hit⟩,fun b hb=>?_,q⟩;simp only[Yn,Yu,or_false]at hb;rcases hb with rfl|rfl
 ·exact I1.fpOk (Y7 _) (I1.hok.fresh (Y7 _))
 ·exact I1.fpOk (Zh _) (I1.hok.fresh (Zh _))
end
section
variable(h:Heap)(x y:Str)(t u:Tok)
noncomputable abbrev zs1:Heap:=h.push {cls:= .type (strIterType x),data:= .fields #[.str x t,.int 0 0]}
noncomputable abbrev zs2:Heap:=(zs1 h x t).push {cls:= .type (strIterType y),data:= .fields #[.str y u,.int 0 0]}
noncomputable abbrev zs3:Heap:=(zs2 h x y t u).push {cls:= .type "tuple",data:= .seq #[.ref h.objs.size,.ref (zs1 h x t).objs.size]}
noncomputable abbrev zs4:Heap:=(zs3 h x y t u).push {cls:= .type "tuple",data:= .seq #[.none,.none]}
noncomputable abbrev zs5:Heap:=(zs4 h x y t u).push {cls:= .type "zip",data:= .fields #[.none,.bool false,.bool false,.ref (zs2 h x y t u).objs.size,.ref (zs3 h x y t u).objs.size]}
end
theorem j9(x y:Str)(t u:Tok):
 Meets (Builtin.«zip.__new__» ⟨[.type "zip",.str x t,.str y u],[]⟩) (fun _ R s=>R (.ok (.ret (.ref (zs4 s.heap x y t u).objs.size))) {s with heap:=zs5 s.heap x y t u}):=
 .of_wp fun prog w A R s hR=>by
  obtain⟨hp,g,d,tk,os⟩:=s;have hsub:=PySem.sub_zip
  wp_walk using wpAny_pyIter_strU (x:=x) (t:=t),wpAny_pyIter_strU (x:=y) (t:=u)
  exact⟨_,rfl,hR⟩
section
variable{prog:Program}{w:World}{A:Around}{E:Value->Shared->Prop}{s:Shared}
theorem kS
 (h:∀h',IsZip h' (s.heap.objs.size+4) (s.heap.objs.size+2) (s.heap.objs.size+3) .none->IsPair h' (s.heap.objs.size+2) (.ref s.heap.objs.size) (.ref (s.heap.objs.size+1))->IsPair h' (s.heap.objs.size+3) .none .none->
  h'.IsStrIter s.heap.objs.size (strIterType x) x t 0->h'.IsStrIter (s.heap.objs.size+1) (strIterType y) y u 0->(∀c o,s.heap.get? c=some o->h'.get? c=some o)->Q (.ref (s.heap.objs.size+4)) {s with heap:=h'}):
 wpAny (model prog w) A (call (.type "zip") [.str x t,.str y u]) Q E s:=by
 refine callType_new F.called_zip (by decide) (F.typeCall_zip_2 _ _) (F.newCall_zip_2 _ _) (fun obj=>F.args_object_init_3 obj _ _) F.entry_zip_new (j9 x y t u) ?_;have n1:(zs1 s.heap x t).objs.size=s.heap.objs.size+1:=Zp ..;have n2:(zs2 s.heap x y t u).objs.size=s.heap.objs.size+2:=by rw[Zp,n1]
 have n3:(zs3 s.heap x y t u).objs.size=s.heap.objs.size+3:=by rw[Zp,n2]
 have n4:(zs4 s.heap x y t u).objs.size=s.heap.objs.size+4:=by rw[Zp,n3]
 have k5:∀c o,(zs4 s.heap x y t u).get? c=some o->(zs5 s.heap x y t u).get? c=some o:=fun _ _ q=>Z6 _ q
 have k4:∀c o,(zs3 s.heap x y t u).get? c=some o->(zs5 s.heap x y t u).get? c=some o:=fun c o q=>k5 c o (Z6 _ q)
 have k3:∀c o,(zs2 s.heap x y t u).get? c=some o->(zs5 s.heap x y t u).get? c=some o:=fun c o q=>k4 c o (Z6 _ q)
 have k2:∀c o,(zs1 s.heap x t).get? c=some o->(zs5 s.heap x y t u).get? c=some o:=fun c o q=>k3 c o (Z6 _ q)
 have k1:∀c o,s.heap.get? c=some o->(zs5 s.heap x y t u).get? c=some o:=fun c o q=>k2 c o (Z6 _ q)
 have b5:(zs5 s.heap x y t u).get? (zs4 s.heap x y t u).objs.size=some _:=Zi _ rfl;have b4:(zs5 s.heap x y t u).get? (zs3 s.heap x y t u).objs.size=some _:=k5 _ _ (Zi _ rfl);have b3:(zs5 s.heap x y t u).get? (zs2 s.heap x y t u).objs.size=some _:=k4 _ _ (Zi _ rfl);have b2:(zs5 s.heap x y t u).get? (zs1 s.heap x t).objs.size=some _:=k3 _ _ (Zi _ rfl);have b1:(zs5 s.heap x y t u).get? s.heap.objs.size=some _:=k2 _ _ (Zi _ rfl);show _/\_;rw[n2,n3,n4]at b5;rw[n1,n2]at b3;rw[n3]at b4;rw[n1]at b2;rw[n4];exact⟨⟨_,b5,rfl⟩,h _ b5 b3 b4 ⟨_,b1,rfl,rfl⟩ ⟨_,b2,rfl,rfl⟩ k1⟩
end
def zG(ta:TA):TI:=fun σ H R=>ta σ H fun vs H1=>∃x y,vs=[.str x,.str y]/\R (Itz x y) H1
section
variable{X:Cx}{K:PySem.W.Frag}{pos:Pos}
theorem zH(hg:Gl X "zip")(hm:X.mg "zip"=none)(hs:bj a=false)(hs2:bj b=false)(ha:QA X [a,b] ta):
 QI X (.Tuple elts kt tp) (.Call (.Name "zip" p) [a,b] [] pos) (zG ta):=by
 constructor
 intro pins s σ H R I h;refine Call_ (gY I hg hm boot_zip (PyProof.Rows.callWith_type1 (thn (ha.h pos pins s σ H _ I h) fun us s1 ⟨vs,H1,I1,r1,q1⟩=>?_) (ay hs) (by rw[ay hs2];rfl)));obtain⟨x,y,e,q⟩:=q1;subst e;obtain⟨u1,u2,rfl,⟨t,rfl⟩,u,rfl⟩:=iA r1;refine kS fun h1 hz hTI hTO hi1 hi2 hk=>wpAny_pyIter_zip (s:={s1 with heap:=h1}) hz ?_
 have J:Inv X pins σ H1 {s1 with heap:=h1}:=I1.kept (t':=s1.toks) hk;have ne:∀i j:Nat,i≠j->s1.heap.objs.size+i≠s1.heap.objs.size+j:=fun i j h e=>h (Nat.add_left_cancel e)
 refine⟨s1.heap.objs.size+4,[s1.heap.objs.size+4,s1.heap.objs.size+2,s1.heap.objs.size+3,s1.heap.objs.size+0,s1.heap.objs.size+1],_,Itz x y,H1,rfl,J,
  wk _ _ _ _ _ x y t u ⟨ne 2 4 (by decide),ne 3 4 (by decide),ne 0 4 (by decide),ne 1 4 (by decide),ne 2 3 (by decide),ne 2 0 (by decide),ne 2 1 (by decide),ne 3 0 (by decide),ne 3 1 (by decide),ne 0 1 (by decide)⟩,
  ⟨hz,hTI,⟨_,_,hTO⟩,hi1,hi2⟩,fun b hb=>?_,q⟩
 have hb':s1.heap.objs.size<=b:=by
  simp only[Yn,Yu,or_false]at hb;rcases hb with rfl|rfl|rfl|rfl|rfl<;> exact le_add_right _ _
 exact I1.fpOk hb' (I1.hok.fresh hb')
end
inductive D where
 | non|bl (b:Bool)|int (i:Int)|str (x:Str)|lst (ds:List D)|tup (ds:List D)
section
variable{K:PySem.W.Frag}{H H':Hp}
theorem ac.seqT(e:ac H H')(h:SqT K H a xs):SqT K H' a xs:=by
 rcases h with(h|⟨o,h⟩)|h
 ·exact .inl (.inl (e _ _ h))
 ·exact .inl (.inr ⟨o,e _ _ h⟩)
 ·exact .inr h
end
section
variable{X:Cx}{pins:List (Addr×Obj)}{σ:St}{H:Hp}{s:Shared}
end
theorem qR{X:Cx}(hN:X.N.Nodup)(hxi:X.N[i]? =some x)(hx:Loc X.env.scope x)(hf:X.fn x=true\/X.env.scope.names.lookup x=some .local)
 (hsw:swapsWith (.ListComp elt [⟨tg,bx,ifs,0⟩] scope pos) (some (.Name x px)) pos'.line X.env=pure true) (S:aE X scope N' cap) (hc:X.calm=true) (hs:∀x,foldedSetIterable bx X.env x=pure x) (hi:PI X tg bx wi)
 (hg:∀s₃ H₃ fp,PG (ba X scope N' s₃ H₃ fp) tg g) (ht:∀s₃ H₃ fp,PTs (ba X scope N' s₃ H₃ fp) ifs tc) (he:∀s₃ H₃ fp,PE (ba X scope N' s₃ H₃ fp) elt te):
 PS X (.Assign [.Name x px] (.ListComp elt [⟨tg,bx,ifs,0⟩] scope pos) pos') (oN (mN wi N'.length cap g tc te) (jL i)):=by
 intro pins s σ H D I h;rw[arm_exec_Assign];refine Z2 (wpAny_standAt ?_);show wpAny _ _ (swapsWith (.ListComp elt [⟨tg,bx,ifs,0⟩] scope pos) (some (.Name x px)) pos'.line X.env>>= _) _ _ _;rw[hsw];refine Z2 (Z3 ?_);rw[if_pos rfl,arm_evalThenUse_ListComp];refine Z2 (Z2 (mO (QQ:=fun _ s'=>wpAny (model X.prog X.w) X.A (pure ()) (fun _ s2=>wpAny (model X.prog X.w) X.A (pure Flow.next) (SP X pins D) X.xe s2) X.xe s') S hc hi hg ht he hs I h fun D' C H5 s6 fl m hn fp k q=>?_));have I6:Inv X pins σ H5 s6:=k s6.heap (SameBut.refl _ _);obtain⟨o,es,ep,ho,hd,hr⟩:=id hn;have I7:Inv X (pins++jc [C] s6.heap) σ H5 s6:=I6.pinned (fun b hb=>by rw[X8 hb];exact fp) fun b hb=>by
  rw[X8 hb];exact⟨o,ho,fun v z=>by rw[hd]at z;cases z⟩
 show wpAny _ _ (assignAll (.ref D') [assign (.Name x px) X.env]) _ _ _;show wpAny _ _ (assign (.Name x px) X.env (.ref D')) _ _ _;refine wpAny_assign_Name (kD I7 hN hxi hx (v:= .ref D') (u:= .ref D') rfl (fun s8 I8=>?_) hf);have hC:s8.heap.get? C=some o:=(I8.pin (C,o) (Ym _ (Ym _ (dN (mem_singleton.mpr rfl) ho)))).1;refine⟨m,⟨o,es,ep,hC,hd,hr⟩,fun h' sb=>?_⟩;refine Z3 (Z3 ⟨_,H5,?_,q⟩);refine(I8.unpinned).moved (fp:=[C]) (tk:=s8.toks) (fun b hb=>by rw[X8 hb];exact fp) fun b o' hb e=>(sb.2 b (fun z=>hb (mem_singleton.mpr z))).trans e
theorem tR(h:(env.blockKind== .function&&env.kindOf x==some .local&&px.line==pos.line&&!(scope.names.any fun(n,k)=>n==x&&(k== .local||k== .cell)))=true):
 swapsWith (.ListComp elt gens scope pos) (some (.Name x px)) l env=pure true:=by
 show(pure (env.blockKind== .function&&env.kindOf x==some .local&&px.line==pos.line&&!(scope.names.any fun(n,k)=>n==x&&(k== .local||k== .cell))):Sem Bool)=pure true;rw[h]
theorem iG{X:Cx}(i:Nat)(hN:X.N.Nodup)(hxi:X.N[i]? =some x)(hx:Loc X.env.scope x)(hf:X.fn x=true\/X.env.scope.names.lookup x=some .local)
 (hsw:(X.env.blockKind== .function&&X.env.kindOf x==some .local&&px.line==pos.line&&!(scope.names.any fun(n,k)=>n==x&&(k== .local||k== .cell)))=true) (S:aE X scope N' cap) (hc:X.calm=true) (hs:kQ bx=false) (hi:QI X tg bx wi)
 (hg:∀s₃ H₃ fp,QG (ba X scope N' s₃ H₃ fp) tg g) (ht:∀s₃ H₃ fp,QTs (ba X scope N' s₃ H₃ fp) ifs tc) (he:∀s₃ H₃ fp,QE (ba X scope N' s₃ H₃ fp) elt te):
 QS X (.Assign [.Name x px] (.ListComp elt [⟨tg,bx,ifs,0⟩] scope pos) pos') (oN (mN wi N'.length cap g tc te) (jL i)):=
 ⟨qR hN hxi hx hf (tR hsw) S hc (jn hs) hi.h (fun s₃ H₃ fp=>(hg s₃ H₃ fp).h) (fun s₃ H₃ fp=>(ht s₃ H₃ fp).h) (fun s₃ H₃ fp=>(he s₃ H₃ fp).h)⟩
section
variable{X:Cx}{pins:List (Addr×Obj)}{σ:St}{H:Hp}{s:Shared}
end
section
variable{X:Cx}{K:PySem.W.Frag}
end
theorem bz:Slot "set_iterator" "__next__" "set_iterator.__next__":=
 .of (owner:="set_iterator") (n:="__next__") (by rw[typeLookup_type,builtinLookup_eq_fast];kernel_rfl) (by decide +kernel) (by decide +kernel) (by decide +kernel) (by first|exact .inl (by decide +kernel)|exact .inr (by decide +kernel)) (by rw[isSubtype_type];kernel_rfl)
theorem eO:entryFor table "set_iterator.__next__"=some Builtin.«set_iterator.__next__»:=entryFor_of_tree (by kernel_rfl)
theorem fI(a:Value):argsOk "set_iterator.__next__" ⟨[a],[]⟩:=by unfold argsOk;kernel_rfl
theorem lV:entryFor table "set.__iter__"=some Builtin.«frozenset.__iter__»:=entryFor_alias (id':="frozenset.__iter__") (by kernel_rfl) rfl (by decide +kernel) (by kernel_rfl)
theorem lW(t:SetTable)(n:Nat):(t.orStandIn n).led=t.led:=by unfold SetTable.orStandIn;split<;> rfl
theorem qS(t:SetTable)(es:Array (Int×Value))(h:Int)(x:Value):(layNew t es h x).2.1.led=t.led:=by
 unfold layNew;cases t.freeSlot h with
 | none=>rfl
 | some p=>
   obtain⟨sl,d⟩:=p;exact lW (t.put sl).1 _
theorem nN(t:SetTable)(es:Array (Int×Value))(n:Nat):(relayAll t es n).2.1.led=t.led:=by
 unfold relayAll;cases hr:t.relaid (es.map (·.1)) n with
 | none=>rfl
 | some p=>
   obtain⟨t',ord⟩:=p;simp only
   split
   ·simp only[SetTable.relaid,SetTable.laid]at hr;cases hc:SetTable.layClean (SetTable.sizeAbove n-1) (es.map (·.1))with
    | none=>rw[hc]at hr;cases hr
    | some ow=>rw[hc]at hr;injection hr with hr;injection hr with h1 h2;rw[<-h1]
   ·rfl
theorem kT(t:SetTable)(es:Array (Int×Value))(n:Nat)(hp:t.plain=false):(relayAll t es n).2.1.plain=false:=by
 unfold relayAll;cases hr:t.relaid (es.map (·.1)) n with
 | none=>rfl
 | some p=>
   obtain⟨t',ord⟩:=p;simp only
   split
   ·simp only[SetTable.relaid,SetTable.laid]at hr;cases hc:SetTable.layClean (SetTable.sizeAbove n-1) (es.map (·.1))with
    | none=>rw[hc]at hr;cases hr
    | some ow=>rw[hc]at hr;injection hr with hr;injection hr with h1 h2;rw[<-h1];exact hp
   ·rfl
noncomputable def aN(w:World):Bool:=w.params.followText "set-order"
def aW(w:World)(a:Addr)(ks:List Str)(h:Heap):Prop:=
 ∃o es ep t ss,h.get? a=some o/\o.ExactSet/\o.data= .set es ep t/\StrsAre (es.toList.map (·.2)) ss/\ss.Perm ks/\ks.Nodup/\(∀e∈es.toList,∃z u,e=(hashStr w z,.str z u))/\es.size<scanBound/\t.fits es.size=true/\(es.size≠0->t.plain=false)/\t.led=!aN w
theorem mS(h:∀e∈l,∃z u,e=(hashStr w z,.str z u)):ElemsOf (aA prog w) l:=fun e he=>by
 obtain⟨z,u,rfl⟩:=h e he;exact⟨⟨Sum.inr z,cO z u,rfl⟩,rfl⟩
theorem di:∀{vs:List Value} {ss:List Str} {z:Str},StrsAre vs ss->((∃u,Value.str z u∈vs)↔z∈ss)
 | _,_,z,.nil=>by simp
 | _,_,z,.cons x t h=>by
   have ih:=di (z:=z) h
   constructor
   ·rintro⟨u,hu⟩;rcases mem_cons.mp hu with e|e
    ·injection e with e1 _;rw[e1];exact Zl
    ·exact Zj _ (ih.mp ⟨u,e⟩)
   ·intro hz;rcases mem_cons.mp hz with e|e
    ·rw[e];exact⟨t,Zl⟩
    ·obtain⟨u,hu⟩:=ih.mpr e;exact⟨u,Zj _ hu⟩
theorem fU:∀{vs ws:List Value} {ss ts:List Str},StrsAre vs ss->StrsAre ws ts->StrsAre (vs++ws) (ss++ts)
 | _,_,_,_,.nil,h=>h
 | _,_,_,_,.cons x t h,h'=> .cons x t (fU h h')
theorem bp:∀{vs:List Value} {ss:List Str},StrsAre vs ss->vs.length=ss.length
 | _,_,.nil=>rfl
 | _,_,.cons x t h=>by rw[Zq,Zq,bp h]
theorem bJ(h:StrsAre vs ss)(p:ws.Perm vs):∃ts,StrsAre ws ts/\ts.Perm ss:=by
 refine⟨ws.map strOf,strsAre_map ws fun v hv=>h.all v (p.mem_iff.mp hv),?_⟩;have:=p.map strOf;rwa[h.strs]at this
section
variable{prog:Program}{w:World}{A:Around}{E:Value->Shared->Prop}{s:Shared}{a:Addr}
theorem aW.stored{h:Heap}{o:Obj}{es es':Array (Int×Value)}{t t':SetTable}(ho:h.get? a=some o)(hex:o.ExactSet)(hd:o.data= .set es ep t)(h1:StrsAre (es'.toList.map (·.2)) ss)(h2:ss.Perm ks)(h3:ks.Nodup)
 (h4:∀e∈es'.toList,∃z u,e=(hashStr w z,.str z u)) (h5:es'.size<scanBound) (h6:t'.fits es'.size=true) (h7:t'.plain=false) (h8:t'.led=!aN w):
 (h.update a (Obj.putSet es' t')).get? a=some {o with data:= .set es' (ep+1) t'}/\aW w a ks (h.update a (Obj.putSet es' t')):=by
 have hg:(h.update a (Obj.putSet es' t')).get? a=some {o with data:= .set es' (ep+1) t'}:=by
  have q:=get?_update_self (Obj.putSet es' t') ho (by rw[putSet_of es' t' hd];rfl);rwa[putSet_of es' t' hd]at q
 exact⟨hg,_,es',ep+1,t',ss,hg,hex,rfl,h1,h2,h3,h4,h5,h6,fun _=>h7,h8⟩
theorem pf{g:Bool->Sem Unit}(hg:∀(b:Bool) (s₁:Shared) (Q':Unit->Shared->Prop),Q' () s₁->wpAny (model prog w) A (g b) Q' E s₁){dum:Bool}{R:Option Bool->Shared->Prop}(ho:s.heap.get? a=some o)(hex:o.ExactSet)(hd:o.data= .set es ep t)
 (h1:StrsAre (es1.toList.map (·.2)) ss) (h2:ss.Perm ks) (h3:ks.Nodup) (h4:∀e∈es1.toList,∃z u,e=(hashStr w z,.str z u)) (h5:es1.size<scanBound) (h6:t2.fits es1.size=true) (h7:t2.plain=false) (h8:t2.led=!aN w)
 (hR:∀h',SameBut a s.heap h'->aW w a ks h'->R (some true) {s with heap:=h'}):
 wpAny (model prog w) A (do
  storeSet a es1 t2
  if(!dum&&t2.tooFull)=true then do
   g (relayAll t2 es1 (SetTable.grown es1.size)).2.2
   storeSet a (relayAll t2 es1 (SetTable.grown es1.size)).1 (relayAll t2 es1 (SetTable.grown es1.size)).2.1
   pure (some true)
  else pure (some true)) R E s:=by
 obtain⟨g1,S1⟩:=aW.stored (w:=w) (es':=es1) (t':=t2) ho hex hd h1 h2 h3 h4 h5 h6 h7 h8;have b1:=SameBut.update s.heap a (Obj.putSet es1 t2);refine Z2 (wpAny_storeSet_of ho hd ?_ (fits_of_scanBound h5))
 split
 ·have p:=relayAll_perm t2 es1 (SetTable.grown es1.size);have f:=relayAll_fits t2 es1 (SetTable.grown es1.size);have l:=nN t2 es1 (SetTable.grown es1.size);have pl:=kT t2 es1 (SetTable.grown es1.size) h7
  generalize relayAll t2 es1 (SetTable.grown es1.size)=L at p f l pl ⊢
  obtain⟨es2,t3,gv⟩:=L;dsimp only at p f l pl ⊢;have z:es2.size=es1.size:=by rw[<-Za,p.length_eq,Za]
  obtain⟨ts,q1,q2⟩:=bJ h1 (p.map (·.2));refine Z2 (hg _ _ _ (Z2 (wpAny_storeSet_of (s:={s with heap:=s.heap.update a (Obj.putSet es1 t2)}) g1 rfl ?_ (fits_of_scanBound (by rw[z];exact h5)))));exact Z3 (hR _ (b1.trans (SameBut.update _ a _)) (aW.stored (w:=w) (es':=es2) (t':=t3) g1 hex rfl q1 (q2.trans h2) h3 (fun e he=>h4 e (p.mem_iff.mp he)) (by rw[z];exact h5) f pl (l.trans h8)).2)
 ·exact Z3 (hR _ b1 S1)
theorem iH{ks:List Str}(hS:aW w a ks s.heap)(hroom:ks.length+1<scanBound)
 (hQ:∀h' b,SameBut a s.heap h'->aW w a (if z∈ks then ks else ks++[z]) h'->Q b {s with heap:=h'}):wpAny (model prog w) A (setAddHashed a (.str z tk) (hashStr w z)) Q E s:=by
 obtain⟨o,es,ep,t,ss,ho,hex,hd,hst,hp,hnd,hel,hb,hf,hpl,hled⟩:=hS;have hn:es.size=ks.length:=by
  have q:=bp hst;rw[Z5,Za,hp.length_eq]at q;exact q
 have hE:ElemsOf (aA prog w) es.toList:=mS hel;have hkey:(aA prog w).is (Sum.inr z) (.str z tk)=true:=cO z tk;unfold setAddHashed setAddHashedIn;refine wpAny_holding (Z2 (wpAny_setState_of ho hd hf ?_));dsimp only;rw[byScan_of (knd:=aA prog w) rfl hb hE];simp only[↓reduceIte];unfold setAddByScan;refine Z2 (Z2 (wpAny_rule (Z2 (wpAny_setScan_of (knd:=aA prog w) (k:=Sum.inr z) hkey ho hd hf hE ?_))));have hin:(∃e∈es.toList,(aA prog w).is (Sum.inr z) e.2=true)↔z∈ks:=by
  rw[<-hp.mem_iff,<-di hst]
  constructor
  ·rintro⟨e,he,q⟩;obtain⟨y,u,rfl⟩:=hel e he;have q:iw (Sum.inr z) (Value.str y u)=true:=q;rcases aY q with⟨i,t',q1,q2⟩|⟨y',t',q1,q2⟩
   ·cases q2
   ·cases q1;exact⟨u,Xa ⟨_,he,by injection q2 with e1 _;rw[e1]⟩⟩
  ·rintro⟨u,hu⟩;obtain⟨e,he,q⟩:=X9 hu;exact⟨e,he,by rw[q];exact cO z u⟩
 cases hr:List.findIdx? (fun e=>(aA prog w).is (Sum.inr z) e.2) es.toList with
 | some j=>
   obtain⟨hj,hpj,_⟩:=List.findIdx?_eq_some_iff_getElem.mp hr;have hz:z∈ks:=hin.mp ⟨es.toList[j],Y6 hj,hpj⟩;dsimp only;have q:=hQ s.heap false (SameBut.refl a s.heap) (by rw[if_pos hz];exact⟨o,es,ep,t,ss,ho,hex,hd,hst,hp,hnd,hel,hb,hf,hpl,hled⟩);exact Z3 (Z3 q)
 | none=>
   have hz:z∉ks:=fun q=>by
    obtain⟨e,he,q2⟩:=hin.mpr q;have:=List.findIdx?_eq_none_iff.mp hr e he;rw[q2]at this;cases this
   rw[if_neg hz]at hQ;dsimp only;have lp:=layNew_perm t es (hashStr w z) (.str z tk);have lf:=layNew_fits t es (hashStr w z) (.str z tk);have ll:=qS t es (hashStr w z) (.str z tk)
   generalize hL:layNew t es (hashStr w z) (.str z tk)=L at lp lf ll
   obtain⟨es1,t1,dum,gave⟩:=L;dsimp only at lp lf ll ⊢;rw[toList_push]at lp;have gone:∀(b:Bool) (s₁:Shared) (Q':Unit->Shared->Prop),Q' () s₁->wpAny (model prog w) A (match b with|true=>rule "set.scan.the-table-gave-way"|false=>pure ()) Q' E s₁:=fun b s₁ Q' q=>by
    cases b
    ·exact Z3 q
    ·exact wpAny_rule q
   have hel1:∀e∈es1.toList,∃z u,e=(hashStr w z,.str z u):=fun e he=>by
    rcases X7 (lp.mem_iff.mp he)with q|q
    ·exact hel e q
    ·rw[X8 q];exact⟨z,tk,rfl⟩
   have q1:StrsAre ((es.toList++[(hashStr w z,Value.str z tk)]).map (·.2)) (ss++[z]):=by
    rw[Zc];exact fU hst (.cons z tk .nil)
   obtain⟨ts,q2,q3⟩:=bJ q1 (lp.map (·.2));have hp1:ts.Perm (ks++[z]):=q3.trans (hp.append_right _);have hnd1:(ks++[z]).Nodup:=km hnd hz;have hz1:es1.size=es.size+1:=by rw[<-Za,lp.length_eq,Z8,Za];rfl
   have hb1:es1.size<scanBound:=by rw[hz1,hn];exact hroom
   have fin:∀h',SameBut a s.heap h'->aW w a (ks++[z]) h'->wpAny (model prog w) A (pure true) Q E {s with heap:=h'}:=fun h' sb S'=>Z3 (hQ h' true sb S')
   refine Z2 (gone _ _ _ ?_);cases hpl1:t1.plain with
   | true=>
     simp only[↓reduceIte];refine Z2 ?_;rw[show hashByValue 8 (Value.str z tk)=pure false from rfl];refine Z3 ?_;simp only[Zx,↓reduceIte];exact pf gone ho hex hd q2 hp1 hnd1 hel1 hb1 (SetTable.fits_plain_off lf) rfl (ll.trans hled) fun h' sb S'=>fin h' sb S'
   | false=>
     simp only[Zx,↓reduceIte];refine Z2 (Z3 ?_);simp only[↓reduceIte];exact pf gone ho hex hd q2 hp1 hnd1 hel1 hb1 lf hpl1 (ll.trans hled) fun h' sb S'=>fin h' sb S'
theorem ph(hS:aW w a ks s.heap)(hroom:ks.length+1<scanBound)
 (hQ:∀h' b,SameBut a s.heap h'->aW w a (if z∈ks then ks else ks++[z]) h'->Q b {s with heap:=h',toks:=s.toks+1}):wpAny (model prog w) A (setAdd a (.str z tk)) Q E s:=by
 unfold setAdd;exact wpAny_holding (Z2 (wpAny_pyHash_str (iH (s:={s with toks:=s.toks+1}) hS hroom hQ)))
end
noncomputable def kb(ks:List Str)(z:Str):List Str:=if z∈ks then ks else ks++[z]
noncomputable def az(ss:List Str):List Str:=ss.foldl kb []
theorem wq(ks:List Str)(z:Str):(kb ks z).length<=ks.length+1:=by
 unfold kb;split
 ·lia
 ·rw[Z8];exact Zh _
theorem wt:y∈kb ks z↔y∈ks\/y=z:=by
 unfold kb;by_cases h:z∈ks
 ·rw[if_pos h];exact⟨.inl,fun q=>q.elim id fun e=>e▸h⟩
 ·rw[if_neg h,Yk,mem_singleton]
theorem qT(h:ks.Nodup):(kb ks z).Nodup:=by
 unfold kb;by_cases hz:z∈ks
 ·rw[if_pos hz];exact h
 ·rw[if_neg hz];exact km h hz
theorem pj:∀{ss ks:List Str} {y:Str},y∈ss.foldl kb ks↔y∈ks\/y∈ss
 |[],ks,y=>by simp
 | z::r,ks,y=>by
   rw[foldl_cons,pj,wt,Yn];exact⟨fun h=>h.elim (fun h=>h.elim .inl fun e=> .inr (.inl e)) fun h=> .inr (.inr h),fun h=>h.elim (fun h=> .inl (.inl h)) fun h=>h.elim (fun e=> .inl (.inr e)) .inr⟩
theorem kU:∀{ss ks:List Str},ks.Nodup->(ss.foldl kb ks).Nodup
 |[],_,h=>h
 | z::r,ks,h=>by
   rw[foldl_cons];exact kU (qT h)
theorem bn:y∈az ss↔y∈ss:=by unfold az;rw[pj];simp
theorem dQ(ss:List Str):(az ss).Nodup:=kU Ys
theorem pq:∀(ss ks:List Str),(ss.foldl kb ks).length<=ks.length+ss.length
 |[],ks=>by simp
 | z::r,ks=>by
   have h1:=pq r (kb ks z);have h2:=wq ks z;rw[foldl_cons,Zq]
   lia
theorem aW.keep(S:aW w a ks h)(k:∀o,h.get? a=some o->h'.get? a=some o):aW w a ks h':=by
 obtain⟨o,es,ep,t,ss,ho,r⟩:=S;exact⟨o,es,ep,t,ss,k o ho,r⟩
theorem pw(val:Nat->Str)(i:Nat):az ((List.range (i+1)).map val)=kb (az ((List.range i).map val)) (val i):=by
 unfold az;rw[range_succ,Zc,List.foldl_append];rfl
section
variable{prog:Program}{w:World}{A:Around}{R:Result->Shared->Prop}{I:Addr}{fp wr:List Addr}{G:Array GenState->Array GenState->Prop}{n:Nat}{P:Nat->Value->Prop}{St:Nat->Shared->Prop}
theorem lX(W:WalksS prog w A.in1 I fp wr G n P St)(S:Addr)(hSf:S∉fp)(val:Nat->Str)(hval:∀i v,P i v->∃t,v= .str (val i) t)(hb:n+1<scanBound):
 ∀(k i:Nat) (s:Shared),n-i=k->i<=n->St i s->aW w S (az ((List.range i).map val)) s.heap->
  (∀s',Moved (S::wr) G s s'->aW w S (az ((List.range n).map val)) s'.heap->R (.ok (.ret .none)) s')->codeAny (model prog w) A (.builtin "set.update.loop" ⟨[.ref S,.ref I],[]⟩) R s:=by
 have out:S∉wr:=fun h=>hSf (W.sub _ h)
 have more:∀b∈wr,b∈S::wr:=fun b hb=>Zj _ hb
 intro k
 induction k with
 | zero=>
   intro i s hk hi st hS fin;have e:i=n:=by lia
   subst e;refine codeAny_builtin F.entry_set_update_loop ?_;rw[Around.under_plainId F.plain_set_update_loop _];show wpAny _ A.in1 (pyNext (.ref I)>>= _) _ _ s;refine Z2 (W.done s _ _ st fun s1 m1=>?_);show wpAny _ A.in1 (ret Value.none) _ _ s1;exact Z3 (fin s1 (m1.mono more) (hS.keep fun o e=>m1.heap S o out e))
 | succ k ih=>
   intro i s hk hi st hS fin;have lt:i<n:=by lia
   refine codeAny_builtin F.entry_set_update_loop ?_;rw[Around.under_plainId F.plain_set_update_loop _];show wpAny _ A.in1 (pyNext (.ref I)>>= _) _ _ s;refine Z2 (W.item i s _ _ lt st fun v s1 pv st1 m1=>?_);obtain⟨t,rfl⟩:=hval i v pv;have hS1:=hS.keep (h':=s1.heap) fun o e=>m1.heap S o out e
   have room:(az ((List.range i).map val)).length+1<scanBound:=by
    have q:=pq ((List.range i).map val) [];rw[Z5,Yb]at q;unfold az;simp only[length_nil,zero_add]at q
    lia
   show wpAny _ A.in1 (holding [Value.str (val i) t] (setAdd S (.str (val i) t))>>= _) _ _ s1;refine Z2 (wpAny_holding (ph hS1 room fun h2 b sb hS2=>?_));have hS2':aW w S (az ((List.range (i+1)).map val)) h2:=by rw[pw];exact hS2
   refine Z3 ⟨plainId_quiet F.plain_set_update_loop _,ih (i+1) _ (by lia) lt (W.frame _ s1 _ _ st1 (Y7 _) fun b hb o e=>?_) hS2' fun s3 m3 hS3=>?_⟩
   ·rw[sb.2 b (fun q:b=S=>hSf (q▸hb))];exact e
   ·refine fin s3 (Moved.trans W.gtrans ((m1.mono more).then_heap (Y7 _) fun b o hb e=>?_) m3) hS3;rw[sb.2 b (fun q:b=S=>hb (by rw[q];exact Zl))];exact e
end
section
variable{prog:Program}{w:World}{A:Around}{E:Value->Shared->Prop}{s:Shared}
noncomputable abbrev newSetO(w:World):Obj:={cls:= .type "set",dict:=none,data:= .set #[] 0 (.fresh 0 0 (!aN w))}
theorem pA(a:Value)(h:Q₁ (.ref s.heap.objs.size) {s with heap:=s.heap.push (newSetO w)}):
 codeAny (model prog w) A (.call (.builtin "set.__new__") ⟨[.type "set",a],[]⟩) (wants Q₁ E) s:=by
 refine codeAny_of_tree ?_;show wpAny _ A.in1 (checkBuiltinCall "set.__new__" ⟨[.type "set",a],[]⟩>>= fun _=>again (.builtin "set.__new__" ⟨[.type "set",a],[]⟩)) _ _ s;refine Z2 (wpAny_of_eq (PySem.F.newCall_set_1 a) (Z3 ⟨plainId_quiet PySem.F.plain_set_new _,codeAny_builtin PySem.F.entry_set_new ?_⟩));rw[Around.under_plainId PySem.F.plain_set_new _];unfold Builtin.«set.__new__» Builtin.Frozenset.newClass;have su:=sub_set_self;obtain⟨hp,g,d,tk,os⟩:=s;dsimp only
 wp_walk
 refine wpAny_askSetting (Z3 ?_);dsimp only;simp only[newObj];exact Z2 (wpAny_alloc (Z3 (Z3 h)))
theorem aW.empty(e:h.get? a=some (newSetO w)):aW w a [] h:=
 ⟨_,#[],0,_,[],e,⟨rfl,rfl,rfl⟩,rfl,.nil,.nil,Ys,fun e he=>by simp at he,by decide,rfl,fun q=>absurd rfl q,rfl⟩
theorem pB:∀{vs:List Value} {ss:List Str},StrsAre vs ss->∀(i:Nat) (v:Value),vs[i]? =some v->∃t,v= .str (ss.getD i (Str.ofString "")) t
 | _,_,.nil,i,v,h=>by simp at h
 | _,_,.cons x t hr,0,v,h=>by simp at h;exact⟨t,by rw[<-h];rfl⟩
 | _,_,.cons x t hr,i+1,v,h=>by
   obtain⟨u,e⟩:=pB hr i v (by simpa using h);exact⟨u,by rw[e];rfl⟩
theorem qU(ss:List Str):(List.range ss.length).map (fun i=>ss.getD i (Str.ofString ""))=ss:=by
 apply ext_getElem
 ·simp
 ·intro i h1 h2;simp[Zb,h2]
theorem lY(hh:A.handled=none)(hl:s.heap.IsList l items)(hi:StrsAre items.toList ss)(hb:items.size+1<scanBound)
 (hQ:∀(h':Heap) (tk:Nat),aW w s.heap.objs.size (az ss) h'->(∀b o,s.heap.get? b=some o->h'.get? b=some o)->Q (.ref s.heap.objs.size) {s with heap:=h',toks:=tk}):
 wpAny (model prog w) A (call (.type "set") [.ref l]) Q E s:=by
 obtain⟨c,tl,hmro⟩:=called_set.mro;have hmade:=called_set.made;have hsub:=called_set.sub;refine wpAny_call (codeAny_of_tree ?_);show wpAny _ _ (callAny (.type "set") _) _ _ _;refine Z3 ⟨Code.quiet_builtin _ (by decide +kernel),codeAny_builtin F.entry_type_call ?_⟩;rw[Around.under_plain (weight_type_call_type "set" [.ref l] []) rfl];have ht1:=called_set.notType;have ht2:=called_set.canCreate;have ht3:=PySem.F.typeCall_set_1 (.ref l)
 repeat any_goals first|assumption|wp_step
 refine codeAny_mono (pA (.ref l) (E:=E) (Q₁:=fun obj s₁=>obj= .ref s.heap.objs.size/\s₁={s with heap:=s.heap.push (newSetO w)}) ⟨rfl,rfl⟩) fun r s₁ hr=>?_
 cases r with
 | error e=>exact hr
 | ok fl=>
   cases fl with
   | ret obj=>
     obtain⟨rfl,rfl⟩:=hr;have gS:(s.heap.push (newSetO w)).get? s.heap.objs.size=some (newSetO w):=Zi _ rfl;have tS:Shared.TypeIs {s with heap:=s.heap.push (newSetO w)} (.ref s.heap.objs.size) "set":=⟨_,gS,rfl⟩
     have hli:=called_set.init.lookup;have hbi:=called_set.init.bind (.ref s.heap.objs.size)
     repeat any_goals first|assumption|wp_step
     refine codeAny_mono (codeAny_call_builtin (R:=wants (fun r s₂=>r= .none/\∃h' tk,s₂={s with heap:=h',toks:=tk}/\aW w s.heap.objs.size (az ss) h'/\(∀b o,s.heap.get? b=some o->h'.get? b=some o)) E) called_set.init.plain F.entry_set_init (check_set_init_1 tS ?_)) fun r₂ s₂ hr₂=>?_
     ·obtain⟨ol,gl,cl,nl,dl⟩:=hl;obtain⟨ocls,odict,odata,oslots⟩:=ol;simp only at cl dl;subst cl;subst dl;have gl':(s.heap.push (newSetO w)).get? l=some {cls:= .type "list",dict:=odict,data:= .seq items nl,slots:=oslots}:=Z6 _ gl;have no1:=PySem.F.sub_list_set;have no2:=PySem.F.sub_list_frozenset;have no3:(Value.type "list"==Value.type "dict")=false:=by decide
      have isl:(s.heap.push (newSetO w)).IsList l items:=⟨_,gl',rfl,nl,rfl⟩
      unfold Builtin.«set.__init__»;unfold noKeywords;unfold Builtin.Frozenset.updateFrom
      generalize hPI:pyIter=PI
      wp_walk
      subst hPI;refine wpAny_pyIter_list isl (Z2 (wpAny_runValue ?_));have llt:l<s.heap.objs.size:=Zt gl;have h3:A.in1.in1.in1.handled=none:=by simp[hh]
      have nz:(s.heap.push (newSetO w)).objs.size=s.heap.objs.size+1:=Zp ..;have ne1:l≠(s.heap.push (newSetO w)).objs.size:=by rw[nz];exact Zr (Yf llt)
      have ne2:s.heap.objs.size∉[(s.heap.push (newSetO w)).objs.size,l]:=by
       rw[nz];simp only[Yn,Yu,or_false,not_or];exact⟨Zr (Yg _),Yp llt⟩
      have hlen:items.size=ss.length:=by rw[<-Za];exact bp hi
      refine lX ((Walks.list h3 _ l ne1 items).toS) s.heap.objs.size ne2 (fun i=>ss.getD i (Str.ofString "")) (fun i v hv=>pB hi i v (by rw[getElem?_toList];exact hv)) hb (items.size-0) 0 _ (by lia) (X0 _)
       ⟨⟨_,Zi _ rfl,rfl,rfl⟩,isl.push _⟩ (aW.empty (Z6 _ gS)) ?_
      intro s3 m3 S3;rw[hlen,qU]at S3;obtain⟨h',g',d',tk',os'⟩:=s3;have eg:g'=s.gens:=m3.gens;have ed:d'=s.drawn:=m3.drawn;have eo:os'=s.os:=m3.os;subst eg;subst ed;subst eo;refine Z3 ?_;show wpAny _ _ (ret Value.none) _ _ _;refine Z3 ⟨rfl,h',tk',rfl,S3,fun b o e=>?_⟩;have blt:=Zt e;refine m3.heap b o ?_ (Z6 _ (Z6 _ e));simp only[Yn,Yu,or_false,not_or,nz];exact⟨Zr blt,Zr (Yf blt)⟩
     ·cases r₂ with
      | error e=>exact hr₂
      | ok fl₂=>
        cases fl₂ with
        | ret r=>
          obtain⟨rfl,h',tk,rfl,S3,k3⟩:=hr₂
          repeat any_goals first|assumption|wp_step
          exact hQ _ _ S3 k3
        | _=>exact hr₂.elim
   | _=>exact hr.elim
end
section
variable{X:Cx}{K:PySem.W.Frag}
noncomputable def eZ(w:World)(a:Addr)(ks:List Str):HO:= .ext (aW w a ks)
theorem wu(hc:X.calm=true):bN X (.type "set") (fun xs H Q=>∃p ss,xs=[.ref p]/\SqL X.K H p (ss.map V.str)/\ss.length<=4000/\∀l,H l=none->Q (.ref l) (upd H l (eZ X.w l (az ss)))):=by
 intro pins s σ H xs us Q I r h;obtain⟨p,ss,rfl,hq,hl,q⟩:=h;obtain⟨u,rfl,ru⟩:=df r;cases ru;obtain⟨its,rv,pl,hz⟩:=I.list hq;have hst:=eW rv;have hn:its.toArray.size=ss.length:=by rw[Zo];exact bp hst
 refine lY (I.ok.hd hc) pl.isList (ss:=ss) (by simpa using hst) (by rw[hn];show ss.length+1<4096;lia) fun h' tk S k=>?_
 refine⟨.ref s.heap.objs.size,_,I.laid (o:=eZ X.w s.heap.objs.size (az ss)) (t':=tk) k (Zh _) ⟨S,?_,fun h1 h2 S1 k1=>S1.keep k1⟩,rfl,q _ I.fresh⟩;obtain⟨o,_,_,_,_,ho,_⟩:=S;exact⟨o,ho⟩
theorem wv(h:X.K=K)(hw:X.w=w)(hc:X.calm=true):cy X (.type "set") (fun xs H Q=>∃p ss,xs=[.ref p]/\SqL K H p (ss.map V.str)/\ss.length<=4000/\∀l,H l=none->Q (.ref l) (upd H l (eZ w l (az ss)))):=by subst h;subst hw;exact⟨wu hc⟩
end
theorem e7:∀{xs:List α} {i:Nat} (h:i<xs.length),(xs[i]::xs.eraseIdx i).Perm xs
 | x::r,0,_=>by simp
 | x::r,i+1,h=>by
   have ih:=e7 (xs:=r) (i:=i) (by simpa using h);simp only[List.getElem_cons_succ,List.eraseIdx_cons_succ];exact(List.Perm.swap _ _ _).trans (.cons _ ih)
section
variable{prog:Program}{w:World}{A:Around}{E:Value->Shared->Prop}{s:Shared}
theorem tT(hn:n≠0)(h:∀i d,i<n->Q i {s with drawn:=d}):wpAny (model prog w) A (choose src n) Q E s:=by
 intro Γ p _;show Sem.wp _ _ (.choose src n .pure) _ _ _ _;rw[Sem.wp_choose];exact⟨hn,h _ _ (mod_lt _ (Nat.pos_of_ne_zero hn))⟩
theorem nO:∀(n:Nat) (xs:List α) (s:Shared) (Q:List α->Shared->Prop),xs.length<=n->(∀ys d,ys.Perm xs->Q ys {s with drawn:=d})->wpAny (model prog w) A (drawOrder n xs) Q E s
 | 0,xs,s,Q,hn,h=>by
   have e:xs=[]:=length_eq_zero_iff.mp (le_zero.mp hn);subst e;exact Z3 (h [] s.drawn .nil)
 | n+1,[],s,Q,hn,h=>Z3 (h [] s.drawn .nil)
 | n+1,x::r,s,Q,hn,h=>by
   unfold drawOrder;refine Z2 (tT (by simp) fun i d hi=>?_);have e:(x::r)[i]? =some ((x::r)[i]):=Z4 hi;rw[e];have l:((x::r).eraseIdx i).length<=n:=by rw[List.length_eraseIdx];simp only[hi,↓reduceIte];simp only[Zq]at hn ⊢;lia
   refine Z2 (nO n ((x::r).eraseIdx i) _ _ l fun ys d2 p=>Z3 (h _ d2 ?_));exact(List.Perm.cons _ p).trans (e7 hi)
end
theorem sq(next:Nat->Nat):∀(fuel k:Nat) (left:List α) (out:Array α),left.length<=fuel->(pickOrder.go next fuel k left out).toList.Perm (out.toList++left)
 | 0,k,left,out,h=>by
   have e:left=[]:=length_eq_zero_iff.mp (le_zero.mp h);subst e;rw[Zw];exact .refl _
 | fuel+1,k,[],out,h=>by
   unfold pickOrder.go;simp
 | fuel+1,k,x::r,out,h=>by
   unfold pickOrder.go;have hi:next k%(x::r).length<(x::r).length:=mod_lt _ (by simp);rw[Z4 hi];have l:((x::r).eraseIdx (next k%(x::r).length)).length<=fuel:=by rw[List.length_eraseIdx];simp only[hi,↓reduceIte];simp only[Zq]at h ⊢;lia
   refine(sq next fuel (k+1) _ _ l).trans ?_;rw[toList_push,Zd];exact(List.Perm.refl _).append (e7 hi)
theorem mT(next:Nat->Nat)(xs:Array α):(pickOrder next xs).toList.Perm xs.toList:=by
 have:=sq next xs.size 0 xs.toList #[] (by simp);simpa [pickOrder]using this
theorem mU(p j:Nat):SetTable.below #[p] j=if p<j then 1 else 0:=by
 unfold SetTable.below;simp only[Zo,Zq,length_nil,zero_add];unfold SetTable.below.go;simp
 split<;>(unfold SetTable.below.go;rfl)
theorem qV(j:Nat):SetTable.below #[] j=0:=rfl
theorem mV{α:Type}{xs:Array α}(h:xs.size=1):∃p,xs= #[p]:=by
 obtain⟨l⟩:=xs
 match l,h with
 |[p],_=>exact⟨p,rfl⟩
def SIt(w:World)(I S T:Addr)(o:Obj)(es:Array (Int×Value))(ep:Nat)(t:SetTable)(ord:List Value)(i:Nat)(h:Heap):Prop:=
 h.get? S=some o/\∃first,h.get? I=some {cls:= .type "set_iterator",dict:=none,data:= .fields #[first,rawInt i,.ref S,rawInt es.size,rawInt ep],slots:= #[]}/\
  ((aN w=true/\first=rawInt 0/\ord=(pickOrder (w.params.setOrder S ep) es).toList.map (·.2))\/
   (aN w=false/\first= .ref T/\T≠I/\∃ps:List Nat,h.get? T=some {cls:= .type "tuple",data:= .seq (ps.map fun(i:Nat)=>rawInt i).toArray}/\ps.length=ord.length/\∀(j p:Nat),ps[j]? =some p->∃e,es[p]? =some e/\ord[j]? =some e.2)\/
   (aN w=false/\es.size<=1/\ord=es.toList.map (·.2)/\(i=0->first=rawInt 0)/\(i=1->∃p:Nat,t.place[0]? =some p/\first=rawInt (p+1))))
theorem SIt.is{w:World}{I S T:Addr}{o:Obj}{es:Array (Int×Value)}{ep:Nat}{t:SetTable}{ord:List Value}{i:Nat}{s:Shared}(h:SIt w I S T o es ep t ord i s.heap):s.TypeIs (.ref I) "set_iterator":=by
 obtain⟨_,f,hI,_⟩:=h;exact⟨_,hI,rfl⟩
section
variable{prog:Program}{w:World}{A:Around}{E:Value->Shared->Prop}{s:Shared}{I S T:Addr}{o:Obj}{es:Array (Int×Value)}{ep:Nat}{t:SetTable}{ord:List Value}
theorem qW{i:Nat}{v:Value}{Q:Option Value->Shared->Prop}(hd:o.data= .set es ep t)(hf:t.fits es.size=true)(hled:t.led=!aN w)(hSI:S≠I)(st:SIt w I S T o es ep t ord i s.heap)(hv:ord[i]? =some v)(hn:ord.length=es.size)
 (hQ:∀h',SIt w I S T o es ep t ord (i+1) h'->SameBut I s.heap h'->Q (some v) {s with heap:=h'}):wpAny (model prog w) A (pyNext (.ref I)) Q E s:=by
 have hT:=st.is;obtain⟨hS,first,hI,m⟩:=st;unfold pyNext;refine Z2 (wpAny_attempt (wpAny_callSpecial?_slot (name:=Str.ofString "__next__") hT bz (wpAny_call_entry bz hT eO ?_ (fI _))));unfold Builtin.«set_iterator.__next__»;refine Z2 (m:=slotArgs _ _ _) (Z3 ?_);refine Z2 (wpAny_fieldsOf hI rfl ?_);show wpAny _ _ (setEntries S>>= _) _ _ _;refine Z2 (wpAny_setEntries_of hS hd hf ?_);rw[if_neg (by simp)];rcases m with⟨bt,rfl,eo⟩|⟨bt,rfl,hTI,ps,hTt,hpl,hps⟩|⟨bt,h1,eo,f0,f1⟩
 ·show wpAny _ _ (setNext S 0 i ep>>= _) _ _ _;refine Z2 ?_;unfold setNext;refine Z2 (wpAny_setState_of hS hd hf ?_);refine Z2 (Z2 (wpAny_askSetting (Z3 ?_)));show wpAny _ _ (if aN w=true then _ else _) _ _ _;rw[if_pos bt];dsimp only;rw[if_neg (show ¬ ((ep != ep)=true) by simp)];refine Z2 ?_;unfold setWalk;refine Z2 (wpAny_setState_of hS hd hf ?_);refine Z2 (Z2 (wpAny_askSetting (Z3 ?_)));show wpAny _ _ (if aN w=true then _ else _) _ _ _;rw[if_pos bt];refine Z2 (wpAny_askSetting (Z3 (Z3 ?_)));have hv':(pickOrder (w.params.setOrder S ep) es)[i]?.map (·.2)=some v:=by
   rw[eo]at hv;simpa using hv
  cases hp:(pickOrder (w.params.setOrder S ep) es)[i]? with
  | none=>rw[hp]at hv';cases hv'
  | some e=>
    rw[hp]at hv';have ev:e.2=v:=by simpa using hv'
    show wpAny _ _ (match((pickOrder (w.params.setOrder S ep) es)[i]?).map fun e=>(e.2,0)with|some (x,next)=>_|none=>_) _ _ _;rw[hp];show wpAny _ _ (setField (.ref I) 0 (rawInt ((0:Nat):Int))>>= _) _ _ _;refine Z2 (wpAny_setField_rec hI (by simp) fun g1 hI1 sb1=>?_);refine Z2 (wpAny_setField_rec (s:={s with heap:=g1}) hI1 (by simp) fun g2 hI2 sb2=>?_);rw[ev];have sb:SameBut I s.heap g2:=sb1.trans sb2;refine Z3 ⟨v,rfl,Z3 (hQ g2 ⟨(sb.2 S hSI).trans hS,_,hI2,.inl ⟨bt,rfl,eo⟩⟩ sb)⟩
 ·show wpAny _ _ (seqItems? (.ref T)>>= _) _ _ _;refine Z2 (wpAny_seqItems hTt rfl ?_);have hi:i<ord.length:=(X6 hv).1;have hip:i<ps.length:=by lia
  obtain⟨e,he,hoe⟩:=hps i ps[i] (by simp[hip]);have ev:e.2=v:=by rw[hoe]at hv;exact Z9 hv
  have hpl':(ps.map fun(i:Nat)=>rawInt i).toArray[(i:Int).toNat]? =some (rawInt ps[i]):=by simp[hip]
  dsimp only;rw[hpl'];show wpAny _ _ (setNextDrawn S ps[i] ep>>= _) _ _ _;refine Z2 ?_;unfold setNextDrawn;refine Z2 (wpAny_setState_of hS hd hf ?_);dsimp only;rw[if_neg (show ¬ ((ep != ep)=true) by simp),he];refine Z3 ?_;refine Z2 (wpAny_setField_rec hI (by simp) fun g1 hI1 sb1=>?_);rw[ev];exact Z3 ⟨v,rfl,Z3 (hQ g1 ⟨(sb1.2 S hSI).trans hS,_,hI1,.inr (.inl ⟨bt,rfl,hTI,ps,(sb1.2 T hTI).trans hTt,hpl,hps⟩)⟩ sb1)⟩
 ·have hi:i<ord.length:=(X6 hv).1;have i0:i=0:=by lia
  subst i0;have f0:=f0 rfl;subst f0;have e1:es.size=1:=by lia
  have pz:t.place.size=1:=by
   simp only[SetTable.fits,Zu,beq_iff_eq,decide_eq_true_eq]at hf;rw[hf.1,e1]
  obtain⟨p,hp⟩:=mV pz;obtain⟨e,he⟩:∃e,es[0]? =some e:=⟨es[0],by simp[e1]⟩
  have ev:e.2=v:=by
   rw[eo]at hv;have:(es[0]?).map (·.2)=some v:=by simpa using hv
   rw[he]at this;simpa using this
  show wpAny _ _ (setNext S 0 0 ep>>= _) _ _ _;refine Z2 ?_;unfold setNext;refine Z2 (wpAny_setState_of hS hd hf ?_);refine Z2 (Z2 (wpAny_askSetting (Z3 ?_)));show wpAny _ _ (if aN w=true then _ else _) _ _ _;rw[if_neg (by rw[bt];decide)];dsimp only
  split
  ·rename_i hdr
   change (!t.plain&&decide (es.size>1))=true at hdr;rw[e1]at hdr;simp at hdr
  ·refine Z2 (m:=(if(!t.led&&!es.isEmpty)=true then unsupported "set:maker-not-led" else pure ())) ?_;rw[hled,bt];refine Z3 ?_;rw[hp,mU];simp only[Yt,↓reduceIte,he];refine Z3 ?_;show wpAny _ _ (setField (.ref I) 0 (rawInt ((p+1:Nat):Int))>>= _) _ _ _;refine Z2 (wpAny_setField_rec hI (by simp) fun g1 hI1 sb1=>?_);refine Z2 (wpAny_setField_rec (s:={s with heap:=g1}) hI1 (by simp) fun g2 hI2 sb2=>?_);rw[ev];have sb:SameBut I s.heap g2:=sb1.trans sb2;exact Z3 ⟨v,rfl,Z3 (hQ g2 ⟨(sb.2 S hSI).trans hS,_,hI2,.inr (.inr ⟨bt,by lia,eo,fun q=>by lia,fun _=>⟨p,by rw[hp];rfl,rfl⟩⟩)⟩ sb)⟩
theorem pC{α:Type}{Q:α->Shared->Prop}(hh:A.handled=none)(hE:∀h' e,(∀b o,s.heap.get? b=some o->h'.get? b=some o)->(∃o,h'.get? e=some o/\o.cls= .type "StopIteration")->E (.ref e) {s with heap:=h'}):
 wpAny (model prog w) A (newExc (.type "StopIteration") []>>= fun e=>(raiseNew e:Sem α)) Q E s:=by
 refine Z2 ?_;simp only[newExc,newTuple];refine Z2 (wpAny_newObj_type ?_ (by size_fits));refine Z2 (m:=firstArgMember _ _) (wpAny_of_eq (a:=Value.none) (by first|rfl|(simp only[firstArgMember];rfl)) (wpAny_newObj_type ?_ (by size_fits)));refine wpAny_raiseNew_none hh (hE _ _ (fun b o e=>Z6 _ (Z6 _ e)) ⟨_,Zi _ rfl,rfl⟩)
theorem tU{i:Nat}{Q:Option Value->Shared->Prop}(hh:A.handled=none)(hd:o.data= .set es ep t)(hf:t.fits es.size=true)(hled:t.led=!aN w)(st:SIt w I S T o es ep t ord i s.heap)(hi:i=ord.length)(hn:ord.length=es.size)
 (hQ:∀h',(∀b o,b≠I->s.heap.get? b=some o->h'.get? b=some o)->Q none {s with heap:=h'}):wpAny (model prog w) A (pyNext (.ref I)) Q E s:=by
 have hT:=st.is;obtain⟨hS,first,hI,m⟩:=st;have hh1:A.in1.handled=none:=hh;have fin:∀(g:Heap) (Q':Fin->Shared->Prop),SameBut I s.heap g->wpAny (model prog w) A.in1 (newExc (.type "StopIteration") []>>= fun e=>(raiseNew e:Sem Fin)) Q' (fun e s'=>wpAny (model prog w) A (do
  if(<-isInstance e (.type "StopIteration"))then pure none else throw e) Q E s') {s with heap:=g}:=fun g Q' sb=>by
  refine pC hh1 fun h' e k ⟨oe,he,hc⟩=>?_
  refine Z2 (wpAny_isInstance (T:="StopIteration") (b:=true) ⟨oe,he,hc⟩ isSubtype_stop (Z3 (hQ h' fun b o hb q=>k b o ((sb.2 b hb).trans q))))
 unfold pyNext;refine Z2 (wpAny_attempt (wpAny_callSpecial?_slot (name:=Str.ofString "__next__") hT bz (wpAny_call_entry bz hT eO ?_ (fI _))));unfold Builtin.«set_iterator.__next__»;refine Z2 (m:=slotArgs _ _ _) (Z3 ?_);refine Z2 (wpAny_fieldsOf hI rfl ?_);show wpAny _ _ (setEntries S>>= _) _ _ _;refine Z2 (wpAny_setEntries_of hS hd hf ?_);rw[if_neg (by simp)];rcases m with⟨bt,rfl,eo⟩|⟨bt,rfl,hTI,ps,hTt,hpl,hps⟩|⟨bt,h1,eo,f0,f1⟩
 ·show wpAny _ _ (setNext S 0 i ep>>= _) _ _ _;refine Z2 ?_;unfold setNext;refine Z2 (wpAny_setState_of hS hd hf ?_);refine Z2 (Z2 (wpAny_askSetting (Z3 ?_)));show wpAny _ _ (if aN w=true then _ else _) _ _ _;rw[if_pos bt];dsimp only;rw[if_neg (show ¬ ((ep != ep)=true) by simp)];refine Z2 ?_;unfold setWalk;refine Z2 (wpAny_setState_of hS hd hf ?_);refine Z2 (Z2 (wpAny_askSetting (Z3 ?_)));show wpAny _ _ (if aN w=true then _ else _) _ _ _;rw[if_pos bt];refine Z2 (wpAny_askSetting (Z3 (Z3 ?_)));have hp:(pickOrder (w.params.setOrder S ep) es)[i]? =none:=by
   rw[Array.getElem?_eq_none_iff,hi,eo,Z5,Za];exact Zh _
  show wpAny _ _ (match((pickOrder (w.params.setOrder S ep) es)[i]?).map fun e=>(e.2,0)with|some (x,next)=>_|none=>_) _ _ _;rw[hp];show wpAny _ _ (setField (.ref I) 2 .none>>= _) _ _ _;exact Z2 (wpAny_setField_rec hI (by simp) fun g1 _ sb1=>fin g1 _ sb1)
 ·show wpAny _ _ (seqItems? (.ref T)>>= _) _ _ _;refine Z2 (wpAny_seqItems hTt rfl ?_);have hpl':(ps.map fun(i:Nat)=>rawInt i).toArray[(i:Int).toNat]? =none:=by simp;lia
  dsimp only;rw[hpl'];show wpAny _ _ (setField (.ref I) 0 (rawInt 0)>>= _) _ _ _;refine Z2 (wpAny_setField_rec hI (by simp) fun g1 hI1 sb1=>?_);exact Z2 (wpAny_setField_rec (s:={s with heap:=g1}) hI1 (by simp) fun g2 _ sb2=>fin g2 _ (sb1.trans sb2))
 ·have done:∀slot:Nat,first=rawInt slot->SetTable.below t.place slot=es.size->wpAny (model prog w) A.in1 (setNext S slot i ep) (fun a s'=>a=none/\s'=s) (fun _ _=>False) s:=by
   intro slot _ hb;unfold setNext;refine Z2 (wpAny_setState_of hS hd hf ?_);refine Z2 (Z2 (wpAny_askSetting (Z3 ?_)));show wpAny _ _ (if aN w=true then _ else _) _ _ _;rw[if_neg (by rw[bt];decide)];dsimp only
   split
   ·rename_i hdr
    change (!t.plain&&decide (es.size>1))=true at hdr;have:decide (es.size>1)=false:=Zg (by lia);rw[this,Bool.and_false]at hdr;cases hdr
   ·refine Z2 (m:=(if(!t.led&&!es.isEmpty)=true then unsupported "set:maker-not-led" else pure ())) ?_;rw[hled,bt];refine Z3 ?_;rw[hb,show es[es.size]? =none by simp];exact Z3 ⟨rfl,rfl⟩
  have go:∀slot:Nat,first=rawInt slot->SetTable.below t.place slot=es.size->wpAny (model prog w) A.in1 (setNext S slot i ep>>= fun a=>match a with
   | some (x,next)=>(do
     setField (.ref I) 0 (rawInt ↑next)
     setField (.ref I) 1 (rawInt (↑i+1))
     ret x)
   | none=>(do
     setField (.ref I) 2 .none
     let e<-newExc (.type "StopIteration") []
     raiseNew e)) (fun fin s'=>∃v,fin=Fin.done (Flow.ret v)/\wpAny (model prog w) A (pure (some v)) Q E s') (fun e s'=>wpAny (model prog w) A (do
   if(<-isInstance e (.type "StopIteration"))then pure none else throw e) Q E s') s:=by
   intro slot e hb;refine Z2 (wpAny_mono (done slot e hb) (fun a s' ⟨e1,e2⟩=>?_) fun _ _ f=>f.elim);subst e1;subst e2;exact Z2 (wpAny_setField_rec hI (by simp) fun g1 _ sb1=>fin g1 _ sb1)
  have pz:t.place.size=es.size:=by
   simp only[SetTable.fits,Zu,beq_iff_eq,decide_eq_true_eq]at hf;exact hf.1
  by_cases e0:es.size=0
  ·have i0:i=0:=by lia
   subst i0;have f0:=f0 rfl;subst f0;refine go 0 rfl ?_;have:t.place= #[]:=Array.eq_empty_of_size_eq_zero (by lia);rw[this,qV,e0]
  ·have e1:es.size=1:=by lia
   have i1:i=1:=by lia
   subst i1;obtain⟨p,hp,f1⟩:=f1 rfl;subst f1;refine go (p+1) rfl ?_;obtain⟨p',hp'⟩:=mV (by rw[pz,e1]:t.place.size=1);rw[hp']at hp ⊢;have:p'=p:=by simpa using hp
   subst this;rw[mU,if_pos (Yg _),e1]
end
theorem fJ:Slot "set_iterator" "__iter__" "set_iterator.__iter__":=
 .of (owner:="set_iterator") (n:="__iter__") (by rw[typeLookup_type,builtinLookup_eq_fast];kernel_rfl) (by decide +kernel) (by decide +kernel) (by decide +kernel) (by first|exact .inl (by decide +kernel)|exact .inr (by decide +kernel)) (by rw[isSubtype_type];kernel_rfl)
theorem jq:entryFor table "set_iterator.__iter__"=some Builtin.«dict_keyiterator.__iter__»:=entryFor_alias (id':="dict_keyiterator.__iter__") (by kernel_rfl) rfl (by decide +kernel) (by kernel_rfl)
theorem kc(a:Value):argsOk "set_iterator.__iter__" ⟨[a],[]⟩:=by unfold argsOk;kernel_rfl
theorem nP:typeLookup (.type "set") "__len__"=pure (some (.builtin "set.__len__")):=by rw[typeLookup_type,builtinLookup_eq_fast];kernel_rfl
section
variable{prog:Program}{w:World}{A:Around}{E:Value->Shared->Prop}{s:Shared}{I S T:Addr}{o:Obj}{es:Array (Int×Value)}{ep:Nat}{t:SetTable}{ord:List Value}
theorem tV(hh:A.handled=none)(hd:o.data= .set es ep t)(hf:t.fits es.size=true)(hled:t.led=!aN w)(hSI:S≠I)(hn:ord.length=es.size):
 Walks prog w A I [I,S,T] [I] ord.length (fun i v=>ord[i]? =some v) (fun i h=>SIt w I S T o es ep t ord i h) where
 sub:=by simp
 frame:=fun i h h' st k=>by
  obtain⟨hS,first,hI,m⟩:=st;refine⟨k S (by simp) _ hS,first,k I (by simp) _ hI,?_⟩;rcases m with m|⟨bt,e,hTI,ps,hTt,r⟩|m
  ·exact .inl m
  ·exact .inr (.inl ⟨bt,e,hTI,ps,k T (by simp) _ hTt,r⟩)
  ·exact .inr (.inr m)
 item:=fun i s Q E hi st hQ=>qW (v:=ord[i]) hd hf hled hSI st (by simp[hi]) hn fun h' st' sb=>hQ _ h' s.toks (by simp[hi]) st' fun b o' hb e=>(sb.2 b (fun q=>hb (by simp[q]))).trans e
 done:=fun s Q E st hQ=>tU hh hd hf hled st rfl hn fun h' k=>hQ h' s.toks fun b o' hb e=>k b o' (fun q=>hb (by simp[q])) e
 self:=fun i s Q E st hQ=>by
  have hT:=st.is;refine wpAny_pyIter_slot hT fJ (wpAny_call_entry fJ hT jq ?_ (kc _));show wpAny _ _ (ret (.ref I)) _ _ s;exact Z3 ⟨_,rfl,"set_iterator",_,hT,bz.lookup,hQ⟩
theorem tW(ho:s.heap.get? S=some o)(hex:o.ExactSet)(hd:o.data= .set es ep t)(hb:es.size<scanBound)(hf:t.fits es.size=true)(hpl:es.size≠0->t.plain=false)(hled:t.led=!aN w)
 (hQ:∀(I T:Addr) (ord:List Value) (h':Heap) d,(∀b o,s.heap.get? b=some o->h'.get? b=some o)->s.heap.objs.size<=I->S≠I->(T=S\/s.heap.objs.size<=T)->T<h'.objs.size->I<h'.objs.size->ord.length=es.size->
  SIt w I S T o es ep t ord 0 h'->ord.Perm (es.toList.map (·.2))->Q (.ref I) {s with heap:=h',drawn:=d}):wpAny (model prog w) A (pyIter (.ref S)) Q E s:=by
 have hT:s.TypeIs (.ref S) "set":=⟨o,ho,hex.1⟩
 have slt:S<s.heap.objs.size:=Zt ho;refine wpAny_pyIter_slot hT F.slot_set_iter (wpAny_call_entry F.slot_set_iter hT lV ?_ (F.args_set_iter_1 _));unfold Builtin.«frozenset.__iter__»;refine Z2 (m:=Builtin.Frozenset.slot0 _ _) (Z2 (m:=slotArgs _ _ _) (Z3 (Z3 ?_)));refine Z2 (m:=Builtin.Frozenset.sizeOf S) (Z2 (wpAny_setEntries_of ho hd hf (Z3 ?_)));refine Z2 (m:=setDrawn S) ?_;unfold setDrawn;refine Z2 (wpAny_setState_of ho hd hf (Z2 (Z2 (wpAny_askSetting (Z3 (Z3 ?_))))));have fin:∀(first:Value) (s1:Shared) (T:Addr) (ord:List Value),s1.heap.get? S=some o->(∃d h1,s1={s with heap:=h1,drawn:=d})->(∀b o,s.heap.get? b=some o->s1.heap.get? b=some o)->T<s1.heap.objs.size->s.heap.objs.size<=s1.heap.objs.size->(T=S\/s.heap.objs.size<=T)->ord.Perm (es.toList.map (·.2))->
  ((aN w=true/\first=rawInt 0/\ord=(pickOrder (w.params.setOrder S ep) es).toList.map (·.2))\/(aN w=false/\first= .ref T/\∃ps:List Nat,s1.heap.get? T=some {cls:= .type "tuple",data:= .seq (ps.map fun(i:Nat)=>rawInt i).toArray}/\ps.length=ord.length/\∀(j p:Nat),ps[j]? =some p->∃e,es[p]? =some e/\ord[j]? =some e.2)\/(aN w=false/\es.size<=1/\ord=es.toList.map (·.2)/\first=rawInt 0))->ord.length=es.size->
  wpAny (model prog w) A.in1 (do ret (<-newFields "set_iterator" [first,rawInt 0,.ref S,rawInt es.size,rawInt (<-setEpoch S)])) (fun fin s'=>∃v,fin=Fin.done (Flow.ret v)/\∃T' r,s'.TypeIs v T'/\typeLookup (.type T') "__next__"=pure (some r)/\Q v s') (fun e s'=>E e s') s1:=by
  intro first s1 T ord h1 ⟨d,g1,e1⟩ k1 tl sl hTT q1 m hn
  subst e1;refine Z2 (wpAny_setEpoch_of h1 hd hf (Z2 (wpAny_newObj_type ?_)));have gI:(g1.push {cls:= .type "set_iterator",data:= .fields #[first,rawInt 0,.ref S,rawInt es.size,rawInt ep]}).get? g1.objs.size=some _:=Zi _ rfl;refine Z3 ⟨_,rfl,"set_iterator",_,⟨_,gI,rfl⟩,bz.lookup,hQ g1.objs.size T ord _ d (fun b o' e=>Z6 _ (k1 b o' e)) sl (Zr (Zt h1)) hTT (by rw[Zp];exact Yf tl) (by rw[Zp];exact Yg _) hn ?_ q1⟩;refine⟨Z6 _ h1,first,gI,?_⟩;rcases m with m|⟨bt,e,ps,hTt,r⟩|⟨bt,h1',eo,e⟩
  ·exact .inl m
  ·exact .inr (.inl ⟨bt,e,Zr tl,ps,Z6 _ hTt,r⟩)
  ·exact .inr (.inr ⟨bt,h1',eo,fun _=>e,fun q=>absurd q (by decide)⟩)
 have lst:(es.toList.map (·.2)).length=es.size:=by rw[Z5,Za]
 by_cases bt:aN w=true
 ·show wpAny _ _ (if(!aN w&&_)=true then _ else _) _ _ _;rw[bt,Bool.not_true,Bool.false_and,if_neg (by decide)];refine Z2 (Z3 ?_);have pp:=(mT (w.params.setOrder S ep) es).map (·.2);exact fin (rawInt 0) s S _ ho ⟨s.drawn,s.heap,rfl⟩ (fun _ _ e=>e) slt (Zh _) (.inl rfl) pp (.inl ⟨bt,rfl,rfl⟩) (by rw[pp.length_eq,lst])
 ·have bf:aN w=false:=by simpa using bt
  show wpAny _ _ (if(!aN w&&(!t.plain&&decide (es.size>1)))=true then _ else _) _ _ _;by_cases h1:es.size>1
  ·rw[bf,hpl (by lia),Ze h1];simp only[Bool.not_false,Bool.and_self,↓reduceIte];refine Z2 (nO es.size (List.range es.size) _ _ (by simp) fun ps d pps=>Z2 ?_);refine wpAny_newTuple ?_ (by rw[Z5,pps.length_eq,Yb];exact fits_of_scanBound hb);have lt:∀p∈ps,p<es.size:=fun p q=>mem_range.mp (pps.mem_iff.mp q)
   have er:(List.range es.size).map (fun p=>((es[p]?).map (·.2)).getD .none)=es.toList.map (·.2):=by
    apply ext_getElem
    ·simp
    ·intro i q1 q2;simp at q1;simp[q1]
   have pp:(ps.map (fun p=>((es[p]?).map (·.2)).getD .none)).Perm (es.toList.map (·.2)):=by rw[<-er];exact pps.map _
   refine fin (.ref s.heap.objs.size) {s with heap:=_,drawn:=d} s.heap.objs.size (ps.map (fun p=>((es[p]?).map (·.2)).getD .none)) (Z6 _ ho) ⟨d,_,rfl⟩ (fun b o' e=>Z6 _ e) (by show _<(push _ _).objs.size;rw[Zp];exact Yg _) (by show _<=(push _ _).objs.size;rw[Zp];exact Y7 _) (.inr (Zh _)) pp
    (.inr (.inl ⟨bf,rfl,ps,Zi _ rfl,by rw[Z5],fun j p q=>?_⟩)) (by rw[pp.length_eq,lst])
   have hlt:=lt p (Z7 q);exact⟨es[p],by simp[hlt],by simp[q,hlt]⟩
  ·rw[bf,Zg h1];simp only[Bool.and_false,Zx,↓reduceIte];refine Z2 (Z3 ?_);exact fin (rawInt 0) s S _ ho ⟨s.drawn,s.heap,rfl⟩ (fun _ _ e=>e) slt (Zh _) (.inl rfl) (List.Perm.refl _) (.inr (.inr ⟨bf,by lia,rfl,rfl⟩)) lst
theorem iI(hh:A.handled=none)(ho0:s.heap.get? S=some o0)(hex0:o0.ExactSet)(hd0:o0.data= .set es0 ep0 t0)(hb0:es0.size<scanBound)(hf0:t0.fits es0.size=true)(hpl0:es0.size≠0->t0.plain=false)(hled0:t0.led=!aN w)
 (hQ:∀s' vs,vs.Perm (es0.toList.map (·.2))->(∀b o,s.heap.get? b=some o->s'.heap.get? b=some o)->s'.gens=s.gens->s'.os=s.os->s.heap.objs.size<=s'.heap.objs.size->Q vs s'):wpAny (model prog w) A (collect (.ref S)) Q E s:=by
 unfold collect;refine Z2 (wpAny_runValue (codeAny_builtin F.entry_proto_collect ?_));rw[Around.under_plainId F.plain_proto_collect _];show wpAny _ A.in1 (newList []>>= fun l=>again (.builtin "list.__iadd__" ⟨[l,.ref S],[]⟩)) _ _ s;refine Z2 (wpAny_newObj_type (Z3 ⟨plainId_quiet F.plain_list_iadd _,codeAny_builtin F.entry_list_iadd ?_⟩));rw[Around.under_plainId F.plain_list_iadd _];have slt:S<s.heap.objs.size:=Zt ho0;show wpAny _ A.in1 (Builtin.List.listExtendWith (.ref s.heap.objs.size) (.ref S) (.ref s.heap.objs.size)) _ _ _;unfold Builtin.List.listExtendWith
 generalize hG:s.heap.push {cls:= .type "list",data:= .seq ([]:List Value).toArray}=G
 have gS:G.get? S=some o0:=by rw[<-hG];exact Z6 _ ho0
 have gz:G.objs.size=s.heap.objs.size+1:=by rw[<-hG,Zp]
 have gL:G.get? s.heap.objs.size=some {cls:= .type "list",data:= .seq ([]:List Value).toArray}:=by rw[<-hG];exact Zi _ rfl
 have tS:Shared.TypeIs {s with heap:=G} (.ref S) "set":=⟨o0,gS,hex0.1⟩
 refine Z2 (wpAny_typeOf (T:="set") tS ?_);have n1:Builtin.List.listSameRef (.ref s.heap.objs.size) (.ref S)=false:=by
  show(s.heap.objs.size==S)=false;exact beq_eq_false_iff_ne.mpr (Yp slt)
 have n2:(Value.type "set"==Value.type "list")=false:=by decide
 have n3:(Value.type "set"==Value.type "tuple")=false:=by decide
 simp only[n1,n2,n3,Bool.or_false,Zx,if_false];refine Z2 (tW (s:={s with heap:=G}) gS hex0 hd0 hb0 hf0 hpl0 hled0 fun I T ord h1 d k1 hI hSI hTT hTl hIl hn st q1=>?_);replace k1:∀b o,G.get? b=some o->h1.get? b=some o:=k1;replace hI:G.objs.size<=I:=hI;have gS1:h1.get? S=some o0:=k1 _ _ gS;refine Z2 (wpAny_holding ?_);unfold Builtin.List.listLengthHint;have tS1:Shared.TypeIs {s with heap:=h1,drawn:=d} (.ref S) "set":=⟨o0,gS1,hex0.1⟩
 refine Z2 (wpAny_specialOf (T:="set") tS1 nP ?_)
 wp_delta
 refine Z2 (wpAny_isInstance (T:="set") (b:=true) tS1 (by rw[isSubtype_type];kernel_rfl) ?_);show wpAny _ A.in1 (typeOf (.ref S)>>= _) _ _ _;refine Z2 (wpAny_typeOf (T:="set") tS1 (Z3 ?_));rw[if_pos (by decide)];refine Z2 (wpAny_rule ?_);have gL1:h1.get? s.heap.objs.size=some {cls:= .type "list",data:= .seq ([]:List Value).toArray}:=k1 _ _ gL;refine Z2 ?_;unfold Builtin.List.listTouch;refine Z2 (listUpdate_at (s:={s with heap:=h1,drawn:=d}) gL1 rfl ?_ (X0 _) (by show 1<=sizeLine+1;lia));have gL2:=get?_update_self (Obj.mapSeq (·.push Value.none)) gL1 rfl;refine listUpdate_at (xs:= #[Value.none]) (n:=1) (s:={s with heap:=h1.update s.heap.objs.size (Obj.mapSeq (·.push Value.none)),drawn:=d}) gL2 rfl ?_ (by show 1<=sizeLine;decide) (by show 0<=sizeLine+1;lia);have gL3:=get?_update_self (Obj.mapSeq (·.pop)) gL2 rfl;have oth:∀b o,b≠s.heap.objs.size->h1.get? b=some o->((h1.update s.heap.objs.size (Obj.mapSeq (·.push Value.none))).update s.heap.objs.size (Obj.mapSeq (·.pop))).get? b=some o:=fun b o hb e=>(get?_update_other _ _ (Ne.symm hb)).trans ((get?_update_other _ _ (Ne.symm hb)).trans e)
 have neI:s.heap.objs.size≠I:=Zr (Zf (by rw[gz];exact Yg _) hI);have neT:s.heap.objs.size≠T:=by
  rcases hTT with e|e
  ·rw[e];exact Yp slt
  ·exact Zr (Zf (by show s.heap.objs.size<G.objs.size;rw[gz];exact Yg _) e)
 have nfp:s.heap.objs.size∉[I,S,T]:=by
  simp only[Yn,Yu,or_false,not_or];exact⟨neI,Yp slt,neT⟩
 have hbn:ord.length<=sizeLine:=by rw[hn];exact fits_of_scanBound hb0
 have W:=tV (prog:=prog) (A:=A.in1) (T:=T) (show A.in1.handled=none from hh) hd0 hf0 hled0 hSI hn;have st2:=W.frame 0 h1 ((h1.update s.heap.objs.size (Obj.mapSeq (·.push Value.none))).update s.heap.objs.size (Obj.mapSeq (·.pop))) st fun b hb o' e=>oth b o' (fun q=>nfp (q▸hb)) e
 refine Z3 ⟨plainId_quiet F.plain_extend_loop _,codeAny_extend_loopS W.toS hbn _ nfp _ ord.length 0 _ _ _ rfl (X0 _) st2 gL3 (ItemsOf.nil _) fun s5 acc c5 m5 gL5 hacc=>?_⟩;show wpAny _ A (load s.heap.objs.size>>= _) _ _ s5;refine Z2 (wpAny_load gL5 (Z3 ?_));have ea:acc.toList=ord:=by
  apply List.ext_getElem?;intro j;by_cases hj:j<ord.length
  ·have hj':j<acc.size:=by rw[hacc.1];exact hj
   have:=hacc.2 j acc[j] (by simp[hj']);rw[this];simp[hj']
  ·have l1:acc.toList.length=ord.length:=by rw[Za];exact hacc.1
   rw[X5 (l:=acc.toList) (by lia),X5 (l:=ord) (by lia)]
 rw[ea];refine hQ s5 ord q1 (fun b o' e=>?_) m5.gens m5.os (le_of_lt (Zt gL5));have blt:=Zt e;refine m5.heap b o' ?_ (oth b o' (Zr blt) (k1 b o' (by rw[<-hG];exact Z6 _ e)));simp only[Yn,Yu,or_false,not_or];exact⟨Zr blt,Zr (Zf blt (Y8 (by rw[gz];exact Y7 _) hI))⟩
theorem pD(hh:A.handled=none)(hS:aW w S ks s.heap)
 (hQ:∀s' vs ss,StrsAre vs ss->ss.Perm ks->(∀b o,s.heap.get? b=some o->s'.heap.get? b=some o)->s'.gens=s.gens->s'.os=s.os->s.heap.objs.size<=s'.heap.objs.size->Q vs s'):wpAny (model prog w) A (collect (.ref S)) Q E s:=by
 obtain⟨o,es,ep,t,ss,ho,hex,hd,hst,hp,hnd,hel,hb,hf,hpl,hled⟩:=hS;refine iI hh ho hex hd hb hf hpl hled fun s' vs pv k g os sz=>?_
 obtain⟨ts,r1,r2⟩:=bJ hst pv;exact hQ s' vs ts r1 (r2.trans hp) k g os sz
end
section
variable{X:Cx}{pins:List (Addr×Obj)}{σ:St}{H:Hp}{s s':Shared}
theorem Inv.keptS(I:Inv X pins σ H s)(k:∀b o,s.heap.get? b=some o->s'.heap.get? b=some o)(hg:s'.gens=s.gens)(ho:s'.os=s.os):Inv X pins σ H s':=by
 obtain⟨h',g',d',t',o'⟩:=s';replace hg:g'=s.gens:=hg;replace ho:o'=s.os:=ho;subst hg;subst ho;refine I.step (g':=s.gens) (d':=d') (ch:=[]) (fun b hb=>absurd hb (by simp)) (fun b o _ _ _ e _=>k b o e) (fun b o _ _ _ e _=>⟨o.slots,k b o e⟩) (fun _ _ _ _ n=>n) (fun b o _ e=>⟨o,k b o e⟩) (fun _ _ e=>e) (fun _ _ _ e=>e) (fun b ps e=>⟨#[],by rw[e];simp⟩) (fun m hm=>?_) (fun b v e=>?_) I.bare
 ·obtain⟨o,es,ep,ho,r⟩:=hm;exact⟨o,es,ep,k _ o ho,r⟩
 ·exact(I.hok b v e).stay (fun c' v' _ q=>k c' v' q) (fun _ q=>q) fun _ _ q=>q
theorem Inv.stoodS(I:Inv X pins σ H s)(J:Inv X pins σ H s')(ha:s.heap.objs.size<=a)(new:bh X.prog X.w (upd H a o) s'.heap a o):Inv X pins σ (upd H a o) s':=by
 have Hn:H a=none:=I.hok.fresh ha;have lt0:∀b o,X.s₀.heap.get? b=some o->b≠a:=fun b o e=>Zr (Zf (Zf (Zt e) I.sz) ha)
 refine⟨J.ok,J.os,J.bare,?_,J.loc,J.cell,?_,?_,?_,?_,J.len⟩
 ·refine⟨J.base.keep,J.base.slot,fun b o e n hx=>?_,J.base.there,fun b xs e=>?_,fun b o v e=>?_,fun b ps e=>?_⟩
  ·rw[ai (lt0 b o e)];exact J.base.free b o e n hx
  ·rw[ai (aq (J.base.tups b xs e) Hn)];exact J.base.tups b xs e
  ·rw[ai (aq (J.base.frzs b o v e) Hn)];exact J.base.frzs b o v e
  ·obtain⟨m,q⟩:=J.base.tbls b ps e;exact⟨m,by rw[ai (aq q Hn)];exact q⟩
 ·rw[ai (Zr (Zf I.lt ha))];exact J.free
 ·intro x' c' e;obtain⟨v',q⟩:=I.cell x' c' e;rw[ai (Zr (Zf q.lt ha))];exact J.freeC x' c' e
 ·intro p hp;obtain⟨e,n,r⟩:=J.pin p hp;refine⟨e,?_,r⟩;rw[ai (Zr (Zf (Zt (I.pin p hp).1) ha))];exact n
 ·intro b v e;by_cases hb:b=a
  ·subst hb;rw[aa]at e;cases e;exact new
  ·rw[ai hb]at e;refine(J.hok b v e).stay (fun _ _ _ q=>q) (fun c' q=>?_) fun c' xs q=>?_
   ·rw[ai (aq q Hn)];exact q
   ·rw[ai (aq q Hn)];exact q
end
section
variable{prog:Program}{w:World}{A:Around}{E:Value->Shared->Prop}{s:Shared}{S:Addr}
theorem qX(hh:A.handled=none)(hS:aW w S ks s.heap)(h64:ks.length<64)
 (hQ:∀(s':Shared) (l:Addr) (vs:List Value) (ss:List Str) (n:Nat),StrsAre vs ss->ss.Perm ks->sortedS ss=true->(∀b o,s.heap.get? b=some o->s'.heap.get? b=some o)->s'.gens=s.gens->s'.os=s.os->s.heap.objs.size<=l->s'.heap.get? l=some {cls:= .type "list",data:= .seq vs.toArray n}->Q (.ref l) s'):
 wpAny (model prog w) A (call (.builtin "sorted") [.ref S]) Q E s:=by
 refine Calls.call_function_entry kind_sorted plain_sorted entry_sorted (args_sorted1 _) ?_;unfold Builtin.«sorted»;refine Z2 (m:=checkCount "sorted" 1 1 _) (Z3 ?_);refine Z2 (pD (show A.in1.handled=none from hh) hS fun s1 vs ss q1 q2 k1 g1 o1 sle=>?_);have hl:vs.length<64:=by rw[bp q1,q2.length_eq];exact h64
 refine Z2 (wpAny_newList ?_ (by rw[sizeLine_eq];lia));have gL:(s1.heap.push (seqObj "list" vs.toArray 0)).get? s1.heap.objs.size=some (seqObj "list" vs.toArray 0):=Zi _ rfl;refine Z2 (wpAny_holding (wpAny_call_entry slot_list_sort ⟨_,gL,rfl⟩ entry_list_sort (list_sort_treeK (s:={s1 with heap:=s1.heap.push (seqObj "list" vs.toArray 0)}) strKind_oneLt gL q1.keysOf (fun v₁ v₂ rest e=>keyKind_strs (by rw[<-e];exact q1)) hl fun st' hp hs=>⟨_,rfl,?_⟩) (args_list_sort _)));obtain⟨ts,r1,r2,r3⟩:=sorted_out_str q1 hp hs;obtain⟨n,gl⟩:∃n,(sortedHeap (s1.heap.push (seqObj "list" vs.toArray 0)) s1.heap.objs.size vs ((arrOf st').map (·.2))).get? s1.heap.objs.size=some (seqObj "list" ((arrOf st').map (·.2)) n):=sortedHeap_at gL;refine Z3 ⟨_,rfl,hQ _ s1.heap.objs.size ((arrOf st').map (·.2)).toList ts n r1 (r2.trans q2) r3 (fun b o' e=>?_) g1 o1 sle ?_⟩
 rotate_left
 ·show _=some (seqObj "list" ((arrOf st').map (·.2)).toList.toArray n);rw[Yz];exact gl
 have e1:=k1 b o' e;have blt:=Zt e1;show(sortedHeap _ _ _ _).get? b=_;rw[sortedHeap_old (Zr blt) (by rw[Zp];exact Yf blt)];exact Z6 _ e1
end
section
variable{X:Cx}{K:PySem.W.Frag}
theorem nQ(hc:X.calm=true):bN X (.builtin "sorted") (fun xs H Q=>∃a ks,xs=[.ref a]/\H a=some (eZ X.w a ks)/\ks.length<64/\∀l ss,H l=none->ss.Perm ks->sortedS ss=true->Q (.ref l) (upd H l (.lst (ss.map V.str)))):=by
 intro pins s σ H xs us Q I r h;obtain⟨a,ks,rfl,ha,hl,q⟩:=h;obtain⟨u,rfl,ru⟩:=df r;cases ru;obtain⟨S,_,_⟩:=(show bh X.prog X.w H s.heap a (eZ X.w a ks)from I.hok a _ ha)
 refine qX (I.ok.hd hc) S hl fun s' l vs ss n r1 r2 r3 k g o hle gl=>?_
 have hfree:H l=none:=I.hok.fresh hle;have J:Inv X pins σ H s':=I.keptS k g o;refine⟨.ref l,_,I.stoodS (o:= .lst (ss.map V.str)) J hle ⟨?_,vs,n,mP r1,gl⟩,rfl,q l ss hfree r2 r3⟩;rw[Z5,r2.length_eq,sizeLine_eq]
 lia
theorem mW(h:X.w=w)(hc:X.calm=true):cy X (.builtin "sorted") (fun xs H Q=>∃a ks,xs=[.ref a]/\H a=some (eZ w a ks)/\ks.length<64/\∀l ss,H l=none->ss.Perm ks->sortedS ss=true->Q (.ref l) (upd H l (.lst (ss.map V.str)))):=by subst h;exact⟨nQ hc⟩
end
theorem aj{D:jb}(h:∀D':jb,(∀σ' H',u D σ' H'->D'.nx σ' H')->(∀v H',D.rt v H'->D'.rt v H')->t D' σ H):bg t u D σ H:=h _ (fun _ _ x=>x) fun _ _ x=>x
theorem aB{t:TS}{D:jb}(h:∀D':jb,(∀σ' H',D.nx σ' H'->D'.nx σ' H')->(∀v H',D.rt v H'->D'.rt v H')->t D' σ H):t D σ H:=h _ (fun _ _ x=>x) fun _ _ x=>x
theorem iJ{K:PySem.W.Frag}{xs:List V}{g:TG}{tb:TS}{D:jb}(Pv:Nat->St->Hp->Prop)(h0:Pv 0 σ H)(hl:∀i σ H,i<=xs.length->Pv i σ H->SqL K H a xs)
 (hs:∀i x T σ H,xs[i]? =some x->Pv i σ H->H T=none->g (.ref T) σ (upd H T (.tup [.int i,x])) fun σ2 H2=>tb {D with nx:=Pv (i+1),ct:=Pv (i+1),bk:=D.nx} σ2 H2) (hd:∀σ H,Pv xs.length σ H->D.nx σ H):
 ∃W:Nat->Nat->St->Hp->Prop,(∃m,W 0 m σ H)/\∀i m σ H,W i m σ H->
  ((Ite K a xs).stop i H/\D.nx σ H)\/((Ite K a xs).go i H/\∃N:St->Hp->Prop,(∀σ' H',N σ' H'->∃m',m'<m/\W (i+1) m' σ' H')/\∀x H',(Ite K a xs).yld i H x H'->g x σ H' fun σ2 H2=>tb {D with nx:=N,ct:=N,bk:=D.nx} σ2 H2):=by
 refine⟨fun i m σ H=>m=xs.length-i/\i<=xs.length/\Pv i σ H,⟨xs.length,by simp,X0 _,h0⟩,?_⟩;rintro i m σ H ⟨rfl,hi,p⟩;have q:=hl i σ H hi p;by_cases lt:i<xs.length
 ·refine .inr ⟨⟨q,lt⟩,Pv (i+1),fun σ' H' p'=>⟨xs.length-(i+1),by lia,rfl,lt,p'⟩,fun v H' y=>?_⟩;obtain⟨x,T,e,hT,rfl,rfl⟩:=y;exact hs i x T σ _ e p hT
 ·have e:i=xs.length:=by lia
  subst e;exact .inl ⟨⟨q,Zh _⟩,hd σ H p⟩
section
variable{X:Cx}{K:PySem.W.Frag}{pos:Pos}{a b:Expr}{ta tb:TE}
theorem ce:OpQ X (binaryOp .Add) (rI0 fun i j=> .int (i+j)):=⟨vx⟩
theorem eJ:OpQ X (binaryOp .Mult) (rI vw fun i j=> .int (i*j)):=⟨vy⟩
theorem dj(h:X.K=K)(hs:kl b)(ha:QE X a ta)(hb:QE X b tb):QE X (.Subscript a b pos) (tOp (Au K) ta tb):=by subst h;exact⟨vT yl ha.h hb.h hs⟩
theorem ixSE(hs:kl b)(ha:QE X a ta)(hb:QE X b tb):QE X (.Subscript a b pos) (tOp Aw ta tb):=⟨vT Ay ha.h hb.h hs⟩
end
end L2
namespace Cut
open PySem L2 PyProof.Rows
noncomputable def e8:Str:="abcdefghijklmnopqrstuvwxyz"
noncomputable def fV(c:Nat):Bool:=decide (c∈e8.cps.toList)
noncomputable def okc(c:Nat):Bool:=decide (c=46)||fV c
noncomputable def nl:Str:="\n"
theorem B5:nl=⟨#[10]⟩:=rfl
theorem tX:fV c=true↔97<=c/\c<=122:=by
 have e:e8.cps.toList=(List.range 26).map (·+97):=by decide +kernel
 unfold fV;rw[decide_eq_true_iff,e,mem_map]
 constructor
 ·rintro⟨i,h,rfl⟩;have:=mem_range.mp h
  lia
 ·rintro⟨h1,h2⟩;exact⟨c-97,mem_range.mpr (by lia),by lia⟩
theorem AX(h:okc c=true):c≠10:=by
 intro e;subst e
 revert h
 decide +kernel
structure bW (rows:List Str):Prop where
 pos:1<=rows.length
 high:rows.length<=40
 wide:∃wd,1<=wd/\wd<=40/\∀r∈rows,r.cps.size=wd
 sign:∀r∈rows,r.cps.toList.all okc=true
 fall:∀(i:Nat) (r r':Str),rows[i]? =some r->rows[i+1]? =some r'->∀(j c c':Nat),r.cps[j]? =some c->r'.cps[j]? =some c'->c'=46->c=46
 some':∃r∈rows,∃c∈r.cps.toList,c≠46
theorem gC{x y:Str}(h:x.cps.toList=y.cps.toList):x=y:=by
 obtain⟨⟨l⟩⟩:=x;obtain⟨⟨m⟩⟩:=y;simp at h;rw[h]
theorem eP(sep x y:Str)(r:List Str):(Str.join sep (x::y::r)).cps.toList=x.cps.toList++sep.cps.toList++(Str.join sep (y::r)).cps.toList:=by
 show((x.cps++sep.cps) ++(Str.join sep (y::r)).cps).toList=_;rw[toList_append,toList_append]
theorem ww [DecidableEq α]:∀{a b x y:List α},c∉a->c∉b->a++c::x=b++c::y->a=b/\x=y
 |[],[],_,_,_,_,h=>⟨rfl,(List.cons.inj h).2⟩
 |[],b::bs,_,_,_,hb,h=>absurd (by rw[<-(List.cons.inj h).1];exact Zl) hb
 | a::as,[],_,_,ha,_,h=>absurd (by rw[(List.cons.inj h).1];exact Zl) ha
 | a::as,b::bs,x,y,ha,hb,h=>by
   obtain⟨h1,h2⟩:=List.cons.inj h;obtain⟨e1,e2⟩:=ww (fun q=>ha (Zj _ q)) (fun q=>hb (Zj _ q)) h2;exact⟨by rw[h1,e1],e2⟩
theorem pE{c:Nat}:∀{ps qs:List Str},ps≠[]->qs≠[]->(∀p∈ps,c∉p.cps.toList)->(∀q∈qs,c∉q.cps.toList)->(Str.join ⟨#[c]⟩ ps).cps.toList=(Str.join ⟨#[c]⟩ qs).cps.toList->ps=qs
 |[],_,h,_,_,_,_=>absurd rfl h
 | _,[],_,h,_,_,_=>absurd rfl h
 |[p],[q],_,_,_,_,e=>by rw[gC (show p.cps.toList=q.cps.toList from e)]
 |[p],q::q2::qs,_,_,hp,_,e=>by
  rw[eP]at e;refine absurd ?_ (hp p Zl);rw[show p.cps.toList=(Str.join ⟨#[c]⟩ [p]).cps.toList from rfl,e];simp
 | p::p2::ps,[q],_,_,_,hq,e=>by
   rw[eP]at e;refine absurd ?_ (hq q Zl);rw[show q.cps.toList=(Str.join ⟨#[c]⟩ [q]).cps.toList from rfl,<-e];simp
 | p::p2::ps,q::q2::qs,_,_,hp,hq,e=>by
   rw[eP,eP,Zd,Zd]at e;obtain⟨e1,e2⟩:=ww (c:=c) (hp p Zl) (hq q Zl) e;rw[gC e1,pE (by simp) (by simp) (fun x hx=>hp x (Zj _ hx)) (fun x hx=>hq x (Zj _ hx)) e2]
theorem qY(h0:rows≠[])(h:∀r∈rows,10∉r.cps.toList):Txt.split (Str.join nl rows) nl=rows:=by
 have e:=StrLaws.join_split (Str.join nl rows) nl;rw[B5]at e ⊢;refine pE (c:=10) ?_ h0 (StrLaws.split_free _ 10) h (by rw[e]);intro q;have:=split_pos (Str.join ⟨#[10]⟩ rows) ⟨#[10]⟩;rw[q]at this;simp at this
theorem bW.nonl(h:bW rows):∀r∈rows,10∉r.cps.toList:=fun r hr hm=>by
 have:=all_eq_true.mp (h.sign r hr) 10 hm;exact AX this rfl
theorem bW.split(h:bW rows):Txt.split (Str.join nl rows) nl=rows:=
 qY (fun e=>by have:=h.pos;rw[e]at this;simp at this) h.nonl
theorem nR:∀{xs:List α},(∀x∈xs,f x<=B)->(xs.map f).sum<=xs.length*B
 |[],_=>by simp
 | x::r,h=>by
   have h1:=nR fun y hy=>h y (Zj _ hy)
   have h2:=h x Zl;rw[Yi,List.sum_cons,Zq,Nat.succ_mul]
   lia
theorem bW.sum(h:bW rows):(rows.map (·.length)).sum<=1600:=by
 obtain⟨wd,_,w2,h3⟩:=h.wide;have:=nR (f:=fun r:Str=>r.length) (B:=40) (xs:=rows) fun r hr=>by have:=h3 r hr;show r.cps.size<=40;lia
 have:=h.high;have h5:rows.length*40<=40*40:=Nat.mul_le_mul_right _ this
 lia
theorem bW.text(h:bW rows):(Str.join nl rows).length<=2000:=by
 have h1:=StrLaws.join_length_le nl rows;have h2:=h.sum;have h3:=h.high;have h4:nl.length=1:=rfl;rw[h4]at h1
 lia
noncomputable def sgn(c:Nat):Str:=⟨#[c]⟩
theorem kW{cs:List Nat}(h:∀c∈cs,fV c=true):(az (cs.map sgn)).length<=26:=by
 have hs:∀x∈az (cs.map sgn),x∈e8.cps.toList.map sgn:=fun x hx=>by
  obtain⟨c,hc,e⟩:=X9 (bn.mp hx);exact Xa ⟨c,Zn (h c hc),e⟩
 have:=List.Nodup.length_le_of_subset (dQ (cs.map sgn)) hs;rw[Z5]at this;have e:e8.cps.toList.length=26:=by decide +kernel
 lia
noncomputable def bZ(rows:List Str):List Nat:=(Str.join (Str.ofString "") rows).cps.toList.filter (fun c=>decide (c≠46))
theorem pF:∀(rows:List Str),(Str.join (Str.ofString "") rows).cps.toList=(rows.map (·.cps.toList)).flatten
 |[]=>rfl
 |[x]=>by simp[Str.join]
 | x::y::r=>by
   have e:(Str.ofString "").cps.toList=[]:=rfl;rw[eP,pF (y::r),e,Zw];simp
theorem mX(h:∀r∈rows,r.cps.toList.all okc=true):∀c∈bZ rows,fV c=true:=fun c hc=>by
 unfold bZ at hc;rw[List.mem_filter,pF]at hc;obtain⟨h1,h2⟩:=hc;obtain⟨l,hl,hm⟩:=List.mem_flatten.mp h1;obtain⟨r,hr,rfl⟩:=X9 hl;have:=all_eq_true.mp (h r hr) c hm;unfold okc at this;rw[or_eq_true]at this;rcases this with q|q
 ·exact absurd (Zn q) (Zn h2)
 ·exact q
theorem bW.signs_ne(h:bW rows):bZ rows≠[]:=by
 obtain⟨r,hr,c,hc,hne⟩:=h.some';intro e;have:c∈bZ rows:=by
  unfold bZ;rw[List.mem_filter,pF];exact⟨List.mem_flatten.mpr ⟨_,Xa ⟨r,hr,rfl⟩,hc⟩,Ze hne⟩
 rw[e]at this;cases this
noncomputable def nS(z:Str):Bool:=(decide (1<=(z.length:Int))&&decide ((z.length:Int)<=40))&&z.cps.toList.all okc
noncomputable def dR(row above:Str):Bool:=decide (row.length=above.length)&&(List.zip above.cps.toList row.cps.toList).all fun p=>!decide (p.2=46)||decide (p.1=46)
theorem bW.row(h:bW rows)(hr:r∈rows):nS r=true:=by
 obtain⟨wd,w1,w2,h3⟩:=h.wide;have e:r.length=wd:=h3 r hr;unfold nS;rw[h.sign r hr,e,Ze (by lia),Ze (by lia)];rfl
theorem bW.beneath(h:bW rows)(h1:rows[i]? =some r)(h2:rows[i+1]? =some r'):dR r' r=true:=by
 obtain⟨wd,w1,w2,h3⟩:=h.wide;have e1:r.length=wd:=h3 r (Z7 h1);have e2:r'.length=wd:=h3 r' (Z7 h2);unfold dR;rw[Ze (e2.trans e1.symm),Bool.true_and,all_eq_true];intro p hp;obtain⟨j,hj⟩:=X1 hp;rw[List.getElem?_zip_eq_some]at hj;have g1:r.cps[j]? =some p.1:=by simpa using hj.1
 have g2:r'.cps[j]? =some p.2:=by simpa using hj.2
 have:=h.fall i r r' h1 h2 j p.1 p.2 g1 g2;by_cases q:p.2=46
 ·rw[Ze (this q),Bool.or_true]
 ·rw[Zg q];rfl
theorem qZ(cs:List Nat):(Str.join (Str.ofString "") (cs.map sgn))=⟨cs.toArray⟩:=by
 refine gC ?_;rw[pF,Yj];show((cs.map (fun c=>[c])).flatten)=cs
 induction cs with
 | nil=>rfl
 | cons c r ih=>rw[Yi,flatten_cons,ih];rfl
theorem sr:∀cs:List Nat,((cs.map sgn).map (fun x=>x.length)).sum=cs.length
 |[]=>rfl
 | c::r=>by
   rw[Yi,Yi,List.sum_cons,sr r,Zq];show 1+r.length=r.length+1
   lia
end Cut
namespace Cut
open PySem L2
end Cut
namespace L2
open PySem PySem.Spec PyProof.Rows
def Up(B:Heap)(l:List Env)(e:Addr)(cls:Value)(dct:Option Addr)(fl:Option Value)(h:Heap):Prop:=
 B.StaysIn h/\B.get? e=none/\h.FunFrames B l/\∃oe vs,h.get? e=some oe/\oe.cls=cls/\oe.dict=dct/\oe.data= .fields vs/\1<vs.size/\
  match fl with
  | none=>vs[1]? =some .none
  | some f=>∃T oT ts,vs[1]? =some (.ref T)/\B.get? T=none/\T≠e/\h.get? T=some oT/\oT.data= .fields ts/\ts[3]? =some f
section
variable{M:Model}{A:Around}{E:Value->Shared->Prop}{s:Shared}{B:Heap}{env:Env}{outer:List Env}{L e:Addr}{cls:Value}{dct:Option Addr}{Q:Unit->Shared->Prop}
end
section
variable{P:Program}{w:World}{H:Hp}{h:Heap}{a:Addr}{o:HO}
end
section
variable{P:Program}{w:World}{l:List Env}{H H':Hp}{s s':Shared}{ea:Addr}{B h':Heap}{cls:Value}{dx:Option Addr}{fl fl':Option Value}
end
section
variable{P:Program}{w:World}{K:PySem.W.Frag}{mg:Str->Option Value}{base:Heap}{N:List Str}{qual:Str}{scope:Scope}{f:Addr}{cd:Value}{A:Around}{outer:List Env}{s₀:Shared}{H₀:Hp}{E:XK}
end
section
variable{prog:Program}{w:World}{A:Around}{E:Value->Shared->Prop}{h:Heap}{g:Array GenState}{d:Drawn}{t:Nat}{os:OsState}
variable{nm q:Str}{C N:Addr}{bs bm bmB:List Value}{hdct:Bool}{sn:List Str}{sub:List Value}{ab:Bool}{col:Option Bool}{dd:Option Addr}{k0 k1 k2 k3 k5:Option Value}{B newId initId:String}
end
section
variable{prog:Program}{w:World}{A:Around}{E:Value->Shared->Prop}{s:Shared}{K:PySem.W.Frag}{x C:Addr}{name:Str}{v:Value}{ox:Obj}{od:Option Obj}
end
section
variable{X:Cx}{C f:Addr}
end
section
variable{X:Cx}{pins:List (Addr×Obj)}{σ:St}{H:Hp}{s s':Shared}
end
section
variable{X:Cx}{C D f:Addr}{x nm:Str}{p pos pos' apos:Pos}{e o value:Expr}{es:List Expr}{t:TA}{ta tv:TE}{r:List V->Hp->VK->Prop}
end
def AY(te:TE):TE:=fun σ H Q=>te σ H fun v H1=>(∃i:Int,v= .int i/\i.natAbs<2^64/\Q (.str (toString i)) H1)\/∃y:Str,v= .str y/\y.length<=sizeLine/\Q (.str y) H1
def kX:List TE->Str->TE
 |[],out=>fun σ H Q=>out.length<=sizeLine/\Q (.str out) H
 | t::ts,out=>fun σ H Q=>t σ H fun v H1=>∃y:Str,v= .str y/\(out++y).length<=sizeLine/\kX ts (out++y) σ H1 Q
inductive PJ (X:Cx):List Expr->List TE->Prop
 | nil:PJ X [] []
 | cons {e:Expr} {es:List Expr} {t:TE} {ts:List TE}:PE X e t->PJ X es ts->PJ X (e::es) (t::ts)
section
variable{X:Cx}{e v1 v2:Expr}{rest:List Expr}{te t1 t2:TE}{ts:List TE}{pos:Pos}
theorem AZ(he:PE X e te):PE X (.FormattedValue e (-1) none pos) (AY te):=by
 intro pins s σ H Q I h;refine FormattedValue_plain (thn (he pins s σ H _ I h) fun u s1 ⟨v,H1,I1,r,q⟩=>?_);rcases q with⟨i,rfl,hi,q⟩|⟨y,rfl,hy,q⟩
 ·obtain⟨t,rfl⟩:=(show∃t,u=Value.int i t from r)
  have hl:i.natAbs.log2<1920:=by
   by_cases z:i.natAbs=0
   ·rw[z];decide
   ·exact(Nat.log2_lt z).mpr (Zf hi (Nat.pow_le_pow_right (by decide) (by decide)))
  exact formatField_int_small hl ⟨V.str (toString i),H1,I1.tok _,⟨_,rfl⟩,q⟩
 ·obtain⟨t,rfl⟩:=(show∃t,u=Value.str y t from r)
  exact formatField_str (fun t' tk=>⟨.str y,H1,I1.tok _,⟨_,rfl⟩,q⟩) hy
theorem wx(h:PJ X es ts):∀(out:Str) (pins:List (Addr×Obj)) (s:Shared) (σ:St) (H:Hp) (Q:VK),Inv X pins σ H s->kX ts out σ H Q->
 wpAny (model X.prog X.w) X.A (joinParts out (evalEach es X.env)) (EP X pins σ Q) X.xe s:=by
 induction h with
 | nil=>exact fun out pins s σ H Q I ⟨hz,q⟩=>joinParts_nil ⟨.str out,H,I.tok _,⟨_,rfl⟩,q⟩ hz
 | cons he _ ih=>
   intro out pins s σ H Q I q;refine joinParts_cons (thn (he pins s σ H _ I q) fun u s1 ⟨v,H1,I1,r,y,ev,hz,q1⟩=>?_);subst ev;obtain⟨t,rfl⟩:=(show∃t,u=Value.str y t from r)
   exact⟨hz,ih _ pins s1 σ H1 Q I1 q1⟩
theorem yN(h:PJ X (v1::v2::rest) ts):PE X (.JoinedStr (v1::v2::rest) pos) (kX ts Str.empty):=fun pins s σ H Q I q=>
 JoinedStr_many (wx h _ pins s σ H Q I q)
end
section
variable{X:Cx}{k:Nat}{f C:Addr}{fd:FuncData}{ps:List Str}{sp:Sp}{x:Str}{p pos cpos:Pos}{e:Expr}{es:List Expr}{te:TE}{t:TA}
end
noncomputable def drop(H:Hp)(a:Addr):Hp:=fun b=>if b=a then none else H b
theorem tY:drop H a a=none:=by unfold drop;rw[if_pos rfl]
theorem gE(h:b≠a):drop H a b=H b:=by unfold drop;rw[if_neg h]
section
variable{X:Cx}{pins:List (Addr×Obj)}{σ:St}{H:Hp}{s s':Shared}
end
section
variable{M:Model}{A:Around}{E:Value->Shared->Prop}{s:Shared}{K:PySem.W.Frag}{D C e:Addr}{oe:Obj}{b:Bool}{Q:Bool->Shared->Prop}
end
section
variable{X:Cx}{pins pins' pn:List (Addr×Obj)}{σ:St}{H:Hp}{s:Shared}{E:Value->Shared->Prop}
end
section
variable{prog:Program}{w:World}{A:Around}{E:Value->Shared->Prop}{s:Shared}{K:PySem.W.Frag}{x C:Addr}{name:Str}{v:Value}{ox:Obj}{od:Option Obj}
end
section
variable{prog:Program}{w:World}{A:Around}{E:Value->Shared->Prop}{s:Shared}{K:PySem.W.Frag}{x C:Addr}{ox:Obj}{od:Option Obj}
end
section
variable{X:Cx}{pins:List (Addr×Obj)}{σ:St}{H:Hp}{s:Shared}
end
noncomputable def b8(mg:Str->Option Value)(x:Str):Addr:=match mg x with
 | some (.ref C)=>C
 | _=>0
theorem yO(h:mg x=some (.ref C)):b8 mg x=C:=by unfold b8;rw[h]
section
variable{P:Program}{w:World}{K:PySem.W.Frag}{mg:Str->Option Value}{base:Heap}{x qual:Str}{st:Stmt}{N ps:List Str}{k:Nat}{sp:Sp}
end
section
variable{X:Cx}{K:PySem.W.Frag}{pos:Pos}
theorem A0(he:QE X e te):QE X (.FormattedValue e (-1) none pos) (AY te):=⟨AZ he.h⟩
theorem zI:PJ X [] []:= .nil
theorem pjE(he:QE X e t)(h:PJ X es ts):PJ X (e::es) (t::ts):= .cons he.h h
theorem zJ{rest:List Expr}(h:PJ X (v1::v2::rest) ts):QE X (.JoinedStr (v1::v2::rest) pos) (kX ts Str.empty):=⟨yN h⟩
end
section
variable{prog:Program}{w:World}{A:Around}{E:Value->Shared->Prop}{s:Shared}
end
section
variable{prog:Program}{w:World}{A:Around}{E:Value->Shared->Prop}{s:Shared}
end
section
variable{prog:Program}{w:World}{A:Around}{E:Value->Shared->Prop}{s:Shared}
end
section
variable{prog:Program}{w:World}{A:Around}{E:Value->Shared->Prop}{s:Shared}
end
def clo(te:TE):TE:=fun σ H Q=>∃Q0:VK,te σ H Q0/\∀v H1,Q0 v H1->Q v H1
theorem A1{X:Cx}(h:PE X e te):PE X e (clo te):=fun pins s σ H Q I ⟨Q0,q,k⟩=>
 thn (h pins s σ H Q0 I q) fun _ _ ⟨v,H1,I1,r,z⟩=>⟨v,H1,I1,r,k v H1 z⟩
theorem A2{X:Cx}(h:PE X e t)(k:∀σ H Q,t' σ H Q->t σ H Q):PE X e t':=fun pins s σ H Q I q=>h pins s σ H Q I (k σ H Q q)
theorem wz(h:H r=none):drop (upd H r o) r=H:=by
 funext b;unfold drop upd
 split
 ·rename_i e;rw[e,h]
 ·rfl
section
variable{X:Cx}{K:PySem.W.Frag}{pos:Pos}
end
end L2
namespace SBig
open PySem PyProof.Rows
section
variable(prog:Program)(w:World)(A:Around)(SI:Shared->Prop)
def SC{α:Type}(m:StateT SortSt Sem α)(Q:α->SortSt->Prop)(st:SortSt):Prop:=
 ∀s,SI s->wpAny (model prog w) A (m.run st) (fun r s'=>SI s'/\Q r.1 r.2) (fun _ _=>False) s
def Cmp(κ:SortKind)(D:Keyed->Prop)(N:Keyed->Nat):Prop:=
 ∀x y s,D x->D y->SI s->wpAny (model prog w) A (keyLt' κ x.1 y.1) (fun b s'=>b=decide (N x<N y)/\SI s') (fun _ _=>False) s
end
section
variable{prog:Program}{w:World}{A:Around}{SI:Shared->Prop}{α β:Type}
theorem ax{st:SortSt}(h:Q a st):(SC prog w A SI) (pure a) Q st:=fun s hs=>by
 rw[StateT.run_pure];exact Z3 ⟨hs,h⟩
theorem ar{st:SortSt}(h:(SC prog w A SI) m (fun a st'=>(SC prog w A SI) (f a) Q st') st):(SC prog w A SI) (m>>= f) Q st:=fun s hs=>by
 rw[StateT.run_bind];exact Z2 (wpAny_mono (h s hs) (fun r s' h'=>h'.2 s' h'.1) fun _ _ e=>e)
theorem cj{st:SortSt}(h:(SC prog w A SI) m Q st)(hq:∀a st',Q a st'->Q' a st'):(SC prog w A SI) m Q' st:=fun s hs=>
 wpAny_mono (h s hs) (fun r s' h'=>⟨h'.1,hq _ _ h'.2⟩) fun _ _ e=>e
theorem jr{st:SortSt}(h:Q st st):(SC prog w A SI) get Q st:=fun s hs=>by
 rw[StateT.run_get];exact Z3 ⟨hs,h⟩
theorem gF{st:SortSt}(h:Q ⟨⟩ (f st)):(SC prog w A SI) (modify f) Q st:=fun s hs=>by
 rw[StateT.run_modify];exact Z3 ⟨hs,h⟩
theorem sw{st:SortSt}(h:∀s,SI s->wpAny (model prog w) A m (fun a s'=>SI s'/\Q a st) (fun _ _=>False) s):(SC prog w A SI) (liftM m:StateT SortSt Sem α) Q st:=fun s hs=>by
 show wpAny _ _ ((StateT.lift m:StateT SortSt Sem α).run st) _ _ s;rw[StateT.run_lift];exact Z2 (wpAny_mono (h s hs) (fun a s' h'=>Z3 h') fun _ _ e=>e)
theorem nT{st:SortSt}(h:Q () st):(SC prog w A SI) (liftM (rule t):StateT SortSt Sem Unit) Q st:=sw fun s hs=>wpAny_rule ⟨hs,h⟩
theorem bX{st:SortSt}(I:Nat->β->SortSt->Prop)(hab:a<=b)(h0:I a c st)
 (hs:∀i x st,a<=i->i<b->I i x st->(SC prog w A SI) (f i x) (fun r st'=>match r with| .done y=>Q y st'| .yield y=>I (i+1) y st') st) (he:∀x st,I b x st->Q x st):(SC prog w A SI) (forIn [a:b] c f) Q st:=by
 rw[Std.Legacy.Range.forIn_eq_forIn_range'];have hsz:([a:b]:Std.Legacy.Range).size=b-a:=by simp[Std.Legacy.Range.size]
 show(SC prog w A SI) (forIn (List.range' a ([a:b]:Std.Legacy.Range).size 1) c f) Q st;rw[hsz];have go:∀(d i:Nat) (x:β) (st:SortSt),i+d=b->a<=i->I i x st->(SC prog w A SI) (forIn (List.range' i d 1) x f) Q st:=by
  intro d
  induction d with
  | zero=>
    intro i x st e _ hI;have e:i=b:=by lia
    subst e;rw[List.range'_zero,forIn_nil];exact ax (he x st hI)
  | succ d ih=>
    intro i x st e ha hI;rw[List.range'_succ,forIn_cons];refine ar (cj (hs i x st ha (by lia) hI) fun r st' h'=>?_);cases r with
    | done y=>exact ax h'
    | yield y=>exact ih (i+1) y st' (by lia) (by lia) h'
 exact go (b-a) a c st (by lia) (Zh _) h0
theorem sA{st:SortSt}(hx:xs[i]? =some x)(h:Q x st):(SC prog w A SI) (elem' xs i) Q st:=by
 rw[elem'_eq,hx];exact ax h
theorem B6{st:SortSt}(c:Cmp prog w A SI (kindOf st) D N)(hx:D x)(hy:D y)(h:Q (some (decide (N x<N y))) st):(SC prog w A SI) (lt' x y) Q st:=by
 rw[lt'_eq];refine ar (jr ?_);refine ar (sw (fun s hs=>wpAny_attempt (wpAny_mono (c x y s hx hy hs) (fun b s' ⟨hb,hs'⟩=>?_) fun _ _ e=>e.elim)));subst hb;exact⟨hs',ax h⟩
theorem yP{st:SortSt}(c:Cmp prog w A SI (kindOf st) D N)(hi:(arrOf st)[i]? =some x)(hj:(arrOf st)[j]? =some y)(hx:D x)(hy:D y)
 (h:Q (some (decide (N x<N y))) st):(SC prog w A SI) (ltAt' i j) Q st:=by
 rw[ltAt'_eq];refine ar (jr ?_);exact ar (sA hi (ar (sA hj (B6 c hx hy h))))
end
end SBig
namespace SBig
open PySem PyProof.Rows
section
variable{prog:Program}{w:World}{A:Around}{SI:Shared->Prop}{α β:Type}
noncomputable def ahead(N:Keyed->Nat)(left:Bool)(key x:Keyed):Bool:=if left then decide (N x<N key)else !decide (N key<N x)
end
end SBig
namespace SBig
open PySem PyProof.Rows
def Srt(N:Keyed->Nat)(l:List Keyed):Prop:=l.Pairwise fun x y=>N x<=N y
end SBig
namespace SBig
open PySem PyProof.Rows
section
variable{prog:Program}{w:World}{A:Around}{SI:Shared->Prop}{α β:Type}
theorem sB{a:Array Keyed}{i:Nat}(h:i<a.size):a[i]? =some a[i]/\a.toList[i]? =some a[i]:=⟨by simp[h],by simp[h]⟩
end
end SBig
namespace SBig
open PySem PyProof.Rows
section
variable{prog:Program}{w:World}{A:Around}{SI:Shared->Prop}{α β:Type}
end
end SBig
namespace SBig
open PySem PyProof.Rows
section
variable{prog:Program}{w:World}{A:Around}{SI:Shared->Prop}{α β:Type}
end
end SBig
namespace SBig
open PySem PyProof.Rows
noncomputable def ky(N:Keyed->Nat)(a:Array Keyed)(i:Nat):Nat:=N (a.getD i (Value.none,Value.none))
theorem wA(h:a[i]? =some x):ky N a i=N x:=by
 unfold ky;rw[Array.getD_eq_getD_getElem?,h];rfl
theorem pG(h:a[i]? =b[j]?):ky N a i=ky N b j:=by
 unfold ky;rw[Array.getD_eq_getD_getElem?,Array.getD_eq_getD_getElem?,h]
structure CR (st0 st:SortSt) (lo:Nat):Prop where
 kind:kindOf st=kindOf st0
 pend:pendingOf st=pendingOf st0
 fail:failedOf st=failedOf st0
 perm:(arrOf st).Perm (arrOf st0)
 same:∀i,i<lo->(arrOf st)[i]? =(arrOf st0)[i]?
theorem CR.refl(st:SortSt)(lo:Nat):CR st st lo:=⟨rfl,rfl,rfl,Array.Perm.refl _,fun _ _=>rfl⟩
theorem CR.size{st0 st:SortSt}{lo:Nat}(h:CR st0 st lo):(arrOf st).size=(arrOf st0).size:=h.perm.size_eq
theorem CR.rev{st0 st:SortSt}{lo i j:Nat}(h:CR st0 st lo)(hi:lo<=i)(hj:j<=(arrOf st).size):CR st0 (setArr st (mirror (arrOf st) i j ((j-i)/2))) lo:=
 ⟨h.kind,h.pend,h.fail,(mirror_perm _ _ _ _).trans h.perm,fun k hk=>by
  show(mirror (arrOf st) i j ((j-i)/2))[k]? =_;rw[getElem?_mirror_all hj,if_neg (by lia)];exact h.same k hk⟩
theorem q0(hj:j<=a.size)(k:Nat):ky N (mirror a i j ((j-i)/2)) k=if i<=k/\k<j then ky N a (i+j-1-k)else ky N a k:=by
 split
 ·rename_i h
  exact pG (by rw[getElem?_mirror_all hj,if_pos h])
 ·rename_i h
  exact pG (by rw[getElem?_mirror_all hj,if_neg h])
def Up(N:Keyed->Nat)(a:Array Keyed)(lo n:Nat):Prop:=∀i j,i<=j->j<n->ky N a (lo+i)<=ky N a (lo+j)
def Dn(N:Keyed->Nat)(a:Array Keyed)(lo n:Nat):Prop:=∀i j,i<=j->j<n->ky N a (lo+j)<=ky N a (lo+i)
theorem Up.one(N:Keyed->Nat)(a:Array Keyed)(lo:Nat):Up N a lo 1:=fun i j h1 h2=>by
 rw[show i=j by lia];exact Zh _
theorem Up.step{lo n:Nat}(h:Up N a lo n)(h1:1<=n)(hn: ¬ ky N a (lo+n)<ky N a (lo+n-1)):Up N a lo (n+1):=fun i j hij hj=>by
 by_cases e:j=n
 ·subst e;by_cases e2:i=j
  ·rw[e2];exact Zh _
  ·have:=h i (j-1) (by lia) (by lia);rw[show lo+(j-1)=lo+j-1 by lia]at this
   lia
 ·exact h i j hij (by lia)
theorem Dn.step{lo n:Nat}(h:Dn N a lo n)(h1:1<=n)(hn:ky N a (lo+n)<=ky N a (lo+n-1)):Dn N a lo (n+1):=fun i j hij hj=>by
 by_cases e:j=n
 ·subst e;by_cases e2:i=j
  ·rw[e2];exact Zh _
  ·have:=h i (j-1) (by lia) (by lia);rw[show lo+(j-1)=lo+j-1 by lia]at this
   lia
 ·exact h i j hij (by lia)
theorem Dn.rev{lo n:Nat}(h:Dn N a lo n)(hn:lo+n<=a.size):Up N (mirror a lo (lo+n) ((lo+n-lo)/2)) lo n:=fun i j hij hj=>by
 rw[q0 hn,q0 hn,if_pos (by lia),if_pos (by lia)];have:=h (n-1-j) (n-1-i) (by lia) (by lia);rw[show lo+(lo+n) -1-(lo+i)=lo+(n-1-i) by lia,show lo+(lo+n) -1-(lo+j)=lo+(n-1-j) by lia];exact this
theorem Dn.same{lo n i j:Nat}(h:Dn N a lo n)(hj:j<=a.size)(he:∀k k',i<=k->k<j->i<=k'->k'<j->ky N a k=ky N a k'):Dn N (mirror a i j ((j-i)/2)) lo n:=by
 have e:∀k,ky N (mirror a i j ((j-i)/2)) k=ky N a k:=fun k=>by
  rw[q0 hj]
  split
  ·exact he _ _ (by lia) (by lia) (by lia) (by lia)
  ·rfl
 intro p q hpq hq;rw[e,e];exact h p q hpq hq
section
variable{prog:Program}{w:World}{A:Around}{SI:Shared->Prop}{α β:Type}
theorem dS{i j lo:Nat}{st0 st:SortSt}(c:Cmp prog w A SI (kindOf st0) D N)(d:∀x∈(arrOf st0).toList,D x)(r:CR st0 st lo)(hi:i<(arrOf st0).size)(hj:j<(arrOf st0).size)
 (h:Q (some (decide (ky N (arrOf st) i<ky N (arrOf st) j))) st):(SC prog w A SI) (ltAt' i j) Q st:=by
 have dd:∀x∈(arrOf st).toList,D x:=fun x hx=>d x ((Array.perm_iff_toList_perm.mp r.perm).mem_iff.mp hx)
 have hi':i<(arrOf st).size:=by rw[r.size];exact hi
 have hj':j<(arrOf st).size:=by rw[r.size];exact hj
 obtain⟨e1,e1'⟩:=sB hi';obtain⟨e2,e2'⟩:=sB hj';refine yP (by rw[r.kind];exact c) e1 e2 (dd _ (by simp)) (dd _ (by simp)) ?_;rw[wA e1,wA e2]at h;exact h
theorem e9{st:SortSt}(h:Q () (setArr st (mirror (arrOf st) i j ((j-i)/2)))):(SC prog w A SI) (reverseSlice' i j) Q st:=by
 rw[reverseSlice'_eq];exact gF h
theorem pH{lo nrem:Nat}{st:SortSt}(c:Cmp prog w A SI (kindOf st) D N)(d:∀x∈(arrOf st).toList,D x)(h1:1<=nrem)(hs:lo+nrem<=(arrOf st).size)
 (h:∀n st',CR st st' lo->1<=n->n<=nrem->Up N (arrOf st') lo n->Q (some n) st'):(SC prog w A SI) (countRun' lo nrem) Q st:=by
 rw[countRun'_eq];refine ar (cj (bX (Q:=fun x st'=>st'=st/\∃n,x=(none,n)/\1<=n/\n<=nrem/\Up N (arrOf st) lo n/\(n=nrem\/ky N (arrOf st) (lo+n)<ky N (arrOf st) (lo+n-1)))
  (fun j x st'=>st'=st/\x=(none,j)/\Up N (arrOf st) lo j) h1 ⟨rfl,rfl,Up.one _ _ _⟩ ?_ ?_) ?_)
 ·rintro j x st' hj1 hj ⟨rfl,rfl,up⟩;dsimp only;refine ar (dS c d (CR.refl _ lo) (by lia) (by lia) ?_);dsimp only;by_cases q:ky N (arrOf st') (lo+j)<ky N (arrOf st') (lo+j-1)
  ·rw[Ze q,if_pos rfl];exact ax ⟨rfl,j,rfl,hj1,by lia,up,.inr q⟩
  ·rw[Zg q,if_neg (by simp)];exact ax ⟨rfl,rfl,up.step hj1 q⟩
 ·rintro x st' ⟨rfl,rfl,up⟩;exact⟨rfl,nrem,rfl,h1,Zh _,up,.inl rfl⟩
 ·rintro x st1 ⟨e1,n,rfl,n1,n2,up,hq⟩;subst e1;dsimp only;by_cases q1:n=nrem
  ·rw[if_pos (by simp[q1])];exact ax (h n st1 (CR.refl _ _) n1 n2 up)
  rw[if_neg (by simp[q1])];have hq:ky N (arrOf st1) (lo+n)<ky N (arrOf st1) (lo+n-1):=hq.resolve_left q1;have n3:n<nrem:=by lia
  by_cases q2:n>1
  ·rw[if_pos q2];refine ar (dS c d (CR.refl _ lo) (by lia) (by lia) ?_);dsimp only;by_cases q3:ky N (arrOf st1) lo<ky N (arrOf st1) (lo+n-1)
   ·rw[Ze q3,if_pos rfl];exact ax (h n st1 (CR.refl _ _) n1 n2 up)
   ·rw[Zg q3,if_neg (by simp)];refine ar (e9 ?_);have r2:=(CR.refl st1 lo).rev (i:=lo) (j:=lo+n) (Zh _) (by lia);have all:∀i,i<n->ky N (arrOf st1) (lo+i)=ky N (arrOf st1) lo:=fun i hi=>by
     have a1:=up 0 i (X0 _) hi;have a2:=up i (n-1) (by lia) (by lia);rw[show lo+(n-1)=lo+n-1 by lia]at a2;rw[add_zero]at a1
     lia
    have dn0:Dn N (arrOf st1) lo n:=fun i j hij hj=>by rw[all i (by lia),all j hj];exact Zh _
    have dn1:Dn N (arrOf st1) lo (n+1):=dn0.step n1 (by lia);have dn2:=dn1.same (i:=lo) (j:=lo+n) (by lia) (fun k k' a1 a2 a3 a4=>by
     have b1:=all (k-lo) (by lia);have b2:=all (k'-lo) (by lia);rw[show lo+(k-lo)=k by lia]at b1;rw[show lo+(k'-lo)=k' by lia]at b2;rw[b1,b2])
    refine ar (nT ?_);refine ar (cj (bX (Q:=fun x st'=>CR st1 st' lo/\∃m q,x=(none,m,q)/\q+1<=m/\m<=nrem/\Dn N (arrOf st') lo m/\(∀k k',lo+m-(q+1)<=k->k<lo+m->lo+m-(q+1)<=k'->k'<lo+m->ky N (arrOf st') k=ky N (arrOf st') k'))
     (fun j x st'=>CR st1 st' lo/\∃q,x=(none,j,q)/\q+1<=j/\Dn N (arrOf st') lo j/\(∀k k',lo+j-(q+1)<=k->k<lo+j->lo+j-(q+1)<=k'->k'<lo+j->ky N (arrOf st') k=ky N (arrOf st') k')) (by lia) ⟨r2,0,rfl,by lia,dn2,fun k k' a1 a2 a3 a4=>by rw[show k=k' by lia]⟩ ?_ ?_) ?_)
    ·rintro j x st3 hj1 hj ⟨r3,q,rfl,hqj,dn3,eq3⟩;dsimp only;refine ar (dS c d r3 (by lia) (by lia) ?_);dsimp only;by_cases hs:ky N (arrOf st3) (lo+j)<ky N (arrOf st3) (lo+j-1)
     ·rw[Ze hs,if_pos rfl];by_cases hq0:q>0
      ·rw[if_pos hq0];refine ar (e9 (ax ⟨r3.rev (by lia) (by rw[r3.size];lia),0,rfl,by lia,?_,fun k k' a1 a2 a3 a4=>by rw[show k=k' by lia]⟩));have dn4:Dn N (arrOf st3) lo (j+1):=dn3.step (by lia) (by lia);exact dn4.same (by rw[r3.size];lia) eq3
      ·rw[if_neg hq0];exact ax ⟨r3,0,rfl,by lia,dn3.step (by lia) (by lia),fun k k' a1 a2 a3 a4=>by rw[show k=k' by lia]⟩
     ·rw[Zg hs,if_neg (by simp)];refine ar (dS c d r3 (by lia) (by lia) ?_);dsimp only;by_cases hl:ky N (arrOf st3) (lo+j-1)<ky N (arrOf st3) (lo+j)
      ·rw[Ze hl,if_pos rfl];exact ax ⟨r3,j,q,rfl,hqj,by lia,dn3,eq3⟩
      ·rw[Zg hl,if_neg (by simp)];have ee:ky N (arrOf st3) (lo+j)=ky N (arrOf st3) (lo+j-1):=by lia
       have all:∀k,lo+j-(q+1)<=k->k<lo+(j+1)->ky N (arrOf st3) k=ky N (arrOf st3) (lo+j-1):=fun k a1 a2=>by
        by_cases e:k=lo+j
        ·rw[e];exact ee
        ·exact eq3 _ _ a1 (by lia) (by lia) (by lia)
       exact ax ⟨r3,q+1,rfl,by lia,dn3.step (by lia) (by lia),fun k k' a1 a2 a3 a4=>(all k (by lia) a2).trans (all k' (by lia) a4).symm⟩
    ·rintro x st3 ⟨r3,q,rfl,hqj,dn3,eq3⟩;exact⟨r3,nrem,q,rfl,hqj,Zh _,dn3,eq3⟩
    ·rintro x st3 ⟨r3,m,q,rfl,hqm,hm,dn3,eq3⟩;dsimp only;by_cases hq0:q>0
     ·rw[if_pos hq0];refine ar (e9 ?_);have r4:=r3.rev (i:=lo+m-(q+1)) (j:=lo+m) (by lia) (by rw[r3.size];lia);have dn4:=dn3.same (i:=lo+m-(q+1)) (j:=lo+m) (by rw[r3.size];lia) eq3;refine ar (e9 ?_);have r5:=(r4).rev (i:=lo) (j:=lo+m) (Zh _) (by rw[(r4).size];lia);have up5:=(dn4).rev (by rw[(r4).size];lia);refine ar (cj (bX (Q:=fun x st'=>CR st1 st' lo/\∃n,x=(none,n)/\1<=n/\n<=nrem/\Up N (arrOf st') lo n)
       (fun j x st'=>CR st1 st' lo/\x=(none,j)/\Up N (arrOf st') lo j) (by lia) ⟨r5,rfl,up5⟩ ?_ ?_) ?_)
      ·rintro j x st6 hj1 hj ⟨r6,rfl,up6⟩;dsimp only;refine ar (dS c d r6 (by lia) (by lia) ?_);dsimp only;by_cases q:ky N (arrOf st6) (lo+j)<ky N (arrOf st6) (lo+j-1)
       ·rw[Ze q,if_pos rfl];exact ax ⟨r6,j,rfl,by lia,by lia,up6⟩
       ·rw[Zg q,if_neg (by simp)];exact ax ⟨r6,rfl,up6.step (by lia) q⟩
      ·rintro x st6 ⟨r6,rfl,up6⟩;exact⟨r6,nrem,rfl,h1,Zh _,up6⟩
      ·rintro x st6 ⟨r6,m,rfl,m1,m2,up6⟩;exact ax (h m st6 r6 m1 m2 up6)
     ·rw[if_neg hq0];refine ar (e9 ?_);have r5:=(r3).rev (i:=lo) (j:=lo+m) (Zh _) (by rw[(r3).size];lia);have up5:=(dn3).rev (by rw[(r3).size];lia);refine ar (cj (bX (Q:=fun x st'=>CR st1 st' lo/\∃n,x=(none,n)/\1<=n/\n<=nrem/\Up N (arrOf st') lo n)
       (fun j x st'=>CR st1 st' lo/\x=(none,j)/\Up N (arrOf st') lo j) (by lia) ⟨r5,rfl,up5⟩ ?_ ?_) ?_)
      ·rintro j x st6 hj1 hj ⟨r6,rfl,up6⟩;dsimp only;refine ar (dS c d r6 (by lia) (by lia) ?_);dsimp only;by_cases q:ky N (arrOf st6) (lo+j)<ky N (arrOf st6) (lo+j-1)
       ·rw[Ze q,if_pos rfl];exact ax ⟨r6,j,rfl,by lia,by lia,up6⟩
       ·rw[Zg q,if_neg (by simp)];exact ax ⟨r6,rfl,up6.step (by lia) q⟩
      ·rintro x st6 ⟨r6,rfl,up6⟩;exact⟨r6,nrem,rfl,h1,Zh _,up6⟩
      ·rintro x st6 ⟨r6,m,rfl,m1,m2,up6⟩;exact ax (h m st6 r6 m1 m2 up6)
  ·rw[if_neg q2];have e1:n=1:=by lia
   have r2:=CR.refl st1 lo;have dn2:Dn N (arrOf st1) lo (n+1):=by
    refine Dn.step (fun i j hij hj=>?_) n1 (by lia);rw[show i=j by lia];exact Zh _
   refine ar (nT ?_);refine ar (cj (bX (Q:=fun x st'=>CR st1 st' lo/\∃m q,x=(none,m,q)/\q+1<=m/\m<=nrem/\Dn N (arrOf st') lo m/\(∀k k',lo+m-(q+1)<=k->k<lo+m->lo+m-(q+1)<=k'->k'<lo+m->ky N (arrOf st') k=ky N (arrOf st') k'))
    (fun j x st'=>CR st1 st' lo/\∃q,x=(none,j,q)/\q+1<=j/\Dn N (arrOf st') lo j/\(∀k k',lo+j-(q+1)<=k->k<lo+j->lo+j-(q+1)<=k'->k'<lo+j->ky N (arrOf st') k=ky N (arrOf st') k')) (by lia) ⟨r2,0,rfl,by lia,dn2,fun k k' a1 a2 a3 a4=>by rw[show k=k' by lia]⟩ ?_ ?_) ?_)
   ·rintro j x st3 hj1 hj ⟨r3,q,rfl,hqj,dn3,eq3⟩;dsimp only;refine ar (dS c d r3 (by lia) (by lia) ?_);dsimp only;by_cases hs:ky N (arrOf st3) (lo+j)<ky N (arrOf st3) (lo+j-1)
    ·rw[Ze hs,if_pos rfl];by_cases hq0:q>0
     ·rw[if_pos hq0];refine ar (e9 (ax ⟨r3.rev (by lia) (by rw[r3.size];lia),0,rfl,by lia,?_,fun k k' a1 a2 a3 a4=>by rw[show k=k' by lia]⟩));have dn4:Dn N (arrOf st3) lo (j+1):=dn3.step (by lia) (by lia);exact dn4.same (by rw[r3.size];lia) eq3
     ·rw[if_neg hq0];exact ax ⟨r3,0,rfl,by lia,dn3.step (by lia) (by lia),fun k k' a1 a2 a3 a4=>by rw[show k=k' by lia]⟩
    ·rw[Zg hs,if_neg (by simp)];refine ar (dS c d r3 (by lia) (by lia) ?_);dsimp only;by_cases hl:ky N (arrOf st3) (lo+j-1)<ky N (arrOf st3) (lo+j)
     ·rw[Ze hl,if_pos rfl];exact ax ⟨r3,j,q,rfl,hqj,by lia,dn3,eq3⟩
     ·rw[Zg hl,if_neg (by simp)];have ee:ky N (arrOf st3) (lo+j)=ky N (arrOf st3) (lo+j-1):=by lia
      have all:∀k,lo+j-(q+1)<=k->k<lo+(j+1)->ky N (arrOf st3) k=ky N (arrOf st3) (lo+j-1):=fun k a1 a2=>by
       by_cases e:k=lo+j
       ·rw[e];exact ee
       ·exact eq3 _ _ a1 (by lia) (by lia) (by lia)
      exact ax ⟨r3,q+1,rfl,by lia,dn3.step (by lia) (by lia),fun k k' a1 a2 a3 a4=>(all k (by lia) a2).trans (all k' (by lia) a4).symm⟩
   ·rintro x st3 ⟨r3,q,rfl,hqj,dn3,eq3⟩;exact⟨r3,nrem,q,rfl,hqj,Zh _,dn3,eq3⟩
   ·rintro x st3 ⟨r3,m,q,rfl,hqm,hm,dn3,eq3⟩;dsimp only;by_cases hq0:q>0
    ·rw[if_pos hq0];refine ar (e9 ?_);have r4:=r3.rev (i:=lo+m-(q+1)) (j:=lo+m) (by lia) (by rw[r3.size];lia);have dn4:=dn3.same (i:=lo+m-(q+1)) (j:=lo+m) (by rw[r3.size];lia) eq3;refine ar (e9 ?_);have r5:=(r4).rev (i:=lo) (j:=lo+m) (Zh _) (by rw[(r4).size];lia);have up5:=(dn4).rev (by rw[(r4).size];lia);refine ar (cj (bX (Q:=fun x st'=>CR st1 st' lo/\∃n,x=(none,n)/\1<=n/\n<=nrem/\Up N (arrOf st') lo n)
      (fun j x st'=>CR st1 st' lo/\x=(none,j)/\Up N (arrOf st') lo j) (by lia) ⟨r5,rfl,up5⟩ ?_ ?_) ?_)
     ·rintro j x st6 hj1 hj ⟨r6,rfl,up6⟩;dsimp only;refine ar (dS c d r6 (by lia) (by lia) ?_);dsimp only;by_cases q:ky N (arrOf st6) (lo+j)<ky N (arrOf st6) (lo+j-1)
      ·rw[Ze q,if_pos rfl];exact ax ⟨r6,j,rfl,by lia,by lia,up6⟩
      ·rw[Zg q,if_neg (by simp)];exact ax ⟨r6,rfl,up6.step (by lia) q⟩
     ·rintro x st6 ⟨r6,rfl,up6⟩;exact⟨r6,nrem,rfl,h1,Zh _,up6⟩
     ·rintro x st6 ⟨r6,m,rfl,m1,m2,up6⟩;exact ax (h m st6 r6 m1 m2 up6)
    ·rw[if_neg hq0];refine ar (e9 ?_);have r5:=(r3).rev (i:=lo) (j:=lo+m) (Zh _) (by rw[(r3).size];lia);have up5:=(dn3).rev (by rw[(r3).size];lia);refine ar (cj (bX (Q:=fun x st'=>CR st1 st' lo/\∃n,x=(none,n)/\1<=n/\n<=nrem/\Up N (arrOf st') lo n)
      (fun j x st'=>CR st1 st' lo/\x=(none,j)/\Up N (arrOf st') lo j) (by lia) ⟨r5,rfl,up5⟩ ?_ ?_) ?_)
     ·rintro j x st6 hj1 hj ⟨r6,rfl,up6⟩;dsimp only;refine ar (dS c d r6 (by lia) (by lia) ?_);dsimp only;by_cases q:ky N (arrOf st6) (lo+j)<ky N (arrOf st6) (lo+j-1)
      ·rw[Ze q,if_pos rfl];exact ax ⟨r6,j,rfl,by lia,by lia,up6⟩
      ·rw[Zg q,if_neg (by simp)];exact ax ⟨r6,rfl,up6.step (by lia) q⟩
     ·rintro x st6 ⟨r6,rfl,up6⟩;exact⟨r6,nrem,rfl,h1,Zh _,up6⟩
     ·rintro x st6 ⟨r6,m,rfl,m1,m2,up6⟩;exact ax (h m st6 r6 m1 m2 up6)
end
end SBig
namespace SBig
open PySem PyProof.Rows
section
variable{prog:Program}{w:World}{A:Around}{SI:Shared->Prop}{α β:Type}
theorem CR.move{st0 st:SortSt}{lo k l:Nat}(h:CR st0 st lo)(hk:lo+k<(arrOf st).size)(hl:l<=k):CR st0 (setArr st (bubble (arrOf st) (lo+k) (lo+k-(lo+l)))) lo:=
 ⟨h.kind,h.pend,h.fail,(bubble_perm _ _ _).trans h.perm,fun i hi=>by
  show(bubble (arrOf st) (lo+k) (lo+k-(lo+l)))[i]? =_;rw[getElem?_bubble hk _ (by lia),if_neg (by lia),if_neg (by lia)];exact h.same i hi⟩
theorem sC(hs:src<a.size)(hd:d<=src)(k:Nat):ky N (bubble a src d) k=if k=src-d then ky N a src else if src-d<k/\k<=src then ky N a (k-1)else ky N a k:=by
 by_cases h1:k=src-d
 ·rw[if_pos h1];exact pG (by rw[getElem?_bubble hs d hd,if_pos h1])
 ·rw[if_neg h1];by_cases h2:src-d<k/\k<=src
  ·rw[if_pos h2];exact pG (by rw[getElem?_bubble hs d hd,if_neg h1,if_pos h2])
  ·rw[if_neg h2];exact pG (by rw[getElem?_bubble hs d hd,if_neg h1,if_neg h2])
theorem tZ{lo n ok:Nat}{st0 st:SortSt}(c:Cmp prog w A SI (kindOf st0) D N)(d:∀x∈(arrOf st0).toList,D x)(r:CR st0 st lo)(h1:1<=ok)(hn:ok<=n)(hs:lo+n<=(arrOf st0).size)(up:Up N (arrOf st) lo ok)
 (h:∀st',CR st0 st' lo->Up N (arrOf st') lo n->Q true st'):(SC prog w A SI) (binarySort' lo n ok) Q st:=by
 rw[binarySort'_eq];rw[show max ok 1=ok by lia];refine ar (cj (bX (Q:=fun x st'=>x=(none,())/\CR st0 st' lo/\Up N (arrOf st') lo n) (fun k x st'=>x=(none,())/\CR st0 st' lo/\Up N (arrOf st') lo k) hn ⟨rfl,r,up⟩ ?_ ?_) ?_)
 ·rintro k x st1 hk1 hk ⟨rfl,r1,up1⟩;dsimp only;have pv:∀i,i<k->lo+i<(arrOf st0).size:=fun i hi=>by lia
  refine ar (cj (bX (Q:=fun x st'=>st'=st1/\∃l,x.1=none/\x.2.1=l/\l<=k/\(∀i,i<l->ky N (arrOf st1) (lo+i)<=ky N (arrOf st1) (lo+k))/\(∀i,l<=i->i<k->ky N (arrOf st1) (lo+k)<ky N (arrOf st1) (lo+i)))
   (fun j x st'=>st'=st1/\∃l q,x=(none,l,q)/\l<=q/\q<=k/\q-l<=k-j/\(∀i,i<l->ky N (arrOf st1) (lo+i)<=ky N (arrOf st1) (lo+k))/\(∀i,q<=i->i<k->ky N (arrOf st1) (lo+k)<ky N (arrOf st1) (lo+i))) (X0 _)
   ⟨rfl,0,k,rfl,by lia,by lia,by lia,fun i hi=>absurd hi (Yt _),fun i h1 h2=>by lia⟩ ?_ ?_) ?_)
  ·rintro j x st2 _ hj ⟨rfl,l,q,rfl,hlq,hqk,hm,p1,p2⟩;dsimp only;by_cases hge:l>=q
   ·rw[if_pos hge];have e:l=q:=by lia
    subst e;exact ax ⟨rfl,l,rfl,rfl,hqk,p1,p2⟩
   ·rw[if_neg hge];refine ar (dS c d r1 (by lia) (by lia) ?_);dsimp only;by_cases hlt:ky N (arrOf st2) (lo+k)<ky N (arrOf st2) (lo+(l+q)/2)
    ·rw[Ze hlt,if_pos rfl];exact ax ⟨rfl,l,_,rfl,by lia,by lia,by lia,p1,fun i a1 a2=>Zf hlt (up1 _ _ a1 a2)⟩
    ·rw[Zg hlt,if_neg (by simp)];exact ax ⟨rfl,_,q,rfl,by lia,by lia,by lia,fun i a1=>Y8 (up1 i ((l+q)/2) (by lia) (by lia)) (by lia),p2⟩
  ·rintro x st2 ⟨rfl,l,q,rfl,hlq,hqk,hm,p1,p2⟩;have e:l=q:=by lia
   subst e;exact⟨rfl,l,rfl,rfl,hqk,p1,p2⟩
  ·rintro⟨x1,x2,x3⟩ st2 ⟨e2,l,e3,e4,hlk,p1,p2⟩;subst e2;dsimp only at e3 e4;subst e3 e4;dsimp only;rw[moveDown'_eq];refine ar (gF (ax ⟨rfl,r1.move (by rw[r1.size];lia) hlk,?_⟩));have hsz:lo+k<(arrOf st2).size:=by rw[r1.size];lia
   intro i j hij hj;show ky N (bubble (arrOf st2) (lo+k) (lo+k-(lo+x2))) (lo+i)<=ky N (bubble (arrOf st2) (lo+k) (lo+k-(lo+x2))) (lo+j);rw[sC hsz (by lia),sC hsz (by lia)];have ed:lo+k-(lo+k-(lo+x2))=lo+x2:=by lia
   rw[ed];by_cases a1:lo+i=lo+x2
   ·rw[if_pos a1];by_cases a2:lo+j=lo+x2
    ·rw[if_pos a2];exact Zh _
    ·rw[if_neg a2,if_pos (by lia)];have:=p2 (j-1) (by lia) (by lia);rw[show lo+(j-1)=lo+j-1 by lia]at this
     lia
   ·rw[if_neg a1];by_cases a3:lo+x2<lo+i/\lo+i<=lo+k
    ·rw[if_pos a3,if_neg (by lia),if_pos (by lia)];have:=up1 (i-1) (j-1) (by lia) (by lia);rw[show lo+(j-1)=lo+j-1 by lia,show lo+(i-1)=lo+i-1 by lia]at this;exact this
    ·rw[if_neg a3];by_cases a4:lo+j=lo+x2
     ·rw[if_pos a4];exact p1 i (by lia)
     ·rw[if_neg a4];by_cases a5:lo+x2<lo+j/\lo+j<=lo+k
      ·rw[if_pos a5];have:=up1 i (j-1) (by lia) (by lia);rw[show lo+(j-1)=lo+j-1 by lia]at this;exact this
      ·rw[if_neg a5];exact up1 i j hij (by lia)
 ·rintro x st1 ⟨rfl,r1,up1⟩;exact⟨rfl,r1,up1⟩
 ·rintro x st1 ⟨rfl,r1,up1⟩;exact ax (h st1 r1 up1)
end
end SBig
namespace SBig
open PySem PyProof.Rows
section
variable{prog:Program}{w:World}{A:Around}{SI:Shared->Prop}
theorem yQ(h:Up N a 0 a.size):Srt N a.toList:=by
 refine List.pairwise_iff_getElem.mpr fun i j hi hj hij=>?_
 have g:∀(i:Nat) (hi:i<a.toList.length),N a.toList[i]=ky N a (0+i):=fun i hi=>(wA (by rw[zero_add];simpa using hi)).symm
 rw[g,g];exact h i j (by lia) (by simpa using hj)
theorem sc_sortFew{st:SortSt}(c:Cmp prog w A SI (kindOf st) D N)(d:∀x∈(arrOf st).toList,D x)(h2:1<=(arrOf st).size)(h64:(arrOf st).size<64)(hp:pendingOf st= #[])(hf:failedOf st=none)
 (h:∀st',(arrOf st').toList.Perm (arrOf st).toList->Srt N (arrOf st').toList->failedOf st'=none->Q () st'):(SC prog w A SI) sortRuns' Q st:=by
 rw[sortRuns'_eq];refine ar (jr ?_);dsimp only;have hm:minRun' (arrOf st).size (arrOf st).size 0=(arrOf st).size:=by
  obtain⟨m,e⟩:∃m,(arrOf st).size=m+1:=⟨_,(Nat.sub_add_cancel h2).symm⟩
  rw[e]at h64 ⊢;rw[minRun'_succ,if_pos h64,add_zero]
 rw[hm];refine ar (cj (bX (Q:=fun x st'=>x=(none,(arrOf st).size)/\(arrOf st').toList.Perm (arrOf st).toList/\Srt N (arrOf st').toList/\failedOf st'=none/\(pendingOf st').size=1)
  (fun j x st'=>(j=0/\x=(none,0)/\st'=st)\/(x=(none,(arrOf st).size)/\(arrOf st').toList.Perm (arrOf st).toList/\Srt N (arrOf st').toList/\failedOf st'=none/\(pendingOf st').size=1)) (X0 _) (.inl ⟨rfl,rfl,rfl⟩) ?_ ?_) ?_)
 ·rintro j x st1 _ hj (⟨rfl,rfl,rfl⟩|⟨rfl,ok⟩)
  ·dsimp only;rw[if_neg (by lia)];refine ar (pH c d (by lia) (by lia) fun n st2 r2 n1 n2 up2=>?_);dsimp only;have go:∀(st3:SortSt) (n:Nat),n=(arrOf st1).size->CR st1 st3 0->Up N (arrOf st3) 0 n->(pendingOf st3).back? =none/\(arrOf st3).toList.Perm (arrOf st1).toList/\Srt N (arrOf st3).toList/\failedOf st3=none/\(pendingOf st3).size=0:=fun st3 n e r u=>by
    refine⟨by rw[r.pend,hp];rfl,Array.perm_iff_toList_perm.mp r.perm,yQ (by rw[r.size,<-e];exact u),r.fail.trans hf,by rw[r.pend,hp];rfl⟩
   by_cases hmin:n<(arrOf st1).size
   ·rw[if_pos hmin];refine ar (nT ?_);refine ar (tZ c d r2 n1 (by lia) (by lia) up2 fun st3 r3 up3=>?_);rw[if_neg (by simp)];refine ar (jr ?_);obtain⟨b1,b2,b3,b4,b5⟩:=go st3 _ (by lia) r3 up3;rw[b1];dsimp only;refine ar (gF (ax (.inr ⟨?_,b2,b3,b4,?_⟩)))
    ·rw[zero_add,Nat.sub_zero,Nat.min_self]
    ·show((pendingOf st3).push _).size=1;rw[Array.size_push,b5]
   ·rw[if_neg hmin];refine ar (jr ?_);obtain⟨b1,b2,b3,b4,b5⟩:=go st2 _ (by lia) r2 up2;rw[b1];dsimp only;refine ar (gF (ax (.inr ⟨?_,b2,b3,b4,?_⟩)))
    ·rw[zero_add,show n=(arrOf st1).size by lia]
    ·show((pendingOf st2).push _).size=1;rw[Array.size_push,b5]
  ·dsimp only;rw[if_pos (Zh _)];exact ax ⟨rfl,ok⟩
 ·rintro x st1 (⟨e,_⟩|ok)
  ·lia
  ·exact ok
 ·rintro x st1 ⟨rfl,p1,p2,p3,p4⟩;dsimp only;refine ar (cj (bX (Q:=fun x st'=>x=(none,())/\st'=st1) (fun j x st'=>x=(none,())/\st'=st1) (X0 _) ⟨rfl,rfl⟩ ?_ ?_) ?_)
  ·rintro j x st2 _ hj ⟨rfl,rfl⟩;refine ar (jr ?_);rw[if_pos (by lia)];exact ax ⟨rfl,rfl⟩
  ·rintro x st2 e;exact e
  ·rintro x st2 ⟨rfl,rfl⟩;exact ax (h st2 p1 p2 p3)
end
end SBig
namespace STab
open PySem PySem.SetTable
theorem pI:∀k:Nat,∃q,5^(2^k)=1+2^(k+2)*(2*q+1)
 | 0=>⟨0,rfl⟩
 | k+1=>by
   obtain⟨q,e⟩:=pI k;refine⟨q+2^k*(2*q+1)*(2*q+1),?_⟩;rw[pow_succ 2 k,Nat.pow_mul,e]
   generalize hr:2*q+1=r
   have h2:2^(k+2)=4*2^k:=by rw[pow_add];lia
   have h3:2^(k+1+2)=8*2^k:=by rw[show k+1+2=k+3 by lia,pow_add];lia
   rw[h2,h3]
   generalize 2^k=p
   have e1:2*(q+p*r*r) +1=r+2*(p*r*r):=by lia
   rw[e1,mul_assoc 4 p r,mul_assoc 8 p]
   generalize hs:p*r=t
   have m1:p*(r+2*(t*r))=t+2*(t*t):=by
    rw[mul_add,hs];have:p*(2*(t*r))=2*(t*t):=by
     rw[Nat.mul_left_comm,Nat.mul_left_comm p t r,hs]
    lia
   rw[m1,Nat.pow_two,add_mul,Nat.one_mul,mul_add,Nat.mul_one];have m2:4*t*(4*t)=16*(t*t):=by rw[Nat.mul_mul_mul_comm]
   rw[m2]
   lia
noncomputable def step(M i:Nat):Nat:=(i*5+1)%M
noncomputable def bx(M:Nat):Nat->Nat->Nat
 | 0,i=>i
 | n+1,i=>step M (bx M n i)
noncomputable def geo:Nat->Nat
 | 0=>0
 | n+1=>geo n*5+1
theorem kY:∀n,4*geo n+1=5^n
 | 0=>rfl
 | n+1=>by
   have:=kY n;rw[pow_succ,<-this,geo]
   lia
theorem iK(M:Nat)(i:Nat):∀n,bx M n i%M=(5^n*i+geo n)%M
 | 0=>by simp[bx,geo]
 | n+1=>by
   have ih:=iK M i n;rw[bx,step,Nat.mod_mod,geo,pow_succ];rw[add_mod,Nat.mul_mod,ih,<-Nat.mul_mod,<-add_mod]
   congr 1
   rw[add_mul];have:5^n*5*i=5^n*i*5:=by rw[Nat.mul_right_comm]
   lia
theorem kZ:∀(k i e:Nat),e<2^k->∃n,n<2^k/\bx (2^k) n i%2^k=e
 | 0,i,e,he=>⟨0,by decide,by simp at he;subst he;simp[Nat.mod_one]⟩
 | k+1,i,e,he=>by
   obtain⟨n,hn,hq⟩:=kZ k i (e%2^k) (mod_lt _ (Nat.two_pow_pos k));have low:∀n,bx (2^(k+1)) n i%2^(k+1)%2^k=bx (2^k) n i%2^k:=fun n=>by
    rw[Nat.mod_mod_of_dvd _ (Nat.pow_dvd_pow 2 (Y7 k)),<-Nat.mod_mod_of_dvd _ (Nat.pow_dvd_pow 2 (Y7 k)),iK,Nat.mod_mod_of_dvd _ (Nat.pow_dvd_pow 2 (Y7 k)),iK]
   obtain⟨q,hq5⟩:=pI k;have gk:geo (2^k)=2^k*(2*q+1):=by
    have g:=kY (2^k);rw[hq5,pow_add]at g;have:2^k*2^2*(2*q+1)=4*(2^k*(2*q+1)):=by
     rw[Nat.mul_right_comm];lia
    lia
   have far:∀n,bx (2^(k+1)) (n+2^k) i%2^(k+1)=(bx (2^(k+1)) n i+2^k)%2^(k+1):=fun n=>by
    rw[iK];have e1:5^(n+2^k)*i+geo (n+2^k)=5^(2^k)*(5^n*i+geo n) +geo (2^k):=by
     have g1:=kY (n+2^k);have g2:=kY n;have g3:=kY (2^k);rw[pow_add]at g1 ⊢;rw[<-g3,<-g2]at g1;rw[<-g3,<-g2]
     generalize geo (n+2^k)=x at g1 ⊢
     generalize geo n=y at g1 ⊢
     generalize geo (2^k)=z at g1 ⊢
     have m1:(4*y+1)*(4*z+1)=16*(y*z) +4*y+4*z+1:=by
      rw[add_mul,mul_add];have:4*y*(4*z)=16*(y*z):=by rw[Nat.mul_mul_mul_comm]
      lia
     have hx:x=4*(y*z) +y+z:=by lia
     have m2:(4*y+1)*(4*z+1)*i=(4*z+1)*((4*y+1)*i):=by rw[Nat.mul_comm (4*y+1),mul_assoc]
     rw[m2,mul_add (4*z+1),hx];have m3:(4*z+1)*y=4*(y*z) +y:=by rw[add_mul,mul_assoc,Nat.mul_comm z y];lia
     lia
    rw[e1,hq5,gk];have hM:2^(k+1)=2*2^k:=by rw[pow_succ];lia
    have hM2:2^(k+2)=2*2^(k+1):=by rw[pow_succ];lia
    have e2:=iK (2^(k+1)) i n
    generalize 5^n*i+geo n=v at e2 ⊢
    have e3:(1+2^(k+2)*(2*q+1))*v+2^k*(2*q+1)=v+2^k+2^(k+1)*(2*((2*q+1)*v) +q):=by
     rw[add_mul,Nat.one_mul,hM2];have p1:2*2^(k+1)*(2*q+1)*v=2^(k+1)*(2*((2*q+1)*v)):=by
      simp only[mul_assoc,Nat.mul_left_comm]
     have p2:2^k*(2*q+1)=2^k+2^(k+1)*q:=by
      rw[hM,mul_add,Nat.mul_one];have:2^k*(2*q)=2*2^k*q:=by simp only[mul_assoc,Nat.mul_left_comm]
      lia
     rw[p1,p2,mul_add]
     lia
    rw[e3,Nat.add_mul_mod_self_left,add_mod,<-e2,<-add_mod]
   have hM:2^(k+1)=2*2^k:=by rw[pow_succ];lia
   have l1:=low n;rw[hq]at l1;have b1:bx (2^(k+1)) n i%2^(k+1)<2^(k+1):=mod_lt _ (Nat.two_pow_pos _);have p:0<2^k:=Nat.two_pow_pos k;have f1:=far n;rw[add_mod,Nat.mod_eq_of_lt (by lia:2^k<2^(k+1))]at f1;obtain⟨a,ha⟩:∃a,a=bx (2^(k+1)) n i%2^(k+1):=⟨_,rfl⟩
   rw[<-ha]at l1 b1 f1;have key:a=e\/(a+2^k)%2^(k+1)=e:=by
    have d1:=Nat.div_add_mod a (2^k);have d2:=Nat.div_add_mod e (2^k);have q1:a/2^k<2:=Nat.div_lt_of_lt_mul (by lia);have q2:e/2^k<2:=Nat.div_lt_of_lt_mul (by lia);rw[l1]at d1
    generalize a/2^k=u at d1 q1
    generalize e/2^k=v at d2 q2
    generalize e%2^k=r at d1 d2
    have hu:u=0\/u=1:=by lia
    have hv:v=0\/v=1:=by lia
    rcases hu with rfl|rfl<;> rcases hv with rfl|rfl
    ·left;lia
    ·right
     rw[Nat.mod_eq_of_lt (by lia)]
     lia
    ·right
     rw[show a+2^k=e+2^(k+1) by lia,Nat.add_mod_right,Nat.mod_eq_of_lt he]
    ·left;lia
   rcases key with h|h
   ·exact⟨n,by lia,by rw[<-ha,h]⟩
   ·exact⟨n+2^k,by lia,by rw[f1,h]⟩
end STab
namespace STab
open PySem PySem.SetTable
noncomputable def stand(t:SetTable)(h:Int):Nat->Probe
 | 0=>t.probeStart h
 | n+1=>t.advance (stand t h n)
noncomputable def way(t:SetTable)(h:Int)(n:Nat):Nat:=(stand t h n).j
noncomputable def aC(t:SetTable)(h:Int):Nat->Nat×Nat
 | 0=>(bits h%(t.mask+1),bits h)
 | r+1=>leap t.mask (aC t h r).1 (aC t h r).2
theorem jU(t:SetTable)(h:Int):∀n,(stand t h n).dummy=none
 | 0=>rfl
 | n+1=>by
   have:=jU t h n;show(t.advance (stand t h n)).dummy=none;unfold advance
   split
   ·exact this
   ·exact this
theorem yR(m i:Nat):runEnd m i-i<=9:=by
 unfold runEnd
 split<;> lia
theorem ua(t:SetTable)(h:Int):∀r,∃n,n<=10*r/\∀d,d<=runEnd t.mask (aC t h r).1-(aC t h r).1->
 stand t h (n+d)=⟨(aC t h r).1+d,runEnd t.mask (aC t h r).1-(aC t h r).1-d,(aC t h r).1,(aC t h r).2,none⟩:=by
 have along:∀(n i pb:Nat),stand t h n=⟨i,runEnd t.mask i-i,i,pb,none⟩->∀d,d<=runEnd t.mask i-i->stand t h (n+d)=⟨i+d,runEnd t.mask i-i-d,i,pb,none⟩:=by
  intro n i pb e d
  induction d with
  | zero=>intro _;rw[add_zero,e];rfl
  | succ d ih=>
    intro hd;show t.advance (stand t h (n+d))=_;rw[ih (by lia)];unfold advance;rw[if_pos (by dsimp only;lia)];simp only[Probe.mk.injEq,and_true]
    lia
 intro r
 induction r with
 | zero=>exact⟨0,X0 _,along 0 _ _ rfl⟩
 | succ r ih=>
   obtain⟨n,hn,e⟩:=ih;have hl:=yR t.mask (aC t h r).1;refine⟨n+(runEnd t.mask (aC t h r).1-(aC t h r).1) +1,by lia,along _ _ (aC t h (r+1)).2 ?_⟩;show t.advance (stand t h _)=_;rw[e _ (Zh _)];unfold advance;rw[if_neg (by dsimp only;lia)];rfl
theorem yS(h:Int):bits h<2^64:=by
 unfold bits;have h1:=Int.emod_nonneg h (by decide:(2^64:Int)≠0);have h2:=Int.emod_lt_of_pos h (by decide:(0:Int)<2^64)
 lia
theorem lc(t:SetTable)(h:Int):∀r,(aC t h r).2=bits h/32^r
 | 0=>by simp[aC]
 | r+1=>by
   show(aC t h r).2/32=_;rw[lc t h r,Nat.div_div_eq_div_mul,pow_succ]
theorem wB(t:SetTable)(h:Int):∀r,(aC t h r).1<t.mask+1
 | 0=>mod_lt _ (succ_pos _)
 | r+1=>mod_lt _ (succ_pos _)
theorem h9(t:SetTable)(h:Int):∀m,(aC t h (12+m)).1=bx (t.mask+1) m (aC t h 12).1
 | 0=>rfl
 | m+1=>by
   show((aC t h (12+m)).1*5+1+(aC t h (12+m)).2/32)%(t.mask+1)=step (t.mask+1) (bx (t.mask+1) m (aC t h 12).1);rw[h9 t h m,lc,Nat.div_div_eq_div_mul,<-pow_succ];have hz:bits h/32^(12+m+1)=0:=by
    refine Nat.div_eq_of_lt (Zf (yS h) ?_);exact Y8 (by decide:2^64<=32^13) (Nat.pow_le_pow_right (by decide) (by lia))
   rw[hz,add_zero];rfl
theorem lg(hm:t.mask+1=2^k)(h:Int)(e:Nat)(he:e<=t.mask):∃r,r<turns t.mask/\(aC t h r).1=e:=by
 obtain⟨n,hn,hq⟩:=kZ k (aC t h 12).1 e (by lia);refine⟨12+n,by unfold turns;lia,?_⟩;rw[h9,hm];rw[<-hm]at hq;have:bx (t.mask+1) n (aC t h 12).1<t.mask+1:=by rw[<-h9];exact wB t h _
 rw[Nat.mod_eq_of_lt this]at hq;rw[<-hm];exact hq
theorem q5(hm:t.mask+1=2^k)(h:Int)(e:Nat)(he:e<=t.mask):∃n,n+10<=10*turns t.mask/\way t h n=e:=by
 obtain⟨r,hr,hq⟩:=lg hm h e he;obtain⟨n,hn,hs⟩:=ua t h r;refine⟨n,by lia,?_⟩;have:=hs 0 (X0 _);unfold way;rw[add_zero]at this;rw[this];exact hq
theorem pJ(hd:t.dummies= #[]){hashAt:Nat->Int}:∀(fuel n m:Nat),n<=m->m<n+fuel->t.slot (way t h m)= .empty->
 ∃q,n<=q/\q<=m/\(∀j,n<=j->j<q->∃i,t.slot (way t h j)= .live i/\hashAt i≠h)/\
  ((t.slot (way t h q)= .empty/\probe.go t hashAt h fuel (stand t h n)=some (.empty (way t h q) none))\/
   ∃i,t.slot (way t h q)= .live i/\hashAt i=h/\probe.go t hashAt h fuel (stand t h n)=some (.candidate (way t h q) i (stand t h (q+1))))
 | 0,n,m,h1,h2,_=>by lia
 | fuel+1,n,m,h1,h2,he=>by
   have unf:probe.go t hashAt h (fuel+1) (stand t h n)=(match t.slot (stand t h n).j with
    | .empty=>some (.empty (stand t h n).j (stand t h n).dummy)
    | .dummy=>probe.go t hashAt h fuel (t.advance {stand t h n with dummy:=some (stand t h n).j})
    | .live i=>if hashAt i==h then some (.candidate (stand t h n).j i (t.advance (stand t h n)))else probe.go t hashAt h fuel (t.advance (stand t h n))):=rfl
   have ej:(stand t h n).j=way t h n:=rfl;cases hs:t.slot (way t h n)with
   | empty=>
     refine⟨n,Zh _,h1,fun j a b=>by lia,.inl ⟨hs,?_⟩⟩;rw[unf,ej,hs,jU]
   | dummy=>
     exfalso;unfold slot at hs;dsimp only at hs
     split at hs
     ·cases hs
     ·split at hs
      ·rename_i q
       rw[hd]at q;simp[has]at q
      ·cases hs
   | live i=>
     by_cases hq:hashAt i=h
     ·refine⟨n,Zh _,h1,fun j a b=>by lia,.inr ⟨i,hs,hq,?_⟩⟩;rw[unf,ej,hs];dsimp only;rw[if_pos (by simp[hq])];rfl
     ·have hnm:n≠m:=fun q=>by rw[q,he]at hs;cases hs
      obtain⟨q,q1,q2,q3,q4⟩:=pJ hd fuel (n+1) m (by lia) (by lia) he;have e2:probe.go t hashAt h (fuel+1) (stand t h n)=probe.go t hashAt h fuel (stand t h (n+1)):=by
       rw[unf,ej,hs];dsimp only;rw[if_neg (by simp[hq])];rfl
      refine⟨q,by lia,q2,fun j a b=>?_,?_⟩
      ·by_cases e:j=n
       ·rw[e];exact⟨i,hs,hq⟩
       ·exact q3 j (by lia) b
      ·rw[e2];exact q4
end STab
namespace STab
open PySem PySem.SetTable
theorem lh(xs:Array Nat)(j:Nat)(hs:∀a b (ha:a<xs.size) (hb:b<xs.size),a<b->xs[a]<xs[b]):∀(fuel lo hi:Nat),hi-lo<=fuel->lo<=hi->hi<=xs.size->(∀i (h:i<xs.size),i<lo->xs[i]<j)->(∀i (h:i<xs.size),hi<=i->j<=xs[i])->
 below.go xs j fuel lo hi<=xs.size/\(∀i (h:i<xs.size),i<below.go xs j fuel lo hi->xs[i]<j)/\(∀i (h:i<xs.size),below.go xs j fuel lo hi<=i->j<=xs[i])
 | 0,lo,hi,h1,h2,h3,h4,h5=>by
   have e:lo=hi:=by lia
   subst e;exact⟨h3,h4,h5⟩
 | fuel+1,lo,hi,h1,h2,h3,h4,h5=>by
   rw[below.go];by_cases hlt:lo<hi
   ·rw[if_pos hlt];dsimp only;have hm:(lo+hi)/2<xs.size:=by lia
    have eg:xs.getD ((lo+hi)/2) j=xs[(lo+hi)/2]:=by simp[Array.getD,hm]
    rw[eg];by_cases hx:xs[(lo+hi)/2]<j
    ·rw[if_pos hx];refine lh xs j hs fuel _ hi (by lia) (by lia) h3 (fun i h hi'=>?_) h5;by_cases e:i=(lo+hi)/2
     ·subst e;exact hx
     ·exact Nat.lt_trans (hs i _ h hm (by lia)) hx
    ·rw[if_neg hx];refine lh xs j hs fuel lo _ (by lia) (by lia) (by lia) h4 (fun i h hi'=>?_);by_cases e:i=(lo+hi)/2
     ·subst e;lia
     ·have:=hs _ i hm h (by lia)
      lia
   ·rw[if_neg hlt];have e:lo=hi:=by lia
    subst e;exact⟨h3,h4,h5⟩
def wC(xs:Array Nat):Prop:=∀a b (ha:a<xs.size) (hb:b<xs.size),a<b->xs[a]<xs[b]
theorem ia(hs:wC xs)(j:Nat):below xs j<=xs.size/\(∀i (h:i<xs.size),i<below xs j->xs[i]<j)/\(∀i (h:i<xs.size),below xs j<=i->j<=xs[i]):=
 lh xs j hs xs.size 0 xs.size (by lia) (X0 _) (Zh _) (fun i h q=>absurd q (Yt _)) (fun i h q=>by lia)
theorem wD(hs:wC xs)(h:xs[i]? =some j):below xs j=i:=by
 obtain⟨b0,b1,b2⟩:=ia hs j;obtain⟨hi,e⟩:=Array.getElem?_eq_some_iff.mp h;rcases Nat.lt_trichotomy i (below xs j)with q|q|q
 ·have:=b1 i hi q
  lia
 ·exact q.symm
 ·have h1:below xs j<xs.size:=by lia
  have:=b2 (below xs j) h1 (Zh _);have:=hs _ i h1 hi q
  lia
theorem mY{t:SetTable}(hs:wC t.place)(h:t.place[i]? =some j):t.slot j= .live i:=by
 unfold slot;dsimp only;rw[wD hs h,h];simp
theorem ib{t:SetTable}(hs:wC t.place)(hd:t.dummies= #[])(j:Nat):(∃i,t.place[i]? =some j/\t.slot j= .live i)\/(j∉t.place.toList/\t.slot j= .empty):=by
 by_cases h:j∈t.place.toList
 ·obtain⟨i,hi⟩:=X1 h;have hi:t.place[i]? =some j:=by simpa using hi
  exact .inl ⟨i,hi,mY hs hi⟩
 ·refine .inr ⟨h,?_⟩;unfold slot;dsimp only;rw[if_neg,if_neg]
  ·rw[hd];simp[has]
  ·intro q;have q:t.place[below t.place j]? =some j:=by simpa using q
   exact h (mem_toList_iff.mpr (Array.mem_of_getElem? q))
theorem pK(h:t.mask=t'.mask)(x:Int):∀n,stand t x n=stand t' x n
 | 0=>by
   show t.probeStart x=t'.probeStart x;unfold probeStart;rw[h]
 | n+1=>by
   show t.advance (stand t x n)=t'.advance (stand t' x n);rw[pK h x n];unfold advance;rw[h]
theorem mZ(h:t.mask=t'.mask)(x:Int)(n:Nat):way t x n=way t' x n:=by unfold way;rw[pK h]
structure WF (t:SetTable) (es:Array (Int×Value)):Prop where
 pow:∃k,t.mask+1=2^k
 big:7<=t.mask
 dum:t.dummies= #[]
 rise:wC t.place
 inb:∀j∈t.place.toList,j<=t.mask
 size:t.place.size=es.size
 chain:∀(i j:Nat) (h:Int) (x:Value),t.place[i]? =some j->es[i]? =some (h,x)->∃n,way t h n=j/\∀m,m<n->way t h m∈t.place.toList
theorem nodup_sub [DecidableEq α]:∀{l m:List α},l.Nodup->(∀x∈l,x∈m)->l.length<=m.length
 |[],_,_,_=>X0 _
 | x::l,m,hn,hs=>by
   obtain⟨h1,h2⟩:=nodup_cons.mp hn;have hx:x∈m:=hs x Zl;have ih:=nodup_sub (m:=m.erase x) h2 fun y hy=>(List.mem_erase_of_ne (fun e:y=x=>h1 (by rw[<-e];exact hy))).mpr (hs y (Zj _ hy))
   rw[List.length_erase_of_mem hx]at ih;have:0<m.length:=List.length_pos_of_mem hx;rw[Zq]
   lia
theorem rc(W:WF t es)(R:t.place.size<=t.mask)(h:Int):∃m,m+10<=10*turns t.mask/\way t h m∉t.place.toList/\(∀q,q<m->way t h q∈t.place.toList):=by
 obtain⟨k,hk⟩:=W.pow;have ex:∃e,e<=t.mask/\e∉t.place.toList:=by
  refine Classical.byContradiction fun hno=>?_
  have all:∀e,e<=t.mask->e∈t.place.toList:=fun e he=>Classical.byContradiction fun q=>hno ⟨e,he,q⟩
  have:(List.range (t.mask+1)).length<=t.place.toList.length:=nodup_sub nodup_range fun x hx=>all x (by have:=mem_range.mp hx;lia)
  rw[Yb,Za]at this
  lia
 obtain⟨e,he,hne⟩:=ex;obtain⟨n,hn,hw⟩:=q5 hk h e he;have:∀d,∀n,n<=d->n+10<=10*turns t.mask->way t h n∉t.place.toList->∃m,m+10<=10*turns t.mask/\way t h m∉t.place.toList/\(∀q,q<m->way t h q∈t.place.toList):=by
  intro d
  induction d with
  | zero=>
    intro n h0 h1 h2;have:n=0:=by lia
    subst this;exact⟨0,h1,h2,fun q hq=>absurd hq (Yt _)⟩
  | succ d ih=>
    intro n h0 h1 h2;by_cases hall:∀q,q<n->way t h q∈t.place.toList
    ·exact⟨n,h1,h2,hall⟩
    ·obtain⟨q,hq⟩:=Classical.not_forall.mp hall;obtain⟨q1,q2⟩:=Classical.not_imp.mp hq;exact ih q (by lia) (by lia) q2
 exact this n n (Zh _) hn (by rw[hw];exact hne)
end STab
namespace STab
open PySem PySem.SetTable
theorem iL(xs:Array α)(p:Nat)(x:α)(hp:p<=xs.size):(insertAt xs p x).toList=xs.toList.take p++x::xs.toList.drop p:=by
 unfold insertAt;rw[toList_append,toList_push,toList_extract,toList_extract,List.extract_eq_take_drop,List.extract_eq_take_drop];rw[List.drop_zero,Nat.sub_zero,Zm (l:=xs.toList.drop p) (by rw[Y9,Za];exact Zh _)];simp
theorem rg(xs:Array α)(x:α)(hp:p<=xs.size)(i:Nat):(insertAt xs p x)[i]? =if i<p then xs[i]? else if i=p then some x else xs[i-1]? :=by
 have e:(insertAt xs p x)[i]? =(insertAt xs p x).toList[i]? :=by simp
 rw[e,iL xs p x hp];have hl:(xs.toList.take p).length=p:=by rw[Yd,Za];lia
 by_cases h1:i<p
 ·rw[if_pos h1,Y3 (by lia),List.getElem?_take,if_pos h1];simp
 ·rw[if_neg h1,Y4 (by lia),hl];by_cases h2:i=p
  ·rw[if_pos h2,h2,sub_self];rfl
  ·rw[if_neg h2];obtain⟨d,hd⟩:∃d,i-p=d+1:=⟨i-p-1,by lia⟩
   rw[hd,List.getElem?_cons_succ,getElem?_drop];rw[show p+d=i-1 by lia];simp
theorem fW(xs:Array α)(p:Nat)(x:α)(hp:p<=xs.size):(insertAt xs p x).size=xs.size+1:=by
 rw[<-Za,iL xs p x hp,Z8,Zq,Yd,Y9,Za]
 lia
theorem wE(t:SetTable)(h:Int):∀n,(stand t h n).j+(stand t h n).more<=t.mask
 | 0=>by
   show bits h%(t.mask+1) +(runEnd t.mask (bits h%(t.mask+1)) -bits h%(t.mask+1))<=t.mask;have:=mod_lt (bits h) (show 0<t.mask+1 from succ_pos _);unfold runEnd
   split<;> lia
 | n+1=>by
   have ih:=wE t h n;show(t.advance (stand t h n)).j+(t.advance (stand t h n)).more<=t.mask;unfold advance
   split
   ·dsimp only;lia
   ·dsimp only[leap];have:=mod_lt ((stand t h n).i*5+1+(stand t h n).perturb/32) (show 0<t.mask+1 from succ_pos _);unfold runEnd
    split<;> lia
theorem nU(t:SetTable)(h:Int)(n:Nat):way t h n<=t.mask:=by
 have:=wE t h n;unfold way
 lia
theorem WF.put(W:WF t es)(hf:way t h m∉t.place.toList)(hb:∀q,q<m->way t h q∈t.place.toList)(b1 b2:Bool):
 (t.put (way t h m)).2=below t.place (way t h m)/\(t.put (way t h m)).1.mask=t.mask/\(t.put (way t h m)).1.place.size=t.place.size+1/\(t.put (way t h m)).1.led=t.led/\(t.put (way t h m)).1.plain=t.plain/\(t.put (way t h m)).1.moves=t.moves/\
  WF {(t.put (way t h m)).1 with led:=b1,plain:=b2} (insertAt es (t.put (way t h m)).2 (h,x)):=by
 have hd:has t.dummies (way t h m)=false:=by rw[W.dum];simp[has]
 have ep:t.put (way t h m)=({t with place:=insertAt t.place (below t.place (way t h m)) (way t h m)},below t.place (way t h m)):=by
  unfold SetTable.put;dsimp only;rw[hd];rfl
 rw[ep];obtain⟨s0,s1,s2⟩:=ia W.rise (way t h m)
 generalize hp:below t.place (way t h m)=p at s0 s1 s2
 have hpe:p<=es.size:=by rw[<-W.size];exact s0
 have s3:∀i (hi:i<t.place.size),p<=i->way t h m<t.place[i]:=fun i hi q=>by
  have:=s2 i hi q;rcases Nat.eq_or_lt_of_le this with e|e
  ·exact absurd (by rw[e];simp) hf
  ·exact e
 have memp:∀y,y∈(insertAt t.place p (way t h m)).toList↔y=way t h m\/y∈t.place.toList:=fun y=>by
  rw[iL _ _ _ s0,Yk,Yn];have:=Yy p t.place.toList
  constructor
  ·rintro(q|q|q)
   ·exact .inr (Yo q)
   ·exact .inl q
   ·exact .inr (List.mem_of_mem_drop q)
  ·rintro(q|q)
   ·exact .inr (.inl q)
   ·rw[<-this]at q;rcases X7 q with q|q
    ·exact .inl q
    ·exact .inr (.inr q)
 refine⟨rfl,rfl,fW _ _ _ s0,rfl,rfl,rfl,W.pow,W.big,W.dum,?_,?_,?_,?_⟩
 ·intro a b ha hb' hab;have sz:=fW t.place p (way t h m) s0;have ga:(insertAt t.place p (way t h m))[a]? =some (insertAt t.place p (way t h m))[a]:=by simp[ha]
  have gb:(insertAt t.place p (way t h m))[b]? =some (insertAt t.place p (way t h m))[b]:=by simp[hb']
  show(insertAt t.place p (way t h m))[a]<(insertAt t.place p (way t h m))[b];rw[rg _ _ s0]at ga gb;have hb2:b<t.place.size+1:=by rw[<-sz];exact hb'
  by_cases a1:a<p
  ·rw[if_pos a1]at ga;obtain⟨a2,a3⟩:=Array.getElem?_eq_some_iff.mp ga;rw[<-a3];by_cases b1:b<p
   ·rw[if_pos b1]at gb;obtain⟨b2,b3⟩:=Array.getElem?_eq_some_iff.mp gb;rw[<-b3];exact W.rise a b a2 b2 hab
   ·rw[if_neg b1]at gb;by_cases b2:b=p
    ·rw[if_pos b2]at gb;rw[<-Z9 gb];exact s1 a a2 a1
    ·rw[if_neg b2]at gb;obtain⟨b3,b4⟩:=Array.getElem?_eq_some_iff.mp gb;rw[<-b4];exact W.rise a (b-1) a2 b3 (by lia)
  ·rw[if_neg a1]at ga;have b1: ¬ b<p:=by lia
   have b2: ¬ b=p:=by lia
   rw[if_neg b1,if_neg b2]at gb;obtain⟨b3,b4⟩:=Array.getElem?_eq_some_iff.mp gb;rw[<-b4];by_cases a2:a=p
   ·rw[if_pos a2]at ga;rw[<-Z9 ga];exact s3 (b-1) b3 (by lia)
   ·rw[if_neg a2]at ga;obtain⟨a3,a4⟩:=Array.getElem?_eq_some_iff.mp ga;rw[<-a4];exact W.rise (a-1) (b-1) a3 b3 (by lia)
 ·intro y hy;rcases(memp y).mp hy with q|q
  ·rw[q];exact nU t h m
  ·exact W.inb y q
 ·show(insertAt t.place p (way t h m)).size=(insertAt es p (h,x)).size;rw[fW _ _ _ s0,fW _ _ _ hpe,W.size]
 ·intro i j h' x' hi he;have wm:∀n,way {t with place:=insertAt t.place p (way t h m),led:=b1,plain:=b2} h' n=way t h' n:=fun n=>mZ (t':=t) (by rfl) h' n
  have key:∃n,way t h' n=j/\∀q,q<n->way t h' q∈(insertAt t.place p (way t h m)).toList:=by
   have hi:(insertAt t.place p (way t h m))[i]? =some j:=hi;rw[rg _ _ s0]at hi;rw[rg _ _ hpe]at he;by_cases i1:i<p
   ·rw[if_pos i1]at hi he;obtain⟨n,n1,n2⟩:=W.chain i j h' x' hi he;exact⟨n,n1,fun q hq=>(memp _).mpr (.inr (n2 q hq))⟩
   ·rw[if_neg i1]at hi he;by_cases i2:i=p
    ·rw[if_pos i2]at hi he;cases hi;cases he;exact⟨m,rfl,fun q hq=>(memp _).mpr (.inr (hb q hq))⟩
    ·rw[if_neg i2]at hi he;obtain⟨n,n1,n2⟩:=W.chain (i-1) j h' x' hi he;exact⟨n,n1,fun q hq=>(memp _).mpr (.inr (n2 q hq))⟩
  obtain⟨n,n1,n2⟩:=key;exact⟨n,by rw[wm];exact n1,fun q hq=>by rw[wm];exact n2 q hq⟩
end STab
namespace STab
open PySem PySem.SetTable
noncomputable def nb(t:SetTable)(h:Int):Nat->Nat
 | 0=>0
 | r+1=>nb t h r+(runEnd t.mask (aC t h r).1-(aC t h r).1) +1
theorem wF(t:SetTable)(h:Int):∀r d,d<=runEnd t.mask (aC t h r).1-(aC t h r).1->
 stand t h (nb t h r+d)=⟨(aC t h r).1+d,runEnd t.mask (aC t h r).1-(aC t h r).1-d,(aC t h r).1,(aC t h r).2,none⟩:=by
 have along:∀(n i pb:Nat),stand t h n=⟨i,runEnd t.mask i-i,i,pb,none⟩->∀d,d<=runEnd t.mask i-i->stand t h (n+d)=⟨i+d,runEnd t.mask i-i-d,i,pb,none⟩:=by
  intro n i pb e d
  induction d with
  | zero=>intro _;rw[add_zero,e];rfl
  | succ d ih=>
    intro hd;show t.advance (stand t h (n+d))=_;rw[ih (by lia)];unfold advance;rw[if_pos (by dsimp only;lia)];simp only[Probe.mk.injEq,and_true]
    lia
 intro r
 induction r with
 | zero=>exact along 0 _ _ rfl
 | succ r ih=>
   refine along _ _ (aC t h (r+1)).2 ?_;show t.advance (stand t h _)=_;rw[ih _ (Zh _)];unfold advance;rw[if_neg (by dsimp only;lia)];rfl
theorem rh(t:SetTable)(h:Int)(r d:Nat)(hd:d<=runEnd t.mask (aC t h r).1-(aC t h r).1):way t h (nb t h r+d)=(aC t h r).1+d:=by
 unfold way;rw[wF t h r d hd]
noncomputable def dU(owner:Array (Option Nat))(j:Nat):Bool:=(owner.getD j (some 0)).isSome
theorem m4(t:SetTable)(h:Int)(owner:Array (Option Nat)):∀(fuel r:Nat),(∃r',r<=r'/\r'<r+fuel/\dU owner (aC t h r').1=false)->(∀m,m<nb t h r->dU owner (way t h m)=true)->
 ∃j n,layClean.free t.mask owner fuel (aC t h r).1 (aC t h r).2=some j/\way t h n=j/\dU owner j=false/\∀m,m<n->dU owner (way t h m)=true
 | 0,r,⟨r',h1,h2,_⟩,_=>by lia
 | fuel+1,r,⟨r',h1,h2,h3⟩,hb=>by
   rw[layClean.free];have hle:runEnd t.mask (aC t h r).1>=(aC t h r).1:=by unfold runEnd;split<;> lia
   have tk:∀k,(owner.getD ((aC t h r).1+k) (some 0)).isNone=!dU owner ((aC t h r).1+k):=fun k=>by
    unfold dU;cases owner.getD ((aC t h r).1+k) (some 0)<;> rfl
   cases hf:(List.range (runEnd t.mask (aC t h r).1+1-(aC t h r).1)).find? fun k=>(owner.getD ((aC t h r).1+k) (some 0)).isNone with
   | some k=>
     obtain⟨p1,as,bs,p2,p3⟩:=List.find?_eq_some_iff_append.mp hf;have hk:k∈List.range (runEnd t.mask (aC t h r).1+1-(aC t h r).1):=by rw[p2];simp
     have hk:=mem_range.mp hk;have ek:as=List.range k:=by
      have e1:as.length=k:=by
       have:(List.range (runEnd t.mask (aC t h r).1+1-(aC t h r).1))[as.length]? =some k:=by rw[p2];simp
       rw[List.getElem?_range (by have:=(X6 this).1;simpa using this)]at this;exact Z9 this
      have e2:as=(List.range (runEnd t.mask (aC t h r).1+1-(aC t h r).1)).take k:=by
       rw[p2,<-e1];simp
      rw[e2,List.take_range,Nat.min_eq_left (by lia)]
     dsimp only;refine⟨_,nb t h r+k,rfl,rh t h r k (by lia),?_,fun m hm=>?_⟩
     ·rw[tk]at p1;simpa using p1
     ·by_cases q:m<nb t h r
      ·exact hb m q
      ·have:=p3 (m-nb t h r) (by rw[ek];exact mem_range.mpr (by lia));rw[tk]at this;rw[show m=nb t h r+(m-nb t h r) by lia,rh t h r _ (by lia)];simpa using this
   | none=>
     have hno:=List.find?_eq_none.mp hf;have all:∀k,k<=runEnd t.mask (aC t h r).1-(aC t h r).1->dU owner ((aC t h r).1+k)=true:=fun k hk=>by
      have:=hno k (mem_range.mpr (by lia));rw[tk]at this;simpa using this
     have hne:r≠r':=fun e=>by
      have:=all 0 (X0 _);rw[add_zero,e,h3]at this;cases this
     dsimp only;exact m4 t h owner fuel (r+1) ⟨r',by lia,by lia,h3⟩ fun m hm=>by
      by_cases q:m<nb t h r
      ·exact hb m q
      ·have hm:m<nb t h r+(runEnd t.mask (aC t h r).1-(aC t h r).1) +1:=hm;rw[show m=nb t h r+(m-nb t h r) by lia,rh t h r _ (by lia)];exact all _ (by lia)
structure LO (t:SetTable) (hs:List Int) (owner:Array (Option Nat)):Prop where
 size:owner.size=t.mask+1
 own:∀(j q:Nat),owner[j]? =some (some q)->∃h,hs[q]? =some h/\∃n,way t h n=j/\∀m,m<n->dU owner (way t h m)=true
 all:∀q:Nat,q<hs.length->∃j:Nat,owner[j]? =some (some q)
 one:∀(j j' q:Nat),owner[j]? =some (some q)->owner[j']? =some (some q)->j=j'
theorem eQ(hj:j<owner.size):dU owner j=true↔∃q,owner[j]? =some (some q):=by
 unfold dU;have e:owner.getD j (some 0)=owner[j]:=by simp[Array.getD,hj]
 rw[e];have e2:owner[j]? =some owner[j]:=by simp[hj]
 rw[e2];cases owner[j]with
 | none=>simp
 | some q=>simp
theorem LO.step(L:LO t hs owner)(hp:t.mask+1=2^k)(room:hs.length<=t.mask)(h:Int):
 ∃j,layClean.free t.mask owner (turns t.mask) (bits h%(t.mask+1)) (bits h)=some j/\LO t (hs++[h]) (owner.setIfInBounds j (some hs.length)):=by
 have wlt:∀h n,way t h n<owner.size:=fun h n=>by rw[L.size];have:=nU t h n;lia
 have ex:∃e,e<=t.mask/\dU owner e=false:=by
  refine Classical.byContradiction fun hno=>?_
  have all:∀e,e<t.mask+1->dU owner e=true:=fun e he=>by
   cases q:dU owner e with
   | true=>rfl
   | false=>exact absurd ⟨e,by lia,q⟩ hno
  have f:∀e,e<t.mask+1->∃q,owner[e]? =some (some q):=fun e he=>(eQ (by rw[L.size];exact he)).mp (all e he)
  let g:Nat->Nat:=fun e=>((owner[e]?).getD none).getD 0
  have hg:∀e,e<t.mask+1->owner[e]? =some (some (g e)):=fun e he=>by
   obtain⟨q,hq⟩:=f e he;show owner[e]? =some (some (((owner[e]?).getD none).getD 0));rw[hq];rfl
  have nd:((List.range (t.mask+1)).map g).Nodup:=by
   rw[Yr,Yw];refine X2 (R:=fun a b=>a≠b) (fun{a b} ha hb hab q=>hab ?_) (nodup_iff_pairwise_ne.mp nodup_range);have h1:=hg a (mem_range.mp ha);have h2:=hg b (mem_range.mp hb);rw[<-q]at h2;exact L.one a b (g a) h1 h2
  have:=nodup_sub nd (m:=List.range hs.length) fun y hy=>by
   obtain⟨e,he,rfl⟩:=X9 hy;obtain⟨h',e1,_⟩:=L.own e (g e) (hg e (mem_range.mp he));exact mem_range.mpr (X6 e1).1
  rw[Z5,Yb,Yb]at this
  lia
 obtain⟨e,he,hne⟩:=ex;obtain⟨r,hr,hq⟩:=lg hp h e he;obtain⟨j,n,f1,f2,f3,f4⟩:=m4 t h owner (turns t.mask) 0 ⟨r,X0 _,by lia,by rw[hq];exact hne⟩ (fun m hm=>absurd hm (Yt _));refine⟨j,f1,?_⟩;have hj:j<owner.size:=by rw[<-f2];exact wlt h n
 have nj:∀q,owner[j]? ≠some (some q):=fun q e=>by
  have:=(eQ hj).mpr ⟨q,e⟩;rw[f3]at this;cases this
 have get:∀i,(owner.setIfInBounds j (some hs.length))[i]? =if j=i then some (some hs.length)else owner[i]? :=fun i=>by
  rw[Array.getElem?_setIfInBounds]
  split
  ·first|rfl|rw[if_pos hj]
  ·rfl
 have keep:∀i,dU owner i=true->i<owner.size->dU (owner.setIfInBounds j (some hs.length)) i=true:=fun i hi hl=>by
  obtain⟨q,e⟩:=(eQ hl).mp hi;refine(eQ (by rw[Array.size_setIfInBounds];exact hl)).mpr ?_;rw[get]
  split
  ·exact⟨_,rfl⟩
  ·exact⟨q,e⟩
 refine⟨by rw[Array.size_setIfInBounds];exact L.size,fun i q e=>?_,fun q hq=>?_,fun i i' q e e'=>?_⟩
 ·rw[get]at e
  split at e
  ·rename_i ij
   cases e;refine⟨h,by simp,n,by rw[f2,ij],fun m hm=>keep _ (f4 m hm) (wlt h m)⟩
  ·obtain⟨h',e1,n',e2,e3⟩:=L.own i q e;exact⟨h',by rw[Y3 (X6 e1).1];exact e1,n',e2,fun m hm=>keep _ (e3 m hm) (wlt h' m)⟩
 ·rw[Z8,Yc]at hq;by_cases e:q=hs.length
  ·exact⟨j,by rw[get,if_pos rfl,e]⟩
  ·obtain⟨i,hi⟩:=L.all q (by lia);refine⟨i,?_⟩;rw[get,if_neg]
   ·exact hi
   ·intro ij;rw[<-ij]at hi;exact nj q hi
 ·have old:∀i,owner[i]? =some (some hs.length)->False:=fun i e=>by
   obtain⟨h',e1,_⟩:=L.own i _ e;have:=(X6 e1).1
   lia
  rw[get]at e e'
  split at e<;> split at e'
  ·lia
  ·cases e;exact absurd e' (fun z=>old i' z)
  ·cases e';exact absurd e (fun z=>old i z)
  ·exact L.one i i' q e e'
theorem pL(hp:t.mask+1=2^k)(hashes:Array Int)(room:hashes.size<=t.mask+1):∃owner,layClean t.mask hashes=some owner/\LO t hashes.toList owner:=by
 have go:∀(rest done:List Int) (owner:Array (Option Nat)),LO t done owner->(done++rest).length<=t.mask+1->
  ∃owner',rest.foldl (fun acc h=>do
   let(owner,k)<-acc
   let j<-layClean.free t.mask owner (turns t.mask) (bits h%(t.mask+1)) (bits h)
   pure (owner.setIfInBounds j (some k),k+1)) (some (owner,done.length))=some (owner',(done++rest).length)/\LO t (done++rest) owner':=by
  intro rest
  induction rest with
  | nil=>intro done owner L _;exact⟨owner,by simp,by simpa using L⟩
  | cons h rest ih=>
    intro done owner L hl;simp only[Z8,Zq]at hl;obtain⟨j,f,L'⟩:=L.step hp (by lia) h;obtain⟨owner',e,L2⟩:=ih (done++[h]) _ L' (by simp only[Z8,Zq,length_nil];lia);refine⟨owner',?_,by simpa using L2⟩;rw[foldl_cons];have e0:(do
     let(owner,k)<-(some (owner,done.length):Option (Array (Option Nat)×Nat))
     let j<-layClean.free t.mask owner (turns t.mask) (bits h%(t.mask+1)) (bits h)
     pure (owner.setIfInBounds j (some k),k+1))=some (owner.setIfInBounds j (some done.length),(done++[h]).length):=by
     show(layClean.free t.mask owner (turns t.mask) (bits h%(t.mask+1)) (bits h)).bind _=_;rw[f];simp
    rw[e0,e];simp
 have L0:LO t [] (Array.replicate (t.mask+1) none):=⟨by simp,fun j q e=>by
  rw[Array.getElem?_replicate]at e
  split at e<;> simp at e,fun q hq=>absurd hq (Yt _),fun j j' q e _=>by
  rw[Array.getElem?_replicate]at e
  split at e<;> simp at e⟩
 obtain⟨owner,e,L⟩:=go hashes.toList [] _ L0 (by simpa using room);refine⟨owner,?_,by simpa using L⟩;unfold layClean;rw[<-Array.foldl_toList];rw[show(0:Nat)=([]:List Int).length from rfl,e];rfl
end STab
namespace STab
open PySem PySem.SetTable
theorem pM(n:Nat):∀(fuel k:Nat),3<=k->n<2^(k+fuel)->(2^k<=2*n\/k=3)->∃k',3<=k'/\sizeAbove.go n fuel (2^k)=2^k'/\n<2^k'/\(2^k'<=2*n\/k'=3)
 | 0,k,h3,hn,hs=>⟨k,h3,rfl,by simpa using hn,hs⟩
 | fuel+1,k,h3,hn,hs=>by
   rw[sizeAbove.go];by_cases h:2^k<=n
   ·rw[if_pos h];have e:2^k*2=2^(k+1):=by rw[pow_succ]
    rw[e];exact pM n fuel (k+1) (by lia) (by rw[show k+1+fuel=k+(fuel+1) by lia];exact hn) (.inl (by lia))
   ·rw[if_neg h];exact⟨k,h3,rfl,by lia,hs⟩
theorem ri(hn:n<2^60):∃k,3<=k/\sizeAbove n=2^k/\n<2^k/\(2^k<=2*n\/k=3):=
 pM n 64 3 (Zh _) (Zf hn (Nat.pow_le_pow_right (by decide) (by decide))) (.inr rfl)
theorem lj [DecidableEq α]:∀{l m:List α},l.Nodup->m.Nodup->(∀x,x∈l↔x∈m)->l.Perm m
 |[],m,_,_,h=>by
  cases m with
  | nil=>exact List.Perm.refl _
  | cons x m=>exact absurd ((h x).mpr Zl) (by simp)
 | x::l,m,hl,hm,h=>by
   obtain⟨h1,h2⟩:=nodup_cons.mp hl;have hx:x∈m:=(h x).mp Zl;have p:=List.perm_cons_erase hx;refine List.Perm.trans (List.Perm.cons x (lj h2 (hm.erase x) fun y=>?_)) p.symm
   constructor
   ·intro hy;exact(List.mem_erase_of_ne (fun e:y=x=>h1 (by rw[<-e];exact hy))).mpr ((h y).mp (Zj _ hy))
   ·intro hy;have hne:y≠x:=fun e=>by rw[e]at hy;exact hm.not_mem_erase hy
    rcases mem_cons.mp ((h y).mpr (List.mem_of_mem_erase hy))with q|q
    ·exact absurd q hne
    ·exact q
theorem laid_ok{t:SetTable}(hp:t.mask+1=2^k)(hb:7<=t.mask)(es:Array (Int×Value))(room:es.size<=t.mask)(finger moves:Nat)(led plain:Bool):
 ∃t' order,laid t.mask finger moves led plain (es.map (·.1))=some (t',order)/\t'.mask=t.mask/\t'.led=led/\t'.plain=plain/\t'.moves=moves/\WF t' (order.filterMap (es[·]?))/\(order.filterMap (es[·]?)).toList.Perm es.toList:=by
 obtain⟨owner,e,L⟩:=pL hp (es.map (·.1)) (by rw[size_map];lia);have hsz:(es.map (·.1)).toList.length=es.size:=by simp
 obtain⟨live,hlv⟩:∃live,(List.range (t.mask+1)).filterMap (fun j=>(owner.getD j none).map (fun q=>(j,q)))=live:=⟨_,rfl⟩
 refine⟨⟨t.mask,(live.map (·.1)).toArray,#[],finger,led,moves,plain⟩,(live.map (·.2)).toArray,by unfold laid;rw[e,<-hlv];rfl,rfl,rfl,rfl,rfl,?_⟩;have gd:∀j q,owner.getD j none=some q↔owner[j]? =some (some q):=fun j q=>by
  rw[Array.getD_eq_getD_getElem?];cases owner[j]? with
  | none=>simp
  | some o=>simp
 have mem:∀j q,(j,q)∈live↔owner[j]? =some (some q):=fun j q=>by
  rw[<-hlv,mem_filterMap]
  constructor
  ·rintro⟨j',hj',e'⟩;obtain⟨q',e1,e2⟩:=map_eq_some_iff.mp e';cases e2;exact(gd j q).mp e1
  ·intro ho;have:j<owner.size:=by
    obtain⟨h1,_⟩:=Array.getElem?_eq_some_iff.mp ho;exact h1
   refine⟨j,mem_range.mpr (by rw[L.size]at this;exact this),?_⟩;rw[(gd j q).mpr ho];rfl
 have rise:(live.map (·.1)).Pairwise (·<·):=by
  rw[<-hlv,Yw,List.pairwise_filterMap];refine List.Pairwise.imp (fun{a b} hab x hx y hy=>?_) List.pairwise_lt_range;obtain⟨_,_,rfl⟩:=map_eq_some_iff.mp hx;obtain⟨_,_,rfl⟩:=map_eq_some_iff.mp hy;exact hab
 have qlt:∀j q,(j,q)∈live->q<es.size:=fun j q h=>by
  obtain⟨h',e1,_⟩:=L.own j q ((mem j q).mp h);have:=(X6 e1).1
  lia
 have ordn:(live.map (·.2)).Nodup:=by
  rw[Yr,Yw];have nd:live.Pairwise fun a b=>a.1<b.1:=by rw[Yw]at rise;exact rise
  refine X2 (fun{a b} ha hb hab hq=>?_) nd;have h1:=(mem a.1 a.2).mp ha;have h2:=(mem b.1 b.2).mp hb;rw[<-hq]at h2;have:=L.one _ _ _ h1 h2
  lia
 have ordp:(live.map (·.2)).Perm (List.range es.size):=lj ordn nodup_range fun q=>by
  constructor
  ·intro hq;obtain⟨⟨j,q'⟩,h1,rfl⟩:=X9 hq;exact mem_range.mpr (qlt j q' h1)
  ·intro hq;obtain⟨j,hj⟩:=L.all q (by rw[hsz];exact mem_range.mp hq);exact Xa ⟨(j,q),(mem j q).mpr hj,rfl⟩
 have fm:∀(l:List Nat),(∀q∈l,q<es.size)->l.filterMap (es[·]?)=l.map (fun q=>es.getD q (0,Value.none)):=by
  intro l
  induction l with
  | nil=>intro _;rfl
  | cons q l ih=>
    intro hq;have h1:=hq q Zl;have e1:es[q]? =some (es.getD q (0,Value.none)):=by simp[Array.getD,h1]
    rw[Zy,e1,Yi,ih fun y hy=>hq y (Zj _ hy)]
 have el:((live.map (·.2)).toArray.filterMap (es[·]?)).toList=(live.map (·.2)).map (fun q=>es.getD q (0,Value.none)):=by
  rw[Array.toList_filterMap,toList_toArray];exact fm _ fun q hq=>by
   obtain⟨⟨j,q'⟩,h1,rfl⟩:=X9 hq;exact qlt j q' h1
 have er:es.toList=(List.range es.size).map (fun q=>es.getD q (0,Value.none)):=by
  apply ext_getElem
  ·simp
  ·intro i h1 h2;have h1:i<es.size:=by simpa using h1
   simp[Array.getD,h1]
 refine⟨⟨⟨k,hp⟩,hb,rfl,?_,fun j hj=>?_,?_,fun i j h x hi he=>?_⟩,?_⟩
 ·intro a b ha hb' hab;have:=List.pairwise_iff_getElem.mp rise a b (by simpa using ha) (by simpa using hb') hab;simpa using this
 ·have hj:j∈live.map (·.1):=by simpa using hj
  obtain⟨⟨j',q⟩,h1,rfl⟩:=X9 hj;have:=(Array.getElem?_eq_some_iff.mp ((mem j' q).mp h1)).1;rw[L.size]at this;show j'<=t.mask
  lia
 ·show(live.map (·.1)).toArray.size=_;rw[<-Za (xs:=Array.filterMap _ _),el];simp
 ·have hi:(live.map (·.1))[i]? =some j:=by simpa using hi
  have he:((live.map (·.2)).toArray.filterMap (es[·]?)).toList[i]? =some (h,x):=by simpa using he
  rw[el,Yj,Zk]at he;rw[Zk]at hi;cases hl:live[i]? with
  | none=>rw[hl]at hi;cases hi
  | some p=>
    obtain⟨j',q⟩:=p;rw[hl]at hi he;cases hi;have hm:=Z7 hl;obtain⟨h',e1,n,n1,n2⟩:=L.own _ q ((mem _ q).mp hm);have hq:=qlt _ q hm;have eh:h'=h:=by
     have e2:(es.map (·.1)).toList[q]? =some (es[q]).1:=by simp[hq]
     rw[e2]at e1;have e3:es.getD q (0,Value.none)=es[q]:=by simp[Array.getD,hq]
     simp only[Function.comp,Option.map_some,e3,Option.some.injEq]at he;rw[he]at e1;exact(Z9 e1).symm
    subst eh;have wm:∀n,way {mask:=t.mask,place:=(live.map (·.1)).toArray,dummies:= #[],finger:=finger,led:=led,moves:=moves,plain:=plain} h' n=way t h' n:=fun n=>mZ (t':=t) (by rfl) h' n
    refine⟨n,by rw[wm];exact n1,fun m hm'=>?_⟩;rw[wm];have hw:way t h' m<owner.size:=by rw[L.size];have:=nU t h' m;lia
    obtain⟨q',e'⟩:=(eQ hw).mp (n2 m hm');show way t h' m∈(live.map (·.1)).toArray.toList;rw[toList_toArray];exact Xa ⟨(way t h' m,q'),(mem _ _).mpr e',rfl⟩
 ·rw[el,er];exact ordp.map _
end STab
namespace STab
open PySem PySem.SetTable
section
variable{prog:Program}{w:World}{K:Type}[DecidableEq K]{knd:KeyKind prog w K}{A:Around}{E:Value->Shared->Prop}{s:Shared}
def EL(knd:KeyKind prog w K)(h:Heap)(es:Array (Int×Value)):Prop:=∀(i:Nat) e,es[i]? =some e->∃r k,e=(tupleKeyHash knd k,Value.ref r)/\IsTupleKey knd h k r
theorem jV(hk:IsTupleKey knd s.heap ks r)(h:Q false s):wpAny (model prog w) A (ofAClassStatement 8 (.ref r)) Q E s:=by
 have hT:=hk.typeIs;obtain⟨o,items,n,ho,_,hd,hi⟩:=hk;unfold ofAClassStatement;refine Z2 (wpAny_typeOf hT ?_);dsimp only;rw[if_pos (by simp)];refine Z2 (Z3 ?_);simp only[Bool.not_true,Zx,if_false];refine Z2 (wpAny_seqItems ho hd ?_);dsimp only;refine Z2 ?_;rw[<-forIn_toList];refine wpAny_forIn_list _ (fun rest r s'=>r=(none,())/\s'=s/\∃x',ItemsAre knd x' rest) _ ?_ ?_ _ _ ⟨rfl,rfl,ks,hi⟩
 ·rintro x rest r s' ⟨rfl,rfl,x',hx'⟩;cases hx' with
  | @cons k1 u' x'' xs'' h1 hx''=>
    have hb:=knd.byValue _ _ h1;have e:ofAClassStatement 7 x=pure false:=by
     cases x with
     | ref a=>simp[carriedByValue]at hb
     | _=>first|rfl|simp[ofAClassStatement]|(unfold ofAClassStatement;rfl)
    refine Z2 ?_;rw[e];refine Z3 ?_;simp only[Zx,if_false];exact Z3 ⟨rfl,rfl,x'',hx''⟩
 ·rintro r s' ⟨rfl,rfl,_⟩;exact Z3 h
theorem rj(hk:IsTupleKey knd s.heap ks r):∀(l:List Value),(∀y∈l,∃r' k',y=Value.ref r'/\IsTupleKey knd s.heap k' r')->∀{Q:Bool->Shared->Prop},Q false s->wpAny (model prog w) A (searchCouldBeSeen (.ref r) l) Q E s:=by
 intro l hl Q h;unfold searchCouldBeSeen;refine Z2 ?_;refine wpAny_forIn_list _ (fun rest x s'=>x=(none,())/\s'=s/\∀y∈rest,∃r' k',y=Value.ref r'/\IsTupleKey knd s.heap k' r') _ ?_ ?_ _ _ ⟨rfl,rfl,hl⟩
 ·rintro y rest x s' ⟨rfl,rfl,hr⟩;obtain⟨r',k',rfl,hk'⟩:=hr y Zl;have go:∀y∈rest,∃r' k',y=Value.ref r'/\IsTupleKey knd s'.heap k' r':=fun y hy=>hr y (Zj _ hy)
  dsimp only
  split
  ·exact Z3 ⟨rfl,rfl,go⟩
  ·refine Z2 (wpAny_eqIsQuiet_tuple hk ?_);simp only[Bool.not_true,Zx,if_false];refine Z2 (wpAny_eqIsQuiet_tuple hk' ?_);simp only[Bool.not_true,Zx,if_false];refine Z2 (jV hk ?_);simp only[Zx,if_false];refine Z2 (jV hk' ?_);simp only[Zx,if_false];exact Z3 ⟨rfl,rfl,go⟩
 ·rintro x s' ⟨rfl,rfl,_⟩;exact Z3 h
theorem nV(hu:A.units<cLine)(ho:s.heap.get? a=some o)(hd:o.data= .set es ep t)(W:WF t es)(room:t.place.size<=t.mask)(small:t.mask<=9000)
 (el:EL knd s.heap es) (hk:IsTupleKey knd s.heap k r)
 (h1:(∃(i:Nat) (r':Addr),es[i]? =some (tupleKeyHash knd k,Value.ref r')/\IsTupleKey knd s.heap k r')->Q (.there none) s)
 (h2:∀m,way t (tupleKeyHash knd k) m∉t.place.toList->(∀q,q<m->way t (tupleKeyHash knd k) q∈t.place.toList)->(∀(i:Nat) r' k',es[i]? =some (tupleKeyHash knd k',Value.ref r')->IsTupleKey knd s.heap k' r'->k'≠k)->Q (.free (way t (tupleKeyHash knd k) m) false) s):
 wpAny (model prog w) A (setSearch a (.ref r) (tupleKeyHash knd k) true) Q E s:=by
 generalize hh:tupleKeyHash knd k=h at h1 h2
 have hf:t.fits es.size=true:=by
  unfold fits fill;rw[W.dum];simp[W.size];rw[<-W.size];exact room
 obtain⟨m0,m1,m2,m3⟩:=rc W room h;have me:t.slot (way t h m0)= .empty:=by
  rcases ib W.rise W.dum (way t h m0)with⟨i,e,_⟩|⟨_,e⟩
  ·exact absurd (mem_toList_iff.mpr (Array.mem_of_getElem? e)) m2
  ·exact e
 have odd:t.gaveWay=false:=by
  obtain⟨c,hc⟩:=W.pow;have hb:=W.big;have c0:c≠0:=fun q=>by rw[q]at hc;lia
  obtain⟨c',rfl⟩:=Nat.exists_eq_succ_of_ne_zero c0;rw[pow_succ]at hc;unfold gaveWay;have:t.mask%2=1:=by lia
  simp[this]
 have main:∀(fuel n:Nat) (st:Option Probe),st.getD (t.probeStart h)=stand t h n->n<=m0->m0<n+fuel->(∀j,j<n->∀(i:Nat) r' k',t.slot (way t h j)= .live i->es[i]? =some (tupleKeyHash knd k',Value.ref r')->IsTupleKey knd s.heap k' r'->k'≠k)->
  wpAny (model prog w) A (setSearchFrom a (.ref r) h true fuel st) Q E s:=by
  intro fuel
  induction fuel with
  | zero=>intro n st _ a1 a2;lia
  | succ fuel ih=>
    intro n st hst hn hfu old;unfold setSearchFrom;refine Z2 (wpAny_setState_of ho hd hf ?_);dsimp only;rw[odd];simp only[Zx,if_false];rw[hst]
    generalize hpr:SetTable.probe t _ h (stand t h n)=pr
    have hpr':SetTable.probe.go t (fun i=>((es[i]?).map (·.1)).getD 0) h (10*turns t.mask) (stand t h n)=pr:=hpr;obtain⟨q,q1,q2,q3,q4⟩:=pJ (t:=t) W.dum (hashAt:=fun i=>((es[i]?).map (·.1)).getD 0) (h:=h) (10*turns t.mask) n m0 hn (by lia) me;rcases q4 with⟨e1,e2⟩|⟨i,e1,e2,e3⟩
    ·rw[e2]at hpr';subst hpr';have hq:q=m0:=by
      rcases Nat.eq_or_lt_of_le q2 with z|z
      ·exact z
      ·have:=m3 q z;rcases ib W.rise W.dum (way t h q)with⟨i,_,e'⟩|⟨z2,_⟩
       ·rw[e1]at e';cases e'
       ·exact absurd this z2
     subst hq;dsimp only;refine Z3 (h2 q m2 m3 fun i r' k' he hk' hkk=>?_);subst hkk;rw[hh]at he;have hi:i<es.size:=(Array.getElem?_eq_some_iff.mp he).1;have hp:t.place[i]? =some (t.place[i]'(by rw[W.size];exact hi)):=by simp[W.size,hi]
     obtain⟨nn,c1,c2⟩:=W.chain i _ h _ hp he;have hlv:=mY W.rise hp;have hnn:nn<q:=by
      rcases Nat.lt_trichotomy nn q with z|z|z
      ·exact z
      ·rw[z,]at c1;rw[<-c1,me]at hlv;cases hlv
      ·exact absurd (c2 q z) m2
     rw[<-c1]at hlv;by_cases hold:nn<n
     ·exact old nn hold i r' k' hlv (by rw[hh];exact he) hk' rfl
     ·obtain⟨i',e',ne'⟩:=q3 nn (by lia) hnn;rw[hlv]at e';cases e';rw[he]at ne';exact ne' rfl
    ·rw[e3]at hpr';subst hpr';obtain⟨x0,he⟩:∃e,es[i]? =some e:=by
      have hsl:t.place[i]? =some (way t h q):=by
       rcases ib W.rise W.dum (way t h q)with⟨i',p1,p2⟩|⟨_,p2⟩
       ·rw[e1]at p2;cases p2;exact p1
       ·rw[e1]at p2;cases p2
      have:=(Array.getElem?_eq_some_iff.mp hsl).1;exact⟨es[i]'(by rw[<-W.size];exact this),by simp[<-W.size,this]⟩
     obtain⟨r',k',rfl,hk'⟩:=el i x0 he;have eh:tupleKeyHash knd k'=h:=by rw[he]at e2;exact e2
     have hqm:q<m0:=Nat.lt_of_le_of_ne q2 fun z=>by rw[z,me]at e1;cases e1
     have body:wpAny (model prog w) A (do
      let equal<-holding [Value.ref r'] (eqBool (Value.ref r') (Value.ref r))
      let x<-setState a
      if(true&&equal)=true then pure (SetFound.there none)
      else match x.2.snd.sameMemory t.moves t.mask with
       | some same=>
         match if same=true then x.2.snd.slot (way t h q)else Slot.empty with
         | Slot.live i'=>
           match x.fst[i']? with
           | some (_,y')=>do
             let b<-isSame y' (Value.ref r')
             let still<-pure (if b=true then some i' else none)
             match still with
              | none=>do
                rule "set.search.anew"
                setSearchFrom a (Value.ref r) h true fuel none
              | some i'=>
                if equal=true then pure (SetFound.there (some i'))
                else setSearchFrom a (Value.ref r) h true fuel (some (stand t h (q+1)))
           | none=>do
             let still<-pure none
             match still with
              | none=>do
                rule "set.search.anew"
                setSearchFrom a (Value.ref r) h true fuel none
              | some i'=>
                if equal=true then pure (SetFound.there (some i'))
                else setSearchFrom a (Value.ref r) h true fuel (some (stand t h (q+1)))
         | x=>do
           let still<-pure none
           match still with
            | none=>do
              rule "set.search.anew"
              setSearchFrom a (Value.ref r) h true fuel none
            | some i'=>
              if equal=true then pure (SetFound.there (some i'))
              else setSearchFrom a (Value.ref r) h true fuel (some (stand t h (q+1)))
       | x=>unsupported "set.changed-during-lookup:is-the-new-block-at-the-old-address") Q E s:=by
      refine Z2 (wpAny_holding (wpAny_eqBool_tuple hu hk' hk ?_));refine Z2 (wpAny_setState_of ho hd hf ?_);dsimp only;by_cases hkk:k'=k
      ·subst hkk;rw[Ze rfl];simp only[Bool.and_self,if_true];exact Z3 (h1 ⟨i,r',by rw[<-eh];exact he,hk'⟩)
      ·rw[Zg hkk];simp only[Bool.and_false,Zx,if_false];have sm:t.sameMemory t.moves t.mask=some true:=by unfold sameMemory;rw[if_pos (by simp)]
       rw[sm];simp only[if_true];rw[e1];dsimp only;rw[he];dsimp only;have same:isSame (Value.ref r') (Value.ref r')=pure true:=by
        unfold isSame;simp
       refine Z2 ?_;rw[same];refine Z3 ?_;simp only[if_true];refine Z2 (Z3 ?_);dsimp only;refine ih (q+1) _ rfl (by lia) (by lia) fun j hj i2 r2 k2 s2 g2 t2=>?_
       by_cases hjn:j<n
       ·exact old j hjn i2 r2 k2 s2 g2 t2
       ·by_cases hjq:j=q
        ·subst hjq;rw[e1]at s2;cases s2;rw[he]at g2;have:r'=r2:=by
          have:=Z9 g2;injection this with _ z
          injection z
         subst this;rw[<-hk'.inj t2];exact hkk
        ·obtain⟨i3,p1,p2⟩:=q3 j (by lia) (by lia);rw[s2]at p1;cases p1;rw[g2]at p2;intro z;rw[z]at p2;exact p2 hh
     dsimp only;rw[he];dsimp only;by_cases hled:(!t.led)=true
     ·rw[if_pos hled];refine Z2 (rj hk _ (fun y hy=>?_) ?_)
      ·obtain⟨e,he1,rfl⟩:=X9 hy;have he2:=(Array.mem_filter.mp (mem_toList_iff.mp he1)).1;obtain⟨i2,hi2⟩:=Array.getElem?_of_mem he2;obtain⟨r2,k2,rfl,hk2⟩:=el i2 e hi2;exact⟨r2,k2,rfl,hk2⟩
      ·simp only[Zx,if_false];exact body
     ·rw[if_neg hled];exact body
 exact main 100000 0 none rfl (X0 _) (by unfold turns at m1;lia) (fun j hj=>absurd hj (Yt _))
end
end STab
namespace STab
open PySem PySem.SetTable
structure IN (es:Array (Int×Value)) (t:SetTable) (led:Bool):Prop where
 wf:WF t es
 roomy:t.place.size*5<t.mask*3
 small:t.mask<=7\/t.mask+1<=8*es.size
 led:t.led=led
 plain:es.size≠0->t.plain=false
theorem IN.fits{es:Array (Int×Value)}{t:SetTable}{led:Bool}(I:IN es t led):t.fits es.size=true:=by
 unfold SetTable.fits fill;rw[I.wf.dum];have:=I.roomy;simp[I.wf.size];rw[<-I.wf.size]
 lia
theorem IN.fresh(finger moves:Nat)(led:Bool):IN #[] (SetTable.fresh finger moves led) led:=
 ⟨⟨⟨3,rfl⟩,Zh _,rfl,fun a b ha=>absurd ha (by simp[SetTable.fresh]),fun j hj=>by simp[SetTable.fresh]at hj,rfl,fun i j h x hi=>by simp[SetTable.fresh]at hi⟩,show 0*5<7*3 from by decide,.inl (Zh _),rfl,fun q=>absurd rfl q⟩
section
variable{prog:Program}{w:World}{K:Type}[DecidableEq K]{knd:KeyKind prog w K}{A:Around}{E:Value->Shared->Prop}{s:Shared}
theorem relay_w(ho:s.heap.get? a=some o)(hd:o.data= .set es ep t)(hf:t.fits es.size=true)(hn:es.size<=n)(hw:n<=4000)
 (h:∀es' t',es'.toList.Perm es.toList->WF t' es'->t'.led=t.led->t'.plain=t.plain->n<=t'.mask->t'.mask+1<=2*n\/t'.mask<=7->Q () {s with heap:=s.heap.update a (Obj.putSet es' t')}):
 wpAny (model prog w) A (setRelay a n) Q E s:=by
 obtain⟨k,k3,ek,lt,le⟩:=ri (n:=n) (by lia);have k8:8<=2^k:=Y8 (by decide:8<=2^3) (Nat.pow_le_pow_right (by decide) k3);have hb:2^k<=2*n\/2^k=8:=by
  rcases le with q|q
  ·exact .inl q
  ·exact .inr (by rw[q])
 have hle:2^k<=8000:=by rcases hb with q|q<;> lia
 let tm:SetTable:={t with mask:=2^k-1}
 obtain⟨t',order,e1,e2,e3,e4,e5,W,P⟩:=laid_ok (t:=tm) (k:=k) (by show 2^k-1+1=2^k;lia) (by show 7<=2^k-1;lia) es (by show es.size<=2^k-1;lia) t.finger (t.movedTo (2^k-1)) t.led t.plain;have er:t.relaid (es.map (·.1)) n=some (t',order):=by
  unfold relaid;rw[ek];exact e1
 have sz:(order.filterMap (es[·]?)).size=es.size:=by rw[<-Za,P.length_eq,Za]
 unfold setRelay;refine Z2 (wpAny_setState_of ho hd hf ?_);dsimp only;rw[ek,if_neg (by rw[PySem.sizeLine_eq];lia)];rw[er];have em:t'.mask=2^k-1:=e2;have fin:=h (order.filterMap (es[·]?)) t' P W e3 e4 (by lia) (by rcases hb with q|q<;> lia);refine Z2 ?_;show wpAny (model prog w) A (if((order.filterMap (es[·]?)).size != es.size)=true then _ else pure (order.filterMap (es[·]?),t')) _ E s;rw[if_neg (by simp[sz])];refine Z3 ?_;exact wpAny_storeSet_of ho hd fin (by rw[sz,PySem.sizeLine_eq];lia)
theorem wG(ho:s.heap.get? a=some o)(hd:o.data= .set es ep t)(hf:t.fits es.size=true)(hn:es.size<=1000)(h0:es.size≠0)(hp:t.plain=false)
 (h:∀es' t',es'.toList.Perm es.toList->IN es' t' t.led->t'.plain=false->Q () {s with heap:=s.heap.update a (Obj.putSet es' t')}):
 wpAny (model prog w) A (setRelay a (grown es.size)) Q E s:=by
 have hg:grown es.size=es.size*4:=by unfold grown;rw[if_neg (by lia)]
 rw[hg];refine relay_w ho hd hf (by lia) (by lia) fun es' t' P W l p m1 m2=>?_
 have sz:es'.size=es.size:=by rw[<-Za,P.length_eq,Za]
 exact h es' t' P ⟨W,by rw[W.size,sz];lia,by rw[sz];rcases m2 with q|q<;> lia,l,fun _=>by rw[p];exact hp⟩ (by rw[p];exact hp)
theorem ub{led:Bool}(hu:A.units<cLine)(ho:s.heap.get? a=some o)(hd:o.data= .set es ep t)(I:IN es t led)(hn:es.size+1<=1000)
 (el:EL knd s.heap es) (hk:IsTupleKey knd s.heap k r) (hv:∀(s':Shared) (Q':Bool->Shared->Prop),IsTupleKey knd s'.heap k r->Q' false s'->wpAny (model prog w) A (hashByValue 8 (.ref r)) Q' E s')
 (h1:(∃(i:Nat) (r':Addr),es[i]? =some (tupleKeyHash knd k,Value.ref r')/\IsTupleKey knd s.heap k r')->Q false {s with toks:=s.toks+(k.length+1)})
 (h2:(∀(i:Nat) (r':Addr) (k':List K),es[i]? =some (tupleKeyHash knd k',Value.ref r')->IsTupleKey knd s.heap k' r'->k'≠k)->∀es' t' ep' h',h'.get? a=some {o with data:= .set es' ep' t'}->SameBut a s.heap h'->es'.toList.Perm (es.toList++[(tupleKeyHash knd k,Value.ref r)])->IN es' t' led->Q true {s with heap:=h',toks:=s.toks+(k.length+1)}):
 wpAny (model prog w) A (setAdd a (.ref r)) Q E s:=by
 unfold setAdd;refine wpAny_holding (Z2 (wpAny_pyHash_tuple hu hk ?_));unfold setAddHashed;refine wpAny_holding ?_;unfold setAddHashedIn;refine Z2 (wpAny_setState_of (s:={s with toks:=s.toks+(k.length+1)}) ho hd I.fits ?_);dsimp only;have ns:byScan (Value.ref r) es=false:=by unfold byScan;simp[Value.scannable]
 rw[ns];simp only[Zx,if_false];have sm:t.mask<=9000:=by rcases I.small with q|q<;> lia
 have rm:=I.roomy;refine Z2 (nV (s:={s with toks:=s.toks+(k.length+1)}) hu ho hd I.wf (by lia) sm el hk (fun q=>?_) fun m m1 m2 m3=>?_)
 ·exact Z3 (h1 q)
 ·dsimp only;refine Z2 (wpAny_setState_of (s:={s with toks:=s.toks+(k.length+1)}) ho hd I.fits ?_);dsimp only;have W0:=I.wf;obtain⟨p1,p2,p3,p4,p5,p6,Wp⟩:=W0.put (x:=Value.ref r) m1 m2 t.led false;obtain⟨_,_,_,_,_,_,Wq⟩:=W0.put (x:=Value.ref r) m1 m2 (t.put (way t (tupleKeyHash knd k) m)).1.led (t.put (way t (tupleKeyHash knd k) m)).1.plain;have hpe:(t.put (way t (tupleKeyHash knd k) m)).2<=es.size:=by
   rw[p1,<-W0.size];exact(ia W0.rise _).1
  have sz1:(insertAt es (t.put (way t (tupleKeyHash knd k) m)).2 (tupleKeyHash knd k,Value.ref r)).size=es.size+1:=fW _ _ _ hpe;have pm1:(insertAt es (t.put (way t (tupleKeyHash knd k) m)).2 (tupleKeyHash knd k,Value.ref r)).toList.Perm (es.toList++[(tupleKeyHash knd k,Value.ref r)]):=by
   rw[iL _ _ _ hpe];have q:=Yy (t.put (way t (tupleKeyHash knd k) m)).2 es.toList;refine List.Perm.trans List.perm_middle ?_;rw[q];exact List.perm_append_comm (l₁:=[_])
  generalize hes:insertAt es (t.put (way t (tupleKeyHash knd k) m)).2 (tupleKeyHash knd k,Value.ref r)=es1 at Wp Wq sz1 pm1
  have tail:∀t2:SetTable,WF t2 es1->t2.mask=t.mask->t2.place.size=t.place.size+1->t2.led=led->t2.plain=false->
   wpAny (model prog w) A (do storeSet a es1 t2;if(!false&&t2.tooFull)=true then do setRelay a (grown (es.size+1));pure true else pure true) Q E {s with toks:=s.toks+(k.length+1)}:=fun t2 W2 e1 e2 e3 e4=>by
   have g1:(s.heap.update a (Obj.putSet es1 t2)).get? a=some {o with data:= .set es1 (ep+1) t2}:=by
    have q:=get?_update_self (Obj.putSet es1 t2) ho (by rw[putSet_of es1 t2 hd];rfl);rwa[putSet_of es1 t2 hd]at q
   have b1:=SameBut.update s.heap a (Obj.putSet es1 t2);refine Z2 (wpAny_storeSet_of (s:={s with toks:=s.toks+(k.length+1)}) ho hd ?_ (by rw[sz1];exact Y8 hn (by decide)));have hfull:t2.tooFull=true↔t2.mask*3<=t2.place.size*5:=by
    unfold tooFull fill;rw[W2.dum];simp
   have hroom:t2.place.size<=t2.mask:=by rw[e1,e2];have:=W0.big;lia
   by_cases hf:t2.tooFull=true
   ·rw[if_pos (by simp[hf])];have hfit:t2.fits es1.size=true:=by
     unfold SetTable.fits fill;rw[W2.dum];simp[W2.size];rw[<-W2.size];exact hroom
    rw[<-sz1];refine Z2 (wG (s:={s with heap:=s.heap.update a (Obj.putSet es1 t2),toks:=s.toks+(k.length+1)}) g1 rfl hfit (by lia) (by lia) e4 fun es2 t3 P3 I3 _=>Z3 ?_);have g2:((s.heap.update a (Obj.putSet es1 t2)).update a (Obj.putSet es2 t3)).get? a=some {o with data:= .set es2 (ep+1+1) t3}:=by
     have q:=get?_update_self (Obj.putSet es2 t3) g1 (by rw[putSet_of es2 t3 rfl];rfl);rwa[putSet_of es2 t3 rfl]at q
    exact h2 m3 es2 t3 _ _ g2 (b1.trans (SameBut.update _ a _)) (P3.trans pm1) (by rw[e3]at I3;exact I3)
   ·rw[if_neg (by simp[hf])];have hnf: ¬ t2.mask*3<=t2.place.size*5:=fun q=>hf (hfull.mpr q)
    refine Z3 (h2 m3 es1 t2 _ _ g1 b1 pm1 ⟨W2,by lia,?_,e3,fun _=>e4⟩);rw[e1,sz1];rcases I.small with q|q
    ·exact .inl q
    ·exact .inr (by lia)
  by_cases hpl:(t.put (way t (tupleKeyHash knd k) m)).1.plain=true
  ·rw[if_pos hpl];refine Z2 (hv _ _ hk ?_);simp only[Zx,if_false];exact tail _ Wp p2 p3 I.led rfl
  ·rw[if_neg hpl];refine Z2 (Z3 ?_);simp only[if_true];exact tail _ Wq p2 p3 (p4.trans I.led) (by simpa using hpl)
end
end STab
namespace L2
open PySem PySem.Spec PyProof.Rows STab
noncomputable def eR{κ:Type}[DecidableEq κ](ps:List (Addr×κ))(p:Addr×κ):List (Addr×κ):=if p.2∈ps.map (·.2)then ps else ps++[p]
noncomputable def aL{κ:Type}[DecidableEq κ](l:List (Addr×κ)):List (Addr×κ):=l.foldl eR []
section
variable{κ:Type}[DecidableEq κ]
theorem wH{ps:List (Addr×κ)}{p q:Addr×κ}(h:q∈eR ps p):q∈ps\/q=p:=by
 unfold eR at h
 split at h
 ·exact .inl h
 ·rcases X7 h with h|h
  ·exact .inl h
  ·exact .inr (X8 h)
theorem uc{ps:List (Addr×κ)}{p:Addr×κ}{k:κ}:k∈(eR ps p).map (·.2)↔k∈ps.map (·.2)\/k=p.2:=by
 unfold eR;by_cases h:p.2∈ps.map (·.2)
 ·rw[if_pos h];exact⟨.inl,fun q=>q.elim id fun e=>e▸h⟩
 ·rw[if_neg h,Zc,Yk];simp
theorem ro{ps:List (Addr×κ)}{p:Addr×κ}(h:(ps.map (·.2)).Nodup):((eR ps p).map (·.2)).Nodup:=by
 unfold eR
 split
 ·exact h
 ·rename_i hn
  rw[Zc];exact km h hn
theorem sD:∀(l ps:List (Addr×κ)),(ps.map (·.2)).Nodup->((l.foldl eR ps).map (·.2)).Nodup/\(∀k,k∈(l.foldl eR ps).map (·.2)↔k∈ps.map (·.2)\/k∈l.map (·.2))/\(∀q∈l.foldl eR ps,q∈ps\/q∈l)
 |[],ps,h=>⟨h,fun k=>by simp,fun q hq=> .inl hq⟩
 | p::l,ps,h=>by
   obtain⟨h1,h2,h3⟩:=sD l (eR ps p) (ro h);rw[foldl_cons];refine⟨h1,fun k=>?_,fun q hq=>?_⟩
   ·rw[h2,uc,Yi,Yn];exact⟨fun h=>h.elim (fun h=>h.elim .inl fun e=> .inr (.inl e)) fun h=> .inr (.inr h),fun h=>h.elim (fun h=> .inl (.inl h)) fun h=>h.elim (fun e=> .inl (.inr e)) .inr⟩
   ·rcases h3 q hq with z|z
    ·rcases wH z with z|z
     ·exact .inl z
     ·exact .inr (by rw[z];exact Zl)
    ·exact .inr (Zj _ z)
theorem c8(l:List (Addr×κ)):((aL l).map (·.2)).Nodup:=(sD l [] Ys).1
theorem iM(l:List (Addr×κ))(k:κ):k∈(aL l).map (·.2)↔k∈l.map (·.2):=by
 have:=(sD l [] Ys).2.1 k;simpa [aL]using this
theorem aZ(l:List (Addr×κ)):∀q∈aL l,q∈l:=fun q hq=>by
 rcases(sD l [] Ys).2.2 q hq with z|z
 ·cases z
 ·exact z
theorem nW(val:Nat->Addr×κ)(i:Nat):aL ((List.range (i+1)).map val)=eR (aL ((List.range i).map val)) (val i):=by
 unfold aL;rw[range_succ,Zc,List.foldl_append];rfl
end
section
variable{prog:Program}{w:World}{κ:Type}[DecidableEq κ]{knd:PySem.KeyKind prog w κ}{A:Around}{E:Value->Shared->Prop}{s:Shared}{a:Addr}
def ke(w:World)(knd:PySem.KeyKind prog w κ)(a:Addr)(ps:List (Addr×List κ))(h:Heap):Prop:=
 ∃o es ep t,h.get? a=some o/\o.ExactSet/\o.data= .set es ep t/\IN es t (!aN w)/\es.toList.Perm (ps.map fun p=>(tupleKeyHash knd p.2,Value.ref p.1))
theorem ke.keep(S:ke w knd a ps h)(k:∀o,h.get? a=some o->h'.get? a=some o):ke w knd a ps h':=by
 obtain⟨o,es,ep,t,ho,r⟩:=S;exact⟨o,es,ep,t,k o ho,r⟩
theorem ko(x:IsTupleKey knd h k r)(q:∀o,h.get? r=some o->h'.get? r=some o):IsTupleKey knd h' k r:=by
 obtain⟨o,items,n,ho,z⟩:=x;exact⟨o,items,n,q o ho,z⟩
theorem wI(hu:A.units<cLine)(hS:ke w knd a ps s.heap)(tk:∀q∈ps,IsTupleKey knd s.heap q.2 q.1)(hk:IsTupleKey knd s.heap p.2 p.1)(room:ps.length+1<=1000)
 (hv:∀(s':Shared) (Q':Bool->Shared->Prop),IsTupleKey knd s'.heap p.2 p.1->Q' false s'->wpAny (model prog w) A (hashByValue 8 (.ref p.1)) Q' E s')
 (hQ:∀h' b tk,SameBut a s.heap h'->ke w knd a (eR ps p) h'->s.toks<=tk->Q b {s with heap:=h',toks:=tk}):wpAny (model prog w) A (setAdd a (.ref p.1)) Q E s:=by
 obtain⟨o,es,ep,t,ho,hex,hd,I,P⟩:=hS;have hn:es.size=ps.length:=by
  have:=P.length_eq;rw[Z5,Za]at this;exact this
 have mem:∀(i:Nat) e,es[i]? =some e->∃q∈ps,e=(tupleKeyHash knd q.2,Value.ref q.1):=fun i e he=>by
  have:e∈es.toList:=mem_toList_iff.mpr (Array.mem_of_getElem? he);obtain⟨q,hq,rfl⟩:=X9 (P.mem_iff.mp this);exact⟨q,hq,rfl⟩
 have el:EL knd s.heap es:=fun i e he=>by
  obtain⟨q,hq,rfl⟩:=mem i e he;exact⟨q.1,q.2,rfl,tk q hq⟩
 refine ub hu ho hd I (by lia) el hk hv (fun⟨i,r',e,k'⟩=>?_) fun hnone es' t' ep' h' g' sb P' I'=>?_
 ·obtain⟨q,hq,eq⟩:=mem i _ e;have er:r'=q.1:=by injection eq with _ z;injection z
  subst er;have ek:p.2=q.2:=k'.inj (tk q hq);refine hQ s.heap false _ (SameBut.refl a s.heap) ?_ (le_add_right _ _);unfold eR;rw[if_pos (Xa ⟨q,hq,ek.symm⟩)];exact⟨o,es,ep,t,ho,hex,hd,I,P⟩
 ·refine hQ h' true _ sb ?_ (le_add_right _ _);unfold eR;rw[if_neg]
  ·refine⟨_,es',ep',t',g',hex,rfl,I',P'.trans ?_⟩;rw[Zc];exact P.append_right _
  ·intro hm;obtain⟨q,hq,e⟩:=X9 hm;have:(tupleKeyHash knd q.2,Value.ref q.1)∈es.toList:=P.mem_iff.mpr (Xa ⟨q,hq,rfl⟩);obtain⟨i,hi⟩:=X1 this;exact hnone i q.1 q.2 (by simpa using hi) (tk q hq) e
end
section
variable{prog:Program}{w:World}{κ:Type}[DecidableEq κ]{knd:PySem.KeyKind prog w κ}{A:Around}{R:Result->Shared->Prop}{I:Addr}{fp wr:List Addr}{G:Array GenState->Array GenState->Prop}{n:Nat}{P:Nat->Value->Prop}{St:Nat->Shared->Prop}
theorem lZ(W:WalksS prog w A.in1 I fp wr G n P St)(S:Addr)(hSf:S∉fp)(hu:A.in1.units<cLine)(val:Nat->Addr×List κ)(hval:∀i v,i<n->P i v->v= .ref (val i).1)(U:List (List κ))(hU:U.length<=999)(hkU:∀i,i<n->(val i).2∈U)(hout:∀i,i<n->(val i).1≠S/\(val i).1∉wr)
 (hv:∀i,i<n->∀(s':Shared) (Q':Bool->Shared->Prop) (E':Value->Shared->Prop),IsTupleKey knd s'.heap (val i).2 (val i).1->Q' false s'->wpAny (model prog w) A.in1 (hashByValue 8 (.ref (val i).1)) Q' E' s'):
 ∀(k i:Nat) (s:Shared),n-i=k->i<=n->St i s->ke w knd S (aL ((List.range i).map val)) s.heap->(∀j,j<n->IsTupleKey knd s.heap (val j).2 (val j).1)->
  (∀s',Moved (S::wr) G s s'->ke w knd S (aL ((List.range n).map val)) s'.heap->R (.ok (.ret .none)) s')->codeAny (model prog w) A (.builtin "set.update.loop" ⟨[.ref S,.ref I],[]⟩) R s:=by
 have out:S∉wr:=fun h=>hSf (W.sub _ h)
 have more:∀b∈wr,b∈S::wr:=fun b hb=>Zj _ hb
 intro k
 induction k with
 | zero=>
   intro i s hk hi st hS tk fin;have e:i=n:=by lia
   subst e;refine codeAny_builtin F.entry_set_update_loop ?_;rw[Around.under_plainId F.plain_set_update_loop _];show wpAny _ A.in1 (pyNext (.ref I)>>= _) _ _ s;refine Z2 (W.done s _ _ st fun s1 m1=>?_);show wpAny _ A.in1 (ret Value.none) _ _ s1;exact Z3 (fin s1 (m1.mono more) (hS.keep fun o e=>m1.heap S o out e))
 | succ k ih=>
   intro i s hk hi st hS tk fin;have lt:i<n:=by lia
   refine codeAny_builtin F.entry_set_update_loop ?_;rw[Around.under_plainId F.plain_set_update_loop _];show wpAny _ A.in1 (pyNext (.ref I)>>= _) _ _ s;refine Z2 (W.item i s _ _ lt st fun v s1 pv st1 m1=>?_);obtain rfl:=hval i v lt pv;have hS1:=hS.keep (h':=s1.heap) fun o e=>m1.heap S o out e
   have tk1:∀j,j<n->IsTupleKey knd s1.heap (val j).2 (val j).1:=fun j hj=>ko (tk j hj) fun o e=>m1.heap _ o (hout j hj).2 e
   have tkf:∀q∈aL ((List.range i).map val),IsTupleKey knd s1.heap q.2 q.1:=fun q hq=>by
    obtain⟨j,hj,rfl⟩:=X9 (aZ _ q hq);exact tk1 j (by have:=mem_range.mp hj;lia)
   have room:(aL ((List.range i).map val)).length+1<=1000:=by
    have q:=nodup_sub (c8 ((List.range i).map val)) (m:=U) fun k hk=>by
     obtain⟨p,hp,rfl⟩:=X9 ((iM _ k).mp hk);obtain⟨j,hj,rfl⟩:=X9 hp;exact hkU j (by have:=mem_range.mp hj;lia)
    rw[Z5]at q
    lia
   show wpAny _ A.in1 (holding [Value.ref (val i).1] (setAdd S (.ref (val i).1))>>= _) _ _ s1;refine Z2 (wpAny_holding (wI (p:=val i) hu hS1 tkf (tk1 i lt) room (fun s' Q'=>hv i lt s' Q' _) fun h2 b tk2 sb hS2 htk=>?_));have hS2':ke w knd S (aL ((List.range (i+1)).map val)) h2:=by rw[nW];exact hS2
   refine Z3 ⟨plainId_quiet F.plain_set_update_loop _,ih (i+1) _ (by lia) lt (W.frame _ s1 _ _ st1 htk fun b hb o e=>?_) hS2' (fun j hj=>ko (tk1 j hj) fun o e=>by rw[sb.2 _ (hout j hj).1];exact e) fun s3 m3 hS3=>?_⟩
   ·rw[sb.2 b (fun q:b=S=>hSf (q▸hb))];exact e
   ·refine fin s3 (Moved.trans W.gtrans ((m1.mono more).then_heap htk fun b o hb e=>?_) m3) hS3;rw[sb.2 b (fun q:b=S=>hb (by rw[q];exact Zl))];exact e
end
section
variable{prog:Program}{w:World}{κ:Type}[DecidableEq κ]{knd:PySem.KeyKind prog w κ}{A:Around}{E:Value->Shared->Prop}{s:Shared}
theorem l7(hh:A.handled=none)(hu:A.units+16<cLine)(hl:s.heap.IsList l items)(hi:items.toList=ps.map fun p=>Value.ref p.1)(tk:∀p∈ps,IsTupleKey knd s.heap p.2 p.1)(U:List (List κ))(hU:U.length<=999)(hkU:∀p∈ps,p.2∈U)
 (hv:∀p∈ps,∀(B:Around) (s':Shared) (Q':Bool->Shared->Prop) (E':Value->Shared->Prop),IsTupleKey knd s'.heap p.2 p.1->Q' false s'->wpAny (model prog w) B (hashByValue 8 (.ref p.1)) Q' E' s')
 (hQ:∀(h':Heap) (tk:Nat),ke w knd s.heap.objs.size (aL ps) h'->(∀b o,s.heap.get? b=some o->h'.get? b=some o)->Q (.ref s.heap.objs.size) {s with heap:=h',toks:=tk}):
 wpAny (model prog w) A (call (.type "set") [.ref l]) Q E s:=by
 obtain⟨c,tl,hmro⟩:=called_set.mro;have hmade:=called_set.made;have hsub:=called_set.sub;refine wpAny_call (codeAny_of_tree ?_);show wpAny _ _ (callAny (.type "set") _) _ _ _;refine Z3 ⟨Code.quiet_builtin _ (by decide +kernel),codeAny_builtin F.entry_type_call ?_⟩;rw[Around.under_plain (weight_type_call_type "set" [.ref l] []) rfl];have ht1:=called_set.notType;have ht2:=called_set.canCreate;have ht3:=PySem.F.typeCall_set_1 (.ref l)
 repeat any_goals first|assumption|wp_step
 refine codeAny_mono (pA (.ref l) (E:=E) (Q₁:=fun obj s₁=>obj= .ref s.heap.objs.size/\s₁={s with heap:=s.heap.push (newSetO w)}) ⟨rfl,rfl⟩) fun r s₁ hr=>?_
 cases r with
 | error e=>exact hr
 | ok fl=>
   cases fl with
   | ret obj=>
     obtain⟨rfl,rfl⟩:=hr;have gS:(s.heap.push (newSetO w)).get? s.heap.objs.size=some (newSetO w):=Zi _ rfl;have tS:Shared.TypeIs {s with heap:=s.heap.push (newSetO w)} (.ref s.heap.objs.size) "set":=⟨_,gS,rfl⟩
     have hli:=called_set.init.lookup;have hbi:=called_set.init.bind (.ref s.heap.objs.size)
     repeat any_goals first|assumption|wp_step
     refine codeAny_mono (codeAny_call_builtin (R:=wants (fun r s₂=>r= .none/\∃h' tk,s₂={s with heap:=h',toks:=tk}/\ke w knd s.heap.objs.size (aL ps) h'/\(∀b o,s.heap.get? b=some o->h'.get? b=some o)) E) called_set.init.plain F.entry_set_init (check_set_init_1 tS ?_)) fun r₂ s₂ hr₂=>?_
     ·obtain⟨ol,gl,cl,nl,dl⟩:=hl;obtain⟨ocls,odict,odata,oslots⟩:=ol;simp only at cl dl;subst cl;subst dl;have gl':(s.heap.push (newSetO w)).get? l=some {cls:= .type "list",dict:=odict,data:= .seq items nl,slots:=oslots}:=Z6 _ gl;have no1:=PySem.F.sub_list_set;have no2:=PySem.F.sub_list_frozenset;have no3:(Value.type "list"==Value.type "dict")=false:=by decide
      have isl:(s.heap.push (newSetO w)).IsList l items:=⟨_,gl',rfl,nl,rfl⟩
      unfold Builtin.«set.__init__»;unfold noKeywords;unfold Builtin.Frozenset.updateFrom
      generalize hPI:pyIter=PI
      wp_walk
      subst hPI;refine wpAny_pyIter_list isl (Z2 (wpAny_runValue ?_));have llt:l<s.heap.objs.size:=Zt gl;have h3:A.in1.in1.in1.handled=none:=by simp[hh]
      have nz:(s.heap.push (newSetO w)).objs.size=s.heap.objs.size+1:=Zp ..;have ne1:l≠(s.heap.push (newSetO w)).objs.size:=by rw[nz];exact Zr (Yf llt)
      have ne2:s.heap.objs.size∉[(s.heap.push (newSetO w)).objs.size,l]:=by
       rw[nz];simp only[Yn,Yu,or_false,not_or];exact⟨Zr (Yg _),Yp llt⟩
      have hlen:items.size=ps.length:=by rw[<-Za,hi,Z5]
      have hun:A.in1.in1.in1.units<cLine:=by simp only[Around.in1];lia
      have vat:∀i,i<items.size->∃p∈ps,ps[i]? =some p/\ps.getD i (0,[])=p:=fun i h=>by
       have h':i<ps.length:=by lia
       exact⟨ps[i],Y6 h',by simp[h'],by simp[Zb,h']⟩
      refine lZ (knd:=knd) ((Walks.list h3 _ l ne1 items).toS) s.heap.objs.size ne2 hun (fun i=>ps.getD i (0,[])) (fun i v hlt hv'=>?_) U hU (fun i hlt=>?_) (fun i hlt=>?_) (fun i hlt=>?_) (items.size-0) 0 _ (by lia) (X0 _)
       ⟨⟨_,Zi _ rfl,rfl,rfl⟩,isl.push _⟩ ⟨_,#[],0,_,Z6 _ gS,⟨rfl,rfl,rfl⟩,rfl,IN.fresh 0 0 _,List.Perm.refl _⟩ (fun j hlt=>?_) ?_
      ·obtain⟨p,hp,e1,e2⟩:=vat i hlt;have:items.toList[i]? =some v:=by rw[getElem?_toList];exact hv'
       rw[hi,Zk,e1]at this;show v= .ref (ps.getD i (0,[])).1;rw[e2];exact(Z9 this).symm
      ·obtain⟨p,hp,e1,e2⟩:=vat i hlt;show(ps.getD i (0,[])).2∈U;rw[e2];exact hkU p hp
      ·obtain⟨p,hp,e1,e2⟩:=vat i hlt;obtain⟨po,_,_,pg,_⟩:=tk p hp;have plt:=Zt pg;show(ps.getD i (0,[])).1≠_/\(ps.getD i (0,[])).1∉_;rw[e2];refine⟨Zr plt,?_⟩;simp only[Yn,Yu,or_false,nz];exact Zr (Yf plt)
      ·obtain⟨p,hp,e1,e2⟩:=vat i hlt;intro s' Q' E';show IsTupleKey knd s'.heap (ps.getD i (0,[])).2 (ps.getD i (0,[])).1->_->wpAny _ _ (hashByValue 8 (.ref (ps.getD i (0,[])).1)) _ _ _;rw[e2];exact hv p hp _ s' Q' E'
      ·obtain⟨p,hp,e1,e2⟩:=vat j hlt;show IsTupleKey knd _ (ps.getD j (0,[])).2 (ps.getD j (0,[])).1;rw[e2];exact ko (tk p hp) fun o e=>Z6 _ (Z6 _ e)
      intro s3 m3 S3;have hr:(List.range items.size).map (fun i=>ps.getD i (0,[]))=ps:=by
       rw[hlen];apply ext_getElem
       ·simp
       ·intro i h1 h2;simp[Zb,h2]
      rw[hr]at S3;obtain⟨h',g',d',tk',os'⟩:=s3;have eg:g'=s.gens:=m3.gens;have ed:d'=s.drawn:=m3.drawn;have eo:os'=s.os:=m3.os;subst eg;subst ed;subst eo;refine Z3 ?_;show wpAny _ _ (ret Value.none) _ _ _;refine Z3 ⟨rfl,h',tk',rfl,S3,fun b o e=>?_⟩;have blt:=Zt e;refine m3.heap b o ?_ (Z6 _ (Z6 _ e));simp only[Yn,Yu,or_false,not_or,nz];exact⟨Zr blt,Zr (Yf blt)⟩
     ·cases r₂ with
      | error e=>exact hr₂
      | ok fl₂=>
        cases fl₂ with
        | ret r=>
          obtain⟨rfl,h',tk,rfl,S3,k3⟩:=hr₂
          repeat any_goals first|assumption|wp_step
          exact hQ _ _ S3 k3
        | _=>exact hr₂.elim
   | _=>exact hr.elim
end
open PySem PySem.Spec PyProof.Rows
section
variable{prog:Program}{w:World}{A:Around}{s:Shared}
theorem gW{Nv:Value->Nat}{P:Fin->Shared->Prop}(ho:s.heap.get? a=some (seqObj "list" vs.toArray n))(hsz:vs.length<64)
 (hkk:∀h6:Heap,(∀b o,b≠a->s.heap.get? b=some o->h6.get? b=some o)->2<=vs.length->∀Q:SortKind->Shared->Prop,Q kd {s with heap:=h6}->wpAny (model prog w) A (keyKind' vs.toArray) Q E {s with heap:=h6})
 (hc:∀h6:Heap,(∀b o,b≠a->s.heap.get? b=some o->h6.get? b=some o)->SBig.Cmp prog w A (fun s'=>s'={s with heap:=h6}) kd (fun x=>x.1∈vs) (fun x=>Nv x.1))
 (h:∀out:List Value,out.Perm vs->out.Pairwise (fun x y=>Nv x<=Nv y)->P (.done (.ret .none)) {s with heap:=sortedHeap s.heap a vs out.toArray}):
 wpAny (model prog w) A (Builtin.«list.sort» ⟨[.ref a],[]⟩) P E s:=by
 rw[list_sort_plain];have ha:a<s.heap.objs.size:=Zt ho;have hsl:vs.length<=sizeLine:=Y8 (le_of_lt hsz) (by decide);refine Z2 (listItems_at ho rfl ?_);refine Z2 (listUpdate_at ho rfl ?_ (by simpa using hsl));obtain⟨e1,ho1⟩:∃e1,(s.heap.update a (Obj.mapSeq fun _=> #[])).get? a=some (seqObj "list" #[] e1):=⟨_,get?_update_seq ho (fun _=> #[])⟩
 refine Z2 (seqEpoch_at ho1 rfl ?_);refine Z2 (wpAny_newTuple ?_ (by simpa using hsl));refine Z2 (wpAny_newList ?_);refine wpAny_holding ?_;have keep:∀b o,b≠a->s.heap.get? b=some o->(((s.heap.update a (Obj.mapSeq fun _=> #[])).push (seqObj "tuple" vs.toArray 0)).push (seqObj "list" #[] 0)).get? b=some o:=fun b o hb e=>
  Z6 _ (Z6 _ ((get?_update_other _ _ (Ne.symm hb)).trans e))
 have ho6:(((s.heap.update a (Obj.mapSeq fun _=> #[])).push (seqObj "tuple" vs.toArray 0)).push (seqObj "list" #[] 0)).get? a=some (seqObj "list" #[] e1):=by
  rw[Heap.get?_push_ne _ _ _ (by rw[size_push',Heap.size_update];exact Zr (Yf ha)),Heap.get?_push_ne _ _ _ (by rw[Heap.size_update];exact Zr ha)];exact ho1
 have hkk:=hkk _ keep;have hc:=hc _ keep;show wpAny (model prog w) A _ P E {s with heap:=((s.heap.update a (Obj.mapSeq fun _=> #[])).push (seqObj "tuple" vs.toArray 0)).push (seqObj "list" #[] 0)};dsimp only;have hvs:vs.toArray.size=vs.length:=by simp
 have zp:(vs.toArray.zip vs.toArray).toList=vs.map fun v=>(v,v):=by
  rw[Array.toList_zip,toList_toArray];apply ext_getElem
  ·simp
  ·intro i h1 h2;simp
 have fin:∀st':SortSt,(arrOf st').toList.Perm (vs.map fun v=>(v,v))->SBig.Srt (fun x=>Nv x.1) (arrOf st').toList->P (.done (.ret .none)) {s with heap:=sortedHeap s.heap a vs ((arrOf st').map (·.2))}:=by
  intro st' hp hs;have eq:∀x∈(arrOf st').toList,x.1=x.2:=fun x hx=>by
   obtain⟨v,_,rfl⟩:=X9 (hp.mem_iff.mp hx);rfl
  have e:(arrOf st').map (·.2)=((arrOf st').toList.map (·.2)).toArray:=by
   apply Array.ext';simp
  rw[e];refine h _ ?_ ?_
  ·have:=hp.map (·.2);rwa[Yj,show((fun x:Keyed=>x.2) ∘ fun v:Value=>(v,v))=id from rfl,map_id]at this
  ·rw[Yw];exact X2 (fun{x y} hx hy q=>by rw[<-eq x hx,<-eq y hy];exact q) hs
 by_cases h2:vs.toArray.size<2
 ·rw[if_pos h2,if_pos h2];refine Z2 (Z3 ?_);rw[StateT.run_pure];refine Z2 (Z3 ?_);dsimp only;refine Z2 (seqEpoch_at ho6 rfl ?_);refine Z2 (listUpdate_at ho6 rfl ?_ (hsz2:=by rw[size_map];show(pairsOf vs).size<=_;rw[pairsOf_size,sizeLine_eq];lia));simp only[bne_self_eq_false,Zx,if_false];refine Z3 (fin (SortSt.mk' general' (vs.toArray.zip vs.toArray) #[] 7 none) (by show(vs.toArray.zip vs.toArray).toList.Perm _;rw[zp]) ?_);show List.Pairwise _ (vs.toArray.zip vs.toArray).toList;rw[zp]
  match vs,hvs,h2 with
  |[],_,_=>exact List.Pairwise.nil
  |[v],_,_=>exact List.pairwise_singleton _ _
  | v1::v2::r,h3,h4=>simp at h4;lia
 ·rw[if_neg h2,if_neg h2];refine Z2 (hkk (by lia) _ ?_);refine Z2 (wpAny_mono (SBig.sc_sortFew (D:=fun x=>x.1∈vs) (st:=SortSt.mk' kd (vs.toArray.zip vs.toArray) #[] 7 none) hc (fun x hx=>?_) ?_ ?_ rfl rfl
   (Q:=fun _ st'=>(arrOf st').toList.Perm (vs.map fun v=>(v,v))/\failedOf st'=none/\SBig.Srt (fun x=>Nv x.1) (arrOf st').toList) (fun st' a1 a2 a3=>⟨?_,a3,a2⟩) _ rfl) ?_ fun _ _ e=>e.elim)
  ·have hx:x∈(vs.toArray.zip vs.toArray).toList:=hx;rw[zp]at hx;obtain⟨v,hv,rfl⟩:=X9 hx;exact hv
  ·show 1<=(vs.toArray.zip vs.toArray).size;rw[<-Za,zp,Z5]
   lia
  ·show(vs.toArray.zip vs.toArray).size<64;rw[<-Za,zp,Z5];exact hsz
  ·have a1:(arrOf st').toList.Perm (vs.toArray.zip vs.toArray).toList:=a1;rwa[zp]at a1
  ·rintro⟨⟨⟩,st'⟩ s' ⟨rfl,hp,hf,hs⟩;dsimp only at hp hf hs ⊢;refine Z2 (seqEpoch_at ho6 rfl ?_);refine Z2 (listUpdate_at ho6 rfl ?_ (hsz2:=?_))
   ·rw[hf];simp only[bne_self_eq_false,Zx,if_false];exact Z3 (fin st' hp hs)
   ·rw[size_map,<-Za,hp.length_eq,Z5];exact Nat.le_succ_of_le hsl
end
noncomputable def aR(x y:Str):Bool:=decide (x.cps.toList<y.cps.toList)
noncomputable def cC:List Str->List Str->Bool
 |[],[]=>false
 |[],_::_=>true
 | _::_,[]=>false
 | x::xs,y::ys=>if x=y then cC xs ys else aR x y
theorem eB(x:Str):aR x x=false:=Zg (List.lt_irrefl _)
theorem A3{x y:Str}(h:x.cps.toList=y.cps.toList):x=y:=by
 obtain⟨⟨l⟩⟩:=x;obtain⟨⟨m⟩⟩:=y;simp at h;rw[h]
theorem eS(h1:aR x y=true)(h2:aR y z=true):aR x z=true:=Ze (List.lt_trans (Zn h1) (Zn h2))
theorem dJ{x y:Str}(h:aR x y=false)(hn:x≠y):aR y x=true:=by
 have h1: ¬ x.cps.toList<y.cps.toList:=of_decide_eq_false h;have h2:y.cps.toList<=x.cps.toList:=h1;refine Ze (Classical.byContradiction fun h3=>hn (A3 ?_));exact List.le_antisymm h3 h2
theorem sE:∀x:List Str,cC x x=false
 |[]=>rfl
 | x::xs=>by rw[cC,if_pos rfl];exact sE xs
theorem gG:∀{x y z:List Str},cC x y=true->cC y z=true->cC x z=true
 |[],[],z,h1,h2=>by cases h1
 |[],y::ys,[],h1,h2=>by cases h2
 |[],y::ys,z::zs,h1,h2=>rfl
 | x::xs,[],z,h1,h2=>by cases h1
 | x::xs,y::ys,[],h1,h2=>by cases h2
 | x::xs,y::ys,z::zs,h1,h2=>by
   rw[cC]at h1 h2 ⊢;by_cases e1:x=y
   ·rw[if_pos e1]at h1;subst e1;by_cases e2:x=z
    ·rw[if_pos e2]at h2 ⊢;exact gG h1 h2
    ·rw[if_neg e2]at h2 ⊢;exact h2
   ·rw[if_neg e1]at h1;by_cases e2:y=z
    ·rw[if_pos e2]at h2;subst e2;rw[if_neg e1];exact h1
    ·rw[if_neg e2]at h2;have h3:=eS h1 h2;have e3:x≠z:=fun e=>by rw[e,eB]at h3;cases h3
     rw[if_neg e3];exact h3
theorem jt:∀{x y:List Str},cC x y=false->x≠y->cC y x=true
 |[],[],h1,h2=>absurd rfl h2
 |[],y::ys,h1,h2=>by cases h1
 | x::xs,[],h1,h2=>rfl
 | x::xs,y::ys,h1,h2=>by
   rw[cC]at h1 ⊢;by_cases e1:x=y
   ·rw[if_pos e1]at h1;rw[if_pos e1.symm];exact jt h1 fun e=>h2 (by rw[e1,e])
   ·rw[if_neg e1]at h1;rw[if_neg (Ne.symm e1)];exact dJ h1 e1
noncomputable def eT(ks:List (List Str))(k:List Str):Nat:=ks.countP fun u=>cC u k
theorem iN(hx:x∈ks):cC x y=decide (eT ks x<eT ks y):=by
 have up:∀(l:List (List Str)) (p q:List Str->Bool),(∀u∈l,p u=true->q u=true)->l.countP p<=l.countP q:=fun l p q h=>List.countP_mono_left h
 cases h:cC x y with
 | true=>
   symm
   refine Ze ?_;have gen:∀l:List (List Str),x∈l->l.countP (fun u=>cC u x)<l.countP (fun u=>cC u y):=by
    intro l
    induction l with
    | nil=>intro hx;cases hx
    | cons u l ih=>
      intro hx;rw[countP_cons,countP_cons];have le:=up l (fun u=>cC u x) (fun u=>cC u y) fun u _ hu=>gG hu h
      rcases mem_cons.mp hx with e|e
      ·subst e;rw[if_neg (by rw[sE];simp),if_pos h]
       lia
      ·have:=ih e;by_cases hu:cC u x=true
       ·rw[if_pos hu,if_pos (gG hu h)]
        lia
       ·rw[if_neg hu]
        split<;> lia
   exact gen ks hx
 | false=>
   symm
   refine Zg (Nat.not_lt.mpr ?_);refine up ks _ _ fun u _ hu=>?_
   by_cases e:x=y
   ·rw[e];exact hu
   ·exact gG hu (jt h e)
section
variable{prog:Program}{w:World}{A:Around}{s:Shared}{E:Value->Shared->Prop}
abbrev ue(prog:Program)(w:World)(h:Heap)(zs:List Str)(r:Addr):Prop:=IsTupleKey (aA prog w) h (zs.map Sum.inr) r
theorem eU:∀{zs:List Str} {vs:List Value},ItemsAre (aA prog w) (zs.map Sum.inr) vs->StrsAre vs zs
 |[],_,h=>by cases h;exact .nil
 | z::zs,_,h=>by
   cases h with
   | cons h1 h2=>
     have h1:iw (Sum.inr z) _=true:=h1;rcases aY h1 with⟨i,t,q1,q2⟩|⟨y,t,q1,q2⟩
     ·cases q1
     ·cases q1;subst q2;exact .cons z t (eU h2)
theorem zK:∀(x y:List Str) (vs us:List Value) (i:Nat),StrsAre vs x->StrsAre us y->(x.length=y.length)->fin=false->Q (cC x y) s->PySem.W.KatLex prog w A b fin Q (vs.zip us) i s
 |[],[],_,_,i,.nil,.nil,_,hf,h=>by rw[hf];exact h
 | x::xs,y::ys,_,_,i,.cons _ t hx,.cons _ u hy,hl,hf,h=>by
   rw[List.zip_cons_cons];refine PySem.W.kat_cons (eqBool_str ?_);rw[cC]at h;by_cases e:x=y
   ·subst e;rw[if_pos rfl]at h;rw[beq_self_eq_true];exact PySem.W.kat_yes (zK xs ys _ _ (i+1) hx hy (by simpa using hl) hf h)
   ·rw[if_neg e]at h;rw[beq_eq_false_iff_ne.mpr e];refine PySem.W.kat_no ?_;cases hb:(b&&i==0)with
    | true=>exact oneLt_str h
    | false=>exact PySem.W.kat_one _ _ (lt_str h)
theorem yT(hx:ue prog w s.heap x r)(hy:ue prog w s.heap y q)(hl:x.length=y.length)(h:Q (cC x y) s):wpAny (model prog w) A (keyLt' (tuples' b) (.ref r) (.ref q)) Q E s:=by
 obtain⟨ox,xs,nx,gx,_,dx,ix⟩:=hx;obtain⟨oy,ys,ny,gy,_,dy,iy⟩:=hy;have sx:=eU ix;have sy:=eU iy;refine PySem.W.kat_lt gx dx gy dy (zK x y _ _ 0 sx sy hl ?_ h);have l1:=bp sx;have l2:=bp sy;rw[Za]at l1 l2;exact Zg (by lia)
end
theorem pN [DecidableEq κ][DecidableEq μ](g:κ->μ)(hg:∀a b,g a=g b->a=b)(l:List (Addr×κ)):aL (l.map fun p=>(p.1,g p.2))=(aL l).map fun p=>(p.1,g p.2):=by
 have go:∀(l ps:List (Addr×κ)),(l.map fun p=>(p.1,g p.2)).foldl eR (ps.map fun p=>(p.1,g p.2))=(l.foldl eR ps).map fun p=>(p.1,g p.2):=by
  intro l
  induction l with
  | nil=>intro ps;rfl
  | cons p l ih=>
    intro ps;rw[Yi,foldl_cons,foldl_cons];have e:eR (ps.map fun p=>(p.1,g p.2)) (p.1,g p.2)=(eR ps p).map fun p=>(p.1,g p.2):=by
     unfold eR;have hm:(g p.2∈(ps.map fun p=>(p.1,g p.2)).map (·.2))↔p.2∈ps.map (·.2):=by
      rw[Yj]
      constructor
      ·intro h;obtain⟨q,hq,e⟩:=X9 h;exact Xa ⟨q,hq,hg _ _ e⟩
      ·intro h;obtain⟨q,hq,e⟩:=X9 h;exact Xa ⟨q,hq,by show g q.2=g p.2;rw[e]⟩
     by_cases h:p.2∈ps.map (·.2)
     ·rw[if_pos h,if_pos (hm.mpr h)]
     ·rw[if_neg h,if_neg (fun z=>h (hm.mp z)),Zc];rfl
    rw[e];exact ih _
 exact go l []
noncomputable abbrev yU(p:Addr×List Str):Addr×List Key:=(p.1,p.2.map Sum.inr)
theorem nX:∀a b:List Str,a.map (Sum.inr:Str->Key)=b.map Sum.inr->a=b
 |[],[],_=>rfl
 |[],_::_,h=>by cases h
 | _::_,[],h=>by cases h
 | x::xs,y::ys,h=>by
   rw[Yi,Yi]at h;injection h with h1 h2
   injection h1 with h3
   rw[h3,nX xs ys h2]
section
variable{prog:Program}{w:World}{A:Around}{E:Value->Shared->Prop}{s:Shared}{S:Addr}
theorem lq:∀{vs:List Value} {zs:List Str},StrsAre vs zs->ItemsAre (aA prog w) (zs.map Sum.inr) vs
 | _,_,.nil=> .nil
 | _,_,.cons x t h=> .cons (cO x t) (lq h)
theorem yV(hz:zs≠[])(hk:ue prog w s.heap zs r)(h:Q false s):wpAny (model prog w) A (hashByValue 8 (.ref r)) Q E s:=by
 have hT:=hk.typeIs;obtain⟨o,items,n,ho,_,hd,hi⟩:=hk;have hs:=eU hi;unfold hashByValue;refine Z2 (wpAny_specialOf hT F.slot_tuple_hash.lookup ?_);dsimp only;refine Z2 (wpAny_seqItems ho hd ?_);refine Z2 ?_;simp only[Option.getD_some];rw[<-forIn_toList]
 match zs,items.toList,hs,hz with
 | z::zs,_,.cons _ t hr,_=>
   rw[forIn_cons];refine Z2 ?_;refine Z2 ?_;rw[show hashByValue 7 (Value.str z t)=pure false from rfl];refine Z3 ?_;simp only[Bool.not_false,if_true];refine Z3 ?_;exact Z3 (Z3 h)
noncomputable def kOf(ps:List (Addr×List Str)):Value->List Str
 | .ref r=>((ps.find? fun p=>p.1==r).map (·.2)).getD []
 | _=>[]
noncomputable def aOf:Value->Addr
 | .ref r=>r
 | _=>0
theorem lr(hcol:∀(E1:Value->Shared->Prop) (R:List Value->Shared->Prop),(∀s1 vs,vs.Perm (ps.map fun p=>Value.ref p.1)->(∀b o,s.heap.get? b=some o->s1.heap.get? b=some o)->s1.gens=s.gens->s1.os=s.os->R vs s1)->wpAny (model prog w) A.in1 (collect (.ref S)) R E1 s)(tk:∀p∈ps,ue prog w s.heap p.2 p.1)(hm:∀p∈ps,p.2.length=m)(m0:m≠0)(few:ps.length<64)
 (hQ:∀(s1 s':Shared) (l:Addr) (ss:List (Addr×List Str)) (n:Nat),ss.Perm ps->ss.Pairwise (fun a b=>cC b.2 a.2=false)->(∀b o,s.heap.get? b=some o->s1.heap.get? b=some o)->s1.gens=s.gens->s1.os=s.os->(∀b o,s1.heap.get? b=some o->s'.heap.get? b=some o)->s'.gens=s1.gens->s'.os=s1.os->s1.heap.objs.size<=l->s'.heap.get? l=some {cls:= .type "list",data:= .seq (ss.map fun p=>Value.ref p.1).toArray n}->Q (.ref l) s'):
 wpAny (model prog w) A (call (.builtin "sorted") [.ref S]) Q E s:=by
 have key:∀p∈ps,kOf ps (.ref p.1)=p.2:=fun p hp=>by
  show((ps.find? fun q=>q.1==p.1).map (·.2)).getD []=p.2;cases hf:ps.find? fun q=>q.1==p.1 with
  | none=>
    have:=List.find?_eq_none.mp hf p hp;simp at this
  | some q=>
    have hq:=List.mem_of_find?_eq_some hf;have e:q.1=p.1:=by have:=List.find?_some hf;simpa using this
    show q.2=p.2;have t1:=tk q hq;rw[e]at t1;exact nX _ _ (t1.inj (tk p hp))
 refine Calls.call_function_entry kind_sorted plain_sorted entry_sorted (args_sorted1 _) ?_;unfold Builtin.«sorted»;refine Z2 (m:=checkCount "sorted" 1 1 _) (Z3 ?_);refine Z2 (hcol _ _ fun s1 vs q2 k1 g1 o1=>?_);have hl:vs.length=ps.length:=by rw[q2.length_eq,Z5]
 have mem:∀v∈vs,∃p∈ps,v=Value.ref p.1:=fun v hv=>by
  obtain⟨p,hp,rfl⟩:=X9 (q2.mem_iff.mp hv);exact⟨p,hp,rfl⟩
 refine Z2 (wpAny_newList ?_ (by rw[sizeLine_eq];lia));have gL:(s1.heap.push (seqObj "list" vs.toArray 0)).get? s1.heap.objs.size=some (seqObj "list" vs.toArray 0):=Zi _ rfl;have tk1:∀p∈ps,∀h6:Heap,(∀b o,b≠s1.heap.objs.size->(s1.heap.push (seqObj "list" vs.toArray 0)).get? b=some o->h6.get? b=some o)->ue prog w h6 p.2 p.1:=fun p hp h6 k6=>by
  refine ko (tk p hp) fun o e=>?_
  have e1:=k1 _ _ e;exact k6 _ _ (Zr (Zt e1)) (Z6 _ e1)
 refine Z2 (wpAny_holding (wpAny_call_entry slot_list_sort ⟨_,gL,rfl⟩ entry_list_sort (gW (s:={s1 with heap:=s1.heap.push (seqObj "list" vs.toArray 0)}) (kd:=tuples' true) (Nv:=fun v=>eT (ps.map (·.2)) (kOf ps v)) gL (by lia) (fun h6 k6 hv2 Q6 hq6=>?_) (fun h6 k6=>?_) fun out p1 p2=>⟨_,rfl,?_⟩) (args_list_sort _)))
 ·have tups:∀l:List Value,(∀v∈l,∃p∈ps,v=Value.ref p.1)->∃fs:List Value,KatTups h6 l fs/\fs.length=l.length/\∀f∈fs,∃z t,f=Value.str z t:=by
   intro l
   induction l with
   | nil=>intro _;exact⟨[],KatTups.nil,rfl,fun f hf=>by cases hf⟩
   | cons v l ih=>
     intro hv;obtain⟨fs,f1,f2,f3⟩:=ih fun u hu=>hv u (Zj _ hu)
     obtain⟨p,hp,rfl⟩:=hv v Zl;obtain⟨o',items,n',g',c',d',i'⟩:=tk1 p hp h6 k6;have hs':=eU i';have hne:p.2≠[]:=fun e=>by have:=hm p hp;rw[e]at this;exact m0 this.symm
     obtain⟨z,zs,ez⟩:∃z zs,p.2=z::zs:=by
      cases hp2:p.2 with
      | nil=>exact absurd hp2 hne
      | cons z zs=>exact⟨z,zs,rfl⟩
     rw[ez]at hs';obtain⟨t',vr,ev⟩:∃t' vr,items.toList=Value.str z t'::vr:=by
      cases hit:items.toList with
      | nil=>rw[hit]at hs';cases hs'
      | cons a b=>
        rw[hit]at hs';cases hs' with
        | cons _ t' _=>exact⟨t',b,rfl⟩
     have e0:items[0]? =some (Value.str z t'):=by
      have:items.toList[0]? =some (Value.str z t'):=by rw[ev];rfl
      simpa using this
     exact⟨Value.str z t'::fs,KatTups.cons g' c' d' e0 f1,by simp[f2],fun f hf=>by
      rcases mem_cons.mp hf with e|e
      ·exact⟨z,t',e⟩
      ·exact f3 f e⟩
  obtain⟨fs,f1,f2,f3⟩:=tups vs mem;refine PySem.W.kat_kind (T:= .type "str") f1 (by lia) (fun f hf=>?_) (by decide) hq6;obtain⟨z,t',rfl⟩:=f3 f hf;exact Looks.of_pure rfl
 ·intro x y s' hx hy hs';subst hs';obtain⟨p,hp,ep'⟩:=mem _ hx;obtain⟨q,hq,eq'⟩:=mem _ hy;obtain⟨x1,x2⟩:=x;obtain⟨y1,y2⟩:=y;obtain rfl:x1=Value.ref p.1:=ep';obtain rfl:y1=Value.ref q.1:=eq';show wpAny (model prog w) A.in1.in1 (keyLt' (tuples' true) (Value.ref p.1) (Value.ref q.1)) (fun b s'=>b=decide (eT (ps.map (·.2)) (kOf ps (Value.ref p.1))<eT (ps.map (·.2)) (kOf ps (Value.ref q.1)))/\s'={s1 with heap:=h6}) (fun _ _=>False) {s1 with heap:=h6};rw[key p hp,key q hq];refine yT (s:={s1 with heap:=h6}) (tk1 p hp h6 k6) (tk1 q hq h6 k6) (by rw[hm p hp,hm q hq]) ⟨?_,rfl⟩;exact iN (Xa ⟨p,hp,rfl⟩)
 ·have p3:out.Perm (ps.map fun p=>Value.ref p.1):=p1.trans q2;have oe:out=(out.map fun v=>(aOf v,kOf ps v)).map fun p=>Value.ref p.1:=by
   rw[Yj];refine(map_id out).symm.trans (Yh fun v hv=>?_);obtain⟨p,hp,rfl⟩:=X9 (p3.mem_iff.mp hv);rfl
  obtain⟨n,gl⟩:∃n,(sortedHeap (s1.heap.push (seqObj "list" vs.toArray 0)) s1.heap.objs.size vs out.toArray).get? s1.heap.objs.size=some (seqObj "list" out.toArray n):=sortedHeap_at gL;refine Z3 ⟨_,rfl,hQ s1 _ s1.heap.objs.size (out.map fun v=>(aOf v,kOf ps v)) n ?_ ?_ k1 g1 o1 (fun b o' e1=>?_) rfl rfl (Zh _) ?_⟩
  ·have:=p3.map fun v=>(aOf v,kOf ps v)
   rw[Yj]at this;refine this.trans ?_;have:(ps.map ((fun v=>(aOf v,kOf ps v)) ∘ fun p=>Value.ref p.1))=ps:=by
    refine(Yh fun p hp=>?_).trans (map_id ps);show(p.1,kOf ps (.ref p.1))=p;rw[key p hp]
   rw[this]
  ·rw[Yw];refine X2 (fun{u v} hu hv huv=>?_) p2;obtain⟨p,hp,rfl⟩:=X9 (p3.mem_iff.mp hu);obtain⟨q,hq,rfl⟩:=X9 (p3.mem_iff.mp hv);show cC (kOf ps (.ref q.1)) (kOf ps (.ref p.1))=false;have huv:eT (ps.map (·.2)) (kOf ps (.ref p.1))<=eT (ps.map (·.2)) (kOf ps (.ref q.1)):=huv;rw[key p hp,key q hq]at huv ⊢;rw[iN (ks:=ps.map (·.2)) (Xa ⟨q,hq,rfl⟩)];exact Zg (by lia)
  ·have blt:=Zt e1;show(sortedHeap _ _ _ _).get? b=_;rw[sortedHeap_old (Zr blt) (by rw[Zp];exact Yf blt)];exact Z6 _ e1
  ·have e2:((out.map fun v=>(aOf v,kOf ps v)).map fun p=>Value.ref p.1).toArray=out.toArray:=congrArg List.toArray oe.symm;have e3:(seqObj "list" out.toArray n)=({cls:= .type "list",data:= .seq ((out.map fun v=>(aOf v,kOf ps v)).map fun p=>Value.ref p.1).toArray n}:Obj):=by
    rw[e2]
   exact gl.trans (congrArg some e3)
end
section
variable{X:Cx}{K:PySem.W.Frag}
noncomputable def jW(P:Program)(w:World)(a:Addr)(ps:List (Addr×List Str)):HO:= .ext (ke w (aA P w) a (ps.map yU))
def aT(H:Hp)(ps:List (Addr×List Str)):Prop:=∀p∈ps,p.2≠[]/\H p.1=some (.tup (p.2.map V.str))
theorem nY(I:Inv X pins σ H s)(h:aT H ps):∀p∈ps,ue X.prog X.w s.heap p.2 p.1:=fun p hp=>by
 obtain⟨_,its,rv,o,ho,hc,n,hd⟩:=I.hok p.1 _ (h p hp).2;exact⟨o,its.toArray,n,ho,hc,hd,by simpa using lq (eW rv)⟩
theorem nZ:∀{ps:List (Addr×List Str)} {us:List Value},aF (ps.map fun p=>V.ref p.1) us->us=ps.map fun p=>Value.ref p.1
 |[],_,.nil=>rfl
 | _::_,_,.cons r t=>by
   cases r;rw[nZ t];rfl
theorem n6:∀(ps:List (Addr×List Str)),aF (ps.map fun p=>V.ref p.1) (ps.map fun p=>Value.ref p.1)
 |[]=> .nil
 | _::ps=> .cons rfl (n6 ps)
theorem uf(hc:X.calm=true)(hu:X.A.units+64<cLine):bN X (.type "set") (fun xs H Q=>∃p ps,xs=[.ref p]/\SqL X.K H p (ps.map fun q=>V.ref q.1)/\aT H ps/\(∃U:List (List Str),U.length<=999/\∀q∈ps,q.2∈U)/\∀l,H l=none->Q (.ref l) (upd H l (jW X.prog X.w l (aL ps)))):=by
 intro pins s σ H xs us Q I r h;obtain⟨p,ps,rfl,hq,ht,⟨U,hU,hkU⟩,q⟩:=h;obtain⟨u,rfl,ru⟩:=df r;cases ru;obtain⟨its,rv,pl,hz⟩:=I.list hq;have hit:=nZ rv;have tk:=nY I ht;refine l7 (knd:=aA X.prog X.w) (I.ok.hd hc) (by lia) pl.isList (ps:=ps.map yU) (by simp[hit,Function.comp]) (fun p' hp'=>?_) (U.map fun z=>z.map Sum.inr) (by rw[Z5];exact hU) (fun p' hp'=>?_) (fun p' hp' B s' Q' E' hk' hq'=>?_) fun h' tk' S k=>?_
 ·obtain⟨p0,h0,rfl⟩:=X9 hp';exact tk p0 h0
 ·obtain⟨p0,h0,rfl⟩:=X9 hp';exact Xa ⟨p0.2,hkU p0 h0,rfl⟩
 ·obtain⟨p0,h0,rfl⟩:=X9 hp';exact yV (ht p0 h0).1 hk' hq'
 ·have e:aL (ps.map yU)=(aL ps).map yU:=pN (fun z:List Str=>z.map Sum.inr) nX ps;rw[e]at S;refine⟨.ref s.heap.objs.size,_,I.laid (o:=jW X.prog X.w s.heap.objs.size (aL ps)) (t':=tk') k (Zh _) ⟨S,?_,fun h1 h2 S1 k1=>ke.keep S1 k1⟩,rfl,q _ I.fresh⟩;obtain⟨o,_,_,_,ho,_⟩:=S;exact⟨o,ho⟩
theorem n8(hc:X.calm=true):bN X (.builtin "sorted") (fun xs H Q=>∃a ps m,xs=[.ref a]/\H a=some (jW X.prog X.w a ps)/\aT H ps/\(∀p∈ps,p.2.length=m)/\m≠0/\ps.length<64/\
 ∀(l:Addr) (ss:List (Addr×List Str)),H l=none->ss.Perm ps->ss.Pairwise (fun a b=>cC b.2 a.2=false)->Q (.ref l) (upd H l (.lst (ss.map fun p=>V.ref p.1)))):=by
 intro pins s σ H xs us Q I r h;obtain⟨a,ps,m,rfl,ha,ht,hm,m0,few,q⟩:=h;obtain⟨u,rfl,ru⟩:=df r;cases ru;obtain⟨⟨o,es,ep,t,ho,hex,hd,J,P⟩,_,_⟩:=(show bh X.prog X.w H s.heap a (jW X.prog X.w a ps)from I.hok a _ ha)
 have hn:es.size=ps.length:=by
  have:=P.length_eq;rw[Z5,Z5,Za]at this;exact this
 have pv:(es.toList.map (·.2)).Perm (ps.map fun p=>Value.ref p.1):=by
  have:=P.map (·.2);rw[Yj,Yj]at this;exact this
 refine lr (fun E1 R hR=>iI (show X.A.in1.handled=none from I.ok.hd hc) ho hex hd (by show es.size<4096;lia) J.fits J.plain J.led fun s1 vs q1 k1 g1 o1 _=>hR s1 vs (q1.trans pv) k1 g1 o1) (nY I ht) hm m0 few fun s1 s' l ss n p1 p2 k1 g1 o1 k g o hle gl=>?_
 have I:=I.keptS k1 g1 o1;refine⟨.ref l,_,I.stoodS (o:= .lst (ss.map fun p=>V.ref p.1)) (I.keptS k g o) hle ⟨?_,ss.map (fun p=>Value.ref p.1),n,n6 ss,gl⟩,rfl,q l ss (I.hok.fresh hle) p1 p2⟩;rw[Z5,p1.length_eq,sizeLine_eq]
 lia
theorem wJ{P:Program}(h:X.K=K)(hp:X.prog=P)(hw:X.w=w)(hc:X.calm=true)(hr:bS k X.A):cy X (.type "set") (fun xs H Q=>∃p ps,xs=[.ref p]/\SqL K H p (ps.map fun q=>V.ref q.1)/\aT H ps/\(∃U:List (List Str),U.length<=999/\∀q∈ps,q.2∈U)/\∀l,H l=none->Q (.ref l) (upd H l (jW P w l (aL ps)))):=by
 subst h;subst hp;subst hw;exact⟨uf hc hr.units⟩
theorem m7{P:Program}(hp:X.prog=P)(hw:X.w=w)(hc:X.calm=true):cy X (.builtin "sorted") (fun xs H Q=>∃a ps m,xs=[.ref a]/\H a=some (jW P w a ps)/\aT H ps/\(∀p∈ps,p.2.length=m)/\m≠0/\ps.length<64/\
 ∀(l:Addr) (ss:List (Addr×List Str)),H l=none->ss.Perm ps->ss.Pairwise (fun a b=>cC b.2 a.2=false)->Q (.ref l) (upd H l (.lst (ss.map fun p=>V.ref p.1)))):=by
 subst hp;subst hw;exact⟨n8 hc⟩
end
noncomputable def ug(K:PySem.W.Frag)(a b:Addr):It:=⟨fun i H=>∃xs ys x y,SqL K H a xs/\SqL K H b ys/\xs[i]? =some x/\ys[i]? =some y,
 fun i H v H'=>∃T x y,H T=none/\v= .ref T/\H'=upd H T (.tup [x,y])/\(∀xs,SqL K H a xs->xs[i]? =some x)/\(∀ys,SqL K H b ys->ys[i]? =some y),
 fun i H=>∃xs ys,SqL K H a xs/\SqL K H b ys/\i<=xs.length/\i<=ys.length/\(i=xs.length\/i=ys.length)⟩
theorem uh{P:Program}{K:PySem.W.Frag}(z TI TO i1 i2 l1 l2:Addr)(D:ZipApart z TI TO i1 i2 l1 l2):
 nv P w K (.Tuple elts kt tp) (ug K l1 l2) [z,TI,TO,i1,i2] z (ZSt z TI TO i1 i2 (fun i h=>h.IsListIter i1 l1 i) (fun i h=>h.IsListIter i2 l2 i)) where
 mem:=by simp
 obj:=fun i h st b hb=>by
  obtain⟨hz,hTI,⟨a,c,hTO⟩,⟨o1,e1,_,d1⟩,o2,e2,_,d2⟩:=st;simp only[Yn,Yu,or_false]at hb;rcases hb with rfl|rfl|rfl|rfl|rfl
  ·exact⟨_,hz,fun v q=>nomatch q⟩
  ·exact⟨_,hTI,fun v q=>nomatch q⟩
  ·exact⟨_,hTO,fun v q=>nomatch q⟩
  ·exact⟨o1,e1,fun v q=>by rw[d1]at q;cases q⟩
  ·exact⟨o2,e2,fun v q=>by rw[d2]at q;cases q⟩
 keep:=fun i h h' st k=>by
  obtain⟨hz,hTI,⟨a,c,hTO⟩,⟨o1,e1,r1⟩,o2,e2,r2⟩:=st;exact⟨k z (by simp) _ hz,k TI (by simp) _ hTI,⟨a,c,k TO (by simp) _ hTO⟩,⟨o1,k i1 (by simp) _ e1,r1⟩,o2,k i2 (by simp) _ e2,r2⟩
 item:=by
  intro X hP hw hK hc i pins s σ H E I hf st hg;subst hP hw hK;obtain⟨hz,hTI,⟨a,c,hTO⟩,h1,h2⟩:=st;obtain⟨xs,ys,x,y,hq1,hq2,hx,hy⟩:=hg;obtain⟨its1,rv1,pl1,hz1⟩:=I.list hq1;obtain⟨its2,rv2,pl2,hz2⟩:=I.list hq2;obtain⟨u1,hu1,ru1⟩:=rv1.get hx;obtain⟨u2,hu2,ru2⟩:=rv2.get hy;refine wpAny_pyNext_zip_item D hz hTI hTO h1 h2 pl1.isList pl2.isList (x:=u1) (y:=u2) (by simpa using hu1) (by simpa using hu2) fun h' a1 a2 a3 a4 a5 a6 hk=>?_
  refine⟨_,rfl,wpAny_letOwnedTupleGo_zip (s:={s with heap:=h'}) a1 fun h'' hz'' sb=>?_⟩;replace sb:SameBut z h' h'':=sb;have zlt:z<s.heap.objs.size:=Zt hz;have Tne:s.heap.objs.size≠z:=Yp zlt;have hT2:h''.get? s.heap.objs.size=some {cls:= .type "tuple",data:= .seq #[u1,u2]}:=(sb.2 _ Tne).trans a5;have turn1:Inv X pins σ H {s with heap:=h''}:=by
   have nit:∀b v,H b=some v->b∉[z,TI,TO,i1,i2]:=fun b v e hb=>by rw[(hf b hb).1]at e;cases e
   have kk:∀b o,b∉[z,TI,TO,i1,i2]->s.heap.get? b=some o->h''.get? b=some o:=fun b o hb e=>by
    simp only[Yn,Yu,or_false,not_or]at hb;exact(sb.2 b hb.1).trans (hk b o hb.1 hb.2.2.1 hb.2.2.2.1 hb.2.2.2.2 e)
   refine I.step (g':=s.gens) (d':=s.drawn) (ch:=[z,TI,TO,i1,i2]) (fun b hb=>⟨(hf b hb).2.2.2.1,(hf b hb).2.1,(hf b hb).2.2.2.2.1,(hf b hb).2.2.2.2.2⟩) (fun b o _ _ hc e _=>kk b o hc e) (fun b o _ _ hc e _=>⟨o.slots,kk b o hc e⟩) (fun _ _ _ _ n=>n)
    (fun b o hc e=>⟨o,kk b o hc e⟩) (fun _ _ e=>e) (fun _ _ _ e=>e) (fun b ps e=>⟨#[],by rw[e];simp⟩) (fun m hm=>?_) (fun b v e=>?_) I.bare
   ·obtain⟨o,es,ep,ho,r⟩:=hm;exact⟨o,es,ep,kk _ o (fun hb=>(hf _ hb).2.1 rfl) ho,r⟩
   ·refine(I.hok b v e).stay (fun c' v' hc' q=>kk c' v' ?_ q) (fun _ q=>q) fun _ _ q=>q
    rcases hc' with q'|q'
    ·rw[q'];exact nit b v e
    ·exact nit c' _ q'
  have Hn:H s.heap.objs.size=none:=I.fresh;have I2:Inv X pins σ (upd H s.heap.objs.size (.tup [x,y])) {s with heap:=h''}:=by
   have nf:s.heap.objs.size∉X.fs:=I.nofs (Zh _);refine⟨turn1.ok,turn1.os,turn1.bare,?_,turn1.loc,turn1.cell,?_,?_,?_,?_,turn1.len⟩
   ·have lt0:∀b o,X.s₀.heap.get? b=some o->b≠s.heap.objs.size:=fun b o e=>Zr (Zf (Zt e) I.sz)
    refine⟨turn1.base.keep,turn1.base.slot,fun b o e n hx=>?_,turn1.base.there,fun b xs e=>?_,fun b o v e=>?_,fun b ps e=>?_⟩
    ·rw[ai (lt0 b o e)];exact turn1.base.free b o e n hx
    ·rw[ai (aq (turn1.base.tups b xs e) Hn)];exact turn1.base.tups b xs e
    ·rw[ai (aq (turn1.base.frzs b o v e) Hn)];exact turn1.base.frzs b o v e
    ·obtain⟨m,q⟩:=turn1.base.tbls b ps e;exact⟨m,by rw[ai (aq q Hn)];exact q⟩
   ·rw[ai (Zr I.lt)];exact turn1.free
   ·intro x' c' e;obtain⟨v',q⟩:=I.cell x' c' e;rw[ai (Zr q.lt)];exact turn1.freeC x' c' e
   ·intro p hp;obtain⟨e,n,r⟩:=turn1.pin p hp;refine⟨e,?_,r⟩;rw[ai (Zr (Zt (I.pin p hp).1))];exact n
   ·intro b v e;by_cases hb:b=s.heap.objs.size
    ·subst hb;rw[aa]at e;cases e;exact⟨by show 2<=sizeLine;decide,[u1,u2],.cons ru1 (.cons ru2 .nil),_,hT2,rfl,_,rfl⟩
    ·rw[ai hb]at e;refine(turn1.hok b v e).stay (fun _ _ _ q=>q) (fun c' q=>?_) fun c' xs q=>?_
     ·rw[ai (aq q Hn)];exact q
     ·rw[ai (aq q Hn)];exact q
  refine⟨.ref s.heap.objs.size,_,I2,rfl,⟨_,x,y,Hn,rfl,rfl,fun zs hzs=>by rw[I.list_inj hzs hq1];exact hx,fun zs hzs=>by rw[I.list_inj hzs hq2];exact hy⟩,⟨hz'',(sb.2 _ D.TIz).trans (hk _ _ D.TIz D.TITO D.TIi1 D.TIi2 hTI),⟨_,_,(sb.2 _ D.TOz).trans a2⟩,?_,?_⟩,fun b hb=>?_⟩
  ·obtain⟨o,e,r⟩:=a3;exact⟨o,(sb.2 _ D.i1z).trans e,r⟩
  ·obtain⟨o,e,r⟩:=a4;exact⟨o,(sb.2 _ D.i2z).trans e,r⟩
  ·have:b<s.heap.objs.size:=by
    simp only[Yn,Yu,or_false]at hb;obtain⟨o1,q1,_⟩:=h1;obtain⟨o2,q2,_⟩:=h2;rcases hb with rfl|rfl|rfl|rfl|rfl
    ·exact Zt hz
    ·exact Zt hTI
    ·exact Zt hTO
    ·exact Zt q1
    ·exact Zt q2
   rw[ai (Zr this)];exact(hf b hb).1
 done:=by
  intro X hP hw hK hc i pins s σ H E I hf st hg;subst hP hw hK;obtain⟨hz,hTI,⟨a,c,hTO⟩,h1,h2⟩:=st;obtain⟨xs,ys,hq1,hq2,g1,g2,g3⟩:=hg;obtain⟨its1,rv1,pl1,hz1⟩:=I.list hq1;obtain⟨its2,rv2,pl2,hz2⟩:=I.list hq2;have n1:=rv1.length;have n2:=rv2.length;refine wpAny_pyNext_zip_end (I.ok.hd hc) D hz hTI hTO h1 h2 pl1.isList pl2.isList (by
   rcases g3 with q|q
   ·exact .inl (by simp;lia)
   ·exact .inr (by simp;lia)) fun h' hk=>⟨rfl,?_⟩
  have nit:∀b v,H b=some v->b∉[z,TI,TO,i1,i2]:=fun b v e hb=>by rw[(hf b hb).1]at e;cases e
  have kk:∀b o,b∉[z,TI,TO,i1,i2]->s.heap.get? b=some o->h'.get? b=some o:=fun b o hb e=>by
   simp only[Yn,Yu,or_false,not_or]at hb;exact hk b o hb.1 hb.2.2.1 hb.2.2.2.1 hb.2.2.2.2 e
  refine I.step (g':=s.gens) (d':=s.drawn) (ch:=[z,TI,TO,i1,i2]) (fun b hb=>⟨(hf b hb).2.2.2.1,(hf b hb).2.1,(hf b hb).2.2.2.2.1,(hf b hb).2.2.2.2.2⟩) (fun b o _ _ hc e _=>kk b o hc e) (fun b o _ _ hc e _=>⟨o.slots,kk b o hc e⟩) (fun _ _ _ _ n=>n)
   (fun b o hc e=>⟨o,kk b o hc e⟩) (fun _ _ e=>e) (fun _ _ _ e=>e) (fun b ps e=>⟨#[],by rw[e];simp⟩) (fun m hm=>?_) (fun b v e=>?_) I.bare
  ·obtain⟨o',es,ep,ho',r⟩:=hm;exact⟨o',es,ep,kk _ o' (fun hb=>(hf _ hb).2.1 rfl) ho',r⟩
  ·refine(I.hok b v e).stay (fun c' v' hc' q=>kk c' v' ?_ q) (fun _ q=>q) fun _ _ q=>q
   rcases hc' with q'|q'
   ·rw[q'];exact nit b v e
   ·exact nit c' _ q'
 self:=fun _ _ _ _ _ st h=>wpAny_pyIter_zip st.1 h
def zL(K:PySem.W.Frag)(ta:TA):TI:=fun σ H R=>ta σ H fun vs H1=>∃a b,vs=[.ref a,.ref b]/\(∃xs,SqL K H1 a xs)/\(∃ys,SqL K H1 b ys)/\R (ug K a b) H1
section
variable{X:Cx}{K:PySem.W.Frag}{pos:Pos}
theorem B7(h0:X.K=K){tp p:Pos}{a b:Expr}{ta:TA}(hg:Gl X "zip")(hm:X.mg "zip"=none)(hs:bj a=false)(hs2:bj b=false)(ha:QA X [a,b] ta):
 QI X (.Tuple elts kt tp) (.Call (.Name "zip" p) [a,b] [] pos) (zL K ta):=by
 subst h0
 constructor
 intro pins s σ H R I h;refine Call_ (gY I hg hm boot_zip (PyProof.Rows.callWith_type1 (thn (ha.h pos pins s σ H _ I h) fun us s1 ⟨vs,H1,I1,r1,q1⟩=>?_) (ay hs) (by rw[ay hs2];rfl)));obtain⟨a',b',e,⟨xs,hq1⟩,⟨ys,hq2⟩,q⟩:=q1;subst e;obtain⟨u1,u2,rfl,e1,e2⟩:=iA r1;cases e1;cases e2;obtain⟨its1,rv1,pl1,hz1⟩:=I1.list hq1;obtain⟨its2,rv2,pl2,hz2⟩:=I1.list hq2;have la:a'<s1.heap.objs.size:=by obtain⟨o,ho,_⟩:=pl1.isList;exact Zt ho
 have lb:b'<s1.heap.objs.size:=by obtain⟨o,ho,_⟩:=pl2.isList;exact Zt ho
 refine call_zip_2 pl1.isList pl2.isList fun h1 hz hTI hTO hi1 hi2 _ hk=>wpAny_pyIter_zip (s:={s1 with heap:=h1}) hz ?_
 have J:Inv X pins σ H1 {s1 with heap:=h1}:=I1.kept (t':=s1.toks) hk;have ne:∀i j:Nat,i≠j->s1.heap.objs.size+i≠s1.heap.objs.size+j:=fun i j h e=>h (Nat.add_left_cancel e)
 have na:∀i:Nat,a'≠s1.heap.objs.size+i:=fun i=>Zr (Zf la (le_add_right _ _))
 have nb:∀i:Nat,b'≠s1.heap.objs.size+i:=fun i=>Zr (Zf lb (le_add_right _ _))
 refine⟨s1.heap.objs.size+4,[s1.heap.objs.size+4,s1.heap.objs.size+2,s1.heap.objs.size+3,s1.heap.objs.size+0,s1.heap.objs.size+1],_,ug X.K a' b',H1,rfl,J,
  uh _ _ _ _ _ a' b' ⟨ne 2 4 (by decide),ne 3 4 (by decide),ne 0 4 (by decide),ne 1 4 (by decide),ne 2 3 (by decide),ne 2 0 (by decide),ne 2 1 (by decide),ne 3 0 (by decide),ne 3 1 (by decide),ne 0 1 (by decide),na 4,na 3,na 0,na 1,nb 4,nb 3,nb 0,nb 1⟩,
  ⟨hz,hTI,⟨_,_,hTO⟩,hi1,hi2⟩,fun b hb=>?_,q⟩
 have hb':s1.heap.objs.size<=b:=by
  simp only[Yn,Yu,or_false]at hb;rcases hb with rfl|rfl|rfl|rfl|rfl<;> exact le_add_right _ _
 exact I1.fpOk hb' (I1.hok.fresh hb')
end
open PySem PySem.Spec PySem.Calls PyProof.Rows PyProof.V PySem.W
section
variable{prog:Program}{w:World}{A:Around}{E:Value->Shared->Prop}{s:Shared}{d it:Addr}{es:Array DictEntry}{ep i:Nat}
end
section
variable{prog:Program}{w:World}{A:Around}{E:Value->Shared->Prop}{s:Shared}{S:Addr}
end
section
variable{X:Cx}{K:PySem.W.Frag}
end
section
variable{X:Cx}
theorem iO(hr:bS k X.A)(hs:swapsWith value (some (.Subscript o i pos')) pos.line X.env=pure false)(hv:QE X value tv)(ho:QE X o td)(hi:QE X i ty):QS X (.Assign [.Subscript o i pos'] value pos) (kL td ty tv):=
 ⟨yt (by have:=hr.units;lia) ho.h hi.h hv.h hs⟩
theorem uk [DecidableEq κ](kvs:List (κ×V))(k:κ)(v:V):(dg kvs k v).map (·.1)=if k∈kvs.map (·.1)then kvs.map (·.1)else kvs.map (·.1) ++[k]:=by
 unfold dg;have e:(kvs.any fun kv=>decide (kv.1=k))=true↔k∈kvs.map (·.1):=by
  rw[any_eq_true,mem_map]
  constructor
  ·rintro⟨kv,h1,h2⟩;exact⟨kv,h1,Zn h2⟩
  ·rintro⟨kv,h1,h2⟩;exact⟨kv,h1,Ze h2⟩
 by_cases h:k∈kvs.map (·.1)
 ·rw[if_pos (e.mpr h),if_pos h,Yj];refine Yh fun kv _=>?_
  show(if kv.1=k then(kv.1,v)else kv).1=kv.1
  split<;> rfl
 ·rw[if_neg (fun z=>h (e.mp z)),if_neg h,Zc];rfl
end
structure wK (K:PySem.W.Frag) (mg:Str->Option Value) (x:Str):Prop where
 at_:mg x=some (.ref (b8 mg x))
 cls:Cls K (b8 mg x)
structure pO (K:PySem.W.Frag) (mg:Str->Option Value) (x m qual:Str) (st:Stmt) (ps:List Str):Prop where
 ex:∃f fd,yd K (b8 mg x) m f/\Fun K m qual st f fd/\ei K fd ps []
structure wL (K:PySem.W.Frag) (mg:Str->Option Value) (x qual:Str) (st:Stmt) (ps:List Str):Prop where
 ex:∃f fd,Mk K (b8 mg x) f/\Fun K "__init__" qual st f fd/\ei K fd ps []
structure wM (P:Program) (w:World) (K:PySem.W.Frag) (mg:Str->Option Value) (base:Heap) (k:Nat) (x m:Str) (ps:List Str) (sp:Sp):Prop where
 ex:∃f fd,hJ P w K mg base CX0 k f fd ps sp/\yd K (b8 mg x) m f/\ei K fd ps []
structure A4 (P:Program) (w:World) (K:PySem.W.Frag) (mg:Str->Option Value) (base:Heap) (k:Nat) (x:Str) (ps:List Str) (sp:Sp):Prop where
 ex:∃f fd,hJ P w K mg base CX0 k f fd ps sp/\Mk K (b8 mg x) f/\ei K fd ps []
section
variable{P:Program}{w:World}{K:PySem.W.Frag}{mg:Str->Option Value}{base:Heap}{x m qual:Str}{st:Stmt}{N ps:List Str}{k:Nat}{sp:Sp}
theorem pO.cal(D:pO K mg x m qual st ps)(S:ao N ps (af st))(len:∀vs H Q E,sp vs H Q E->vs.length=ps.length)
 (hbody:∀(f:Addr) (cdv:Value) (A:Around) (outer:List Env) (s:Shared) (H:Hp) (vs:List V) (Q:VK) (E:XK),bS k (A.deeper (envOfC qual (af st) s.heap.objs.size f cdv))->sp vs H Q E->
  ∃t,PSs (nA CX0 P w K mg base N qual (af st) f cdv A outer s H E).nox (bi st) t/\t {nx:=fun _ H'=>Q .non H',rt:=Q} (start N vs) H):wM P w K mg base (k+1) x m ps sp:=by
 obtain⟨f,fd,hm,F,hb⟩:=D.ex;exact⟨f,fd,F.ok S len (hbody f),hm,hb⟩
theorem wL.cal(D:wL K mg x qual st ps)(S:ao N ps (af st))(len:∀vs H Q E,sp vs H Q E->vs.length=ps.length)
 (hbody:∀(f:Addr) (cdv:Value) (A:Around) (outer:List Env) (s:Shared) (H:Hp) (vs:List V) (Q:VK) (E:XK),bS k (A.deeper (envOfC qual (af st) s.heap.objs.size f cdv))->sp vs H Q E->
  ∃t,PSs (nA CX0 P w K mg base N qual (af st) f cdv A outer s H E).nox (bi st) t/\t {nx:=fun _ H'=>Q .non H',rt:=Q} (start N vs) H):A4 P w K mg base (k+1) x ps sp:=by
 obtain⟨f,fd,hm,F,hb⟩:=D.ex;exact⟨f,fd,F.ok S len (hbody f),hm,hb⟩
end
section
variable{X:Cx}{K:PySem.W.Frag}{j k:Nat}{x m:Str}{ps:List Str}{sp:Sp}{p pos apos:Pos}{o e:Expr}{es:List Expr}{to te:TE}{t:TA}
theorem lu(C:wM X.prog X.w X.K X.mg X.base j x m ps sp)(c:wK X.K X.mg x)(hr:bS k X.A)(hjk:Nat.ble j k=true)
 (ht:eval (.Call (.Attribute o m apos) [] [] pos) X.env=(do
  let ov<-eval o X.env
  standAt apos.atName
  let(f,first)<-holding [ov] (getMethod ov m pl)
  callWith pos f first (backTo pos (starEach [] X.env)) (backToKw pos (keywordEach [] X.env)))) (ho:QE X o to):QE X (.Call (.Attribute o m apos) [] [] pos) (vK (b8 X.mg x) m sp [] E0 to vI):=by
 obtain⟨f,fd,F,hm,hb⟩:=C.ex;exact⟨vN ho.h c.cls hm F (hr.mono (Nat.le_of_ble_eq_true hjk)) hb .nil v5 ht⟩
theorem B8(C:A4 X.prog X.w X.K X.mg X.base j x ps sp)(c:wK X.K X.mg x)(hr:bS k X.A)(hg:Gl X x)(hjk:Nat.ble (j+1) k=true)(hdb:(x==("__debug__":Str))=false)(he:(e::es).any bj=false)(ha:QA X (e::es) t):
 QE X (.Call (.Name x p) (e::es) [] pos) (vL (b8 X.mg x) sp [] E0 t):=by
 obtain⟨f,fd,F,hm,hb⟩:=C.ex;rw[Zv,Yv]at he;exact⟨yh hm F (hr.mono (Nat.le_of_ble_eq_true hjk)) hg c.at_ hb .nil v5 ha.h hdb (ay he.1) (eX he.2)⟩
theorem A5(h:X.K=K)(hb:iE o=false)(ho:QE X o to):QE X (.Attribute o f pos) (Ai K to f):=by
 subst h;exact⟨Ak ho.h (fR hb)⟩
theorem yW(h:X.K=K)(hs:gB value=false)(ho:QE X o to)(hv:QE X value tv):QS X (.Assign [.Attribute o f pos'] value pos) (Aj K to tv f):=by
 subst h;exact⟨Al ho.h hv.h (iD hs)⟩
end
structure GvT (K:PySem.W.Frag) (mg:Str->Option Value) (x:Str) (xs:List V):Prop where
 ex:∃a,mg x=some (.ref a)/\∀H,SqT K H a xs
theorem wN{K:PySem.W.Frag}{h:Heap}{o:Obj}{its:Array Value}{n:Nat}(X:K.In h)(G:h.Ns mainGlobals mg)(z:nsIn K mainGlobals x=some (some (.ref a)))
 (hk:K.lookup a=some o) (hc:o.cls= .type "tuple") (hd:o.data= .seq its n) (hz:its.size<=sizeLine) (r:aF xs its.toList):GvT K mg x xs:=
 ⟨a,mg_of X G z,fun _=> .inr ⟨o,its,n,hk,hc,hd,hz,r⟩⟩
theorem B9{X:Cx}{K:PySem.W.Frag}{x:Str}(h:X.K=K)(g:GvT K X.mg x xs)(hg:Gl X x)(hd:(x==("__debug__":Str))=false):QE X (.Name x pos) (fun _ H Q=>∀a,(∀H',SqT K H' a xs)->Q (.ref a) H):=by
 subst h;obtain⟨a,hm,hq⟩:=g.ex;refine⟨fun pins s σ H Q I q=>zC (v:= .ref a) ⟨.ref a,hm,rfl⟩ hg hd pins s σ H Q I (q a hq)⟩
theorem tryN{X:Cx}(hx:∀e s,X.xe e s->False)(hb:QSs X body tb):QS X (.Try body [h] [] [] pos) tb:=by
 refine⟨fun pins s σ H D I q=>?_⟩;refine wpAny_Try_except (wpAny_mono (hb.h pins s σ H D I q) (fun f s1 q=>?_) fun e s1 q=>(hx e s1 q).elim);cases f with
 | next=>exact wpAny_execs_nil q
 | brk=>exact q
 | cont=>exact q
 | ret u=>exact q
section
variable{X:Cx}{K:PySem.W.Frag}
end
theorem lv(x y:Str):cC [x] [y]=aR x y:=by
 show(if x=y then false else aR x y)=aR x y
 split
 ·rename_i e;rw[e,eB]
 ·rfl
section
variable{prog:Program}{w:World}{A:Around}{E:Value->Shared->Prop}{s:Shared}{S:Addr}
theorem pP(hcol:∀(E1:Value->Shared->Prop) (R:List Value->Shared->Prop),(∀s1,(∀b o,s.heap.get? b=some o->s1.heap.get? b=some o)->s1.gens=s.gens->s1.os=s.os->R us s1)->wpAny (model prog w) A.in1 (collect (.ref S)) R E1 s)(hus:StrsAre us ks)(few:us.length<64)
 (hQ:∀(s1 s':Shared) (l:Addr) (vs:List Value) (ss:List Str) (n:Nat),StrsAre vs ss->ss.Perm ks->ss.Pairwise (fun a b=>aR b a=false)->(∀b o,s.heap.get? b=some o->s1.heap.get? b=some o)->s1.gens=s.gens->s1.os=s.os->(∀b o,s1.heap.get? b=some o->s'.heap.get? b=some o)->s'.gens=s1.gens->s'.os=s1.os->s1.heap.objs.size<=l->s'.heap.get? l=some {cls:= .type "list",data:= .seq vs.toArray n}->Q (.ref l) s'):
 wpAny (model prog w) A (call (.builtin "sorted") [.ref S]) Q E s:=by
 refine Calls.call_function_entry kind_sorted plain_sorted entry_sorted (args_sorted1 _) ?_;unfold Builtin.«sorted»;refine Z2 (m:=checkCount "sorted" 1 1 _) (Z3 ?_);refine Z2 (hcol _ _ fun s1 k1 g1 o1=>?_);refine Z2 (wpAny_newList ?_ (by rw[sizeLine_eq];lia));have gL:(s1.heap.push (seqObj "list" us.toArray 0)).get? s1.heap.objs.size=some (seqObj "list" us.toArray 0):=Zi _ rfl;have hin:∀v∈us,∃x t,v=Value.str x t/\[x]∈ks.map fun z=>[z]:=fun v hv=>by
  obtain⟨x,t,rfl⟩:=hus.all v hv;refine⟨x,t,rfl,Xa ⟨x,?_,rfl⟩⟩;rw[<-hus.strs];exact Xa ⟨_,hv,rfl⟩
 refine Z2 (wpAny_holding (wpAny_call_entry slot_list_sort ⟨_,gL,rfl⟩ entry_list_sort (gW (s:={s1 with heap:=s1.heap.push (seqObj "list" us.toArray 0)}) (kd:=oneType') (Nv:=fun v=>eT (ks.map fun z=>[z]) [strOf v]) gL (by lia) (fun h6 k6 hv2 Q6 hq6=>?_) (fun h6 k6=>?_) fun out p1 p2=>⟨_,rfl,?_⟩) (args_list_sort _)))
 ·obtain⟨v1,v2,r,rfl⟩:∃v1 v2 r,us=v1::v2::r:=by
   match us,hv2 with
   | v1::v2::r,_=>exact⟨v1,v2,r,rfl⟩
  rw[keyKind_strs hus];exact Z3 hq6
 ·intro x y s' hx hy hs';subst hs';obtain⟨x1,x2⟩:=x;obtain⟨y1,y2⟩:=y;obtain⟨a,t,rfl,ha⟩:=hin _ hx;obtain⟨b,u,rfl,hb⟩:=hin _ hy;show wpAny (model prog w) A.in1.in1 (keyLt' oneType' (.str a t) (.str b u)) (fun r s'=>r=decide (eT (ks.map fun z=>[z]) [a]<eT (ks.map fun z=>[z]) [b])/\s'={s1 with heap:=h6}) (fun _ _=>False) {s1 with heap:=h6};rw[keyLt'_oneType];refine oneLt_str ⟨?_,rfl⟩;rw[<-iN ha,lv];rfl
 ·have hall:∀v∈out,∃x t,v=Value.str x t:=fun v hv=>hus.all v (p1.mem_iff.mp hv)
  obtain⟨n,gl⟩:∃n,(sortedHeap (s1.heap.push (seqObj "list" us.toArray 0)) s1.heap.objs.size us out.toArray).get? s1.heap.objs.size=some (seqObj "list" out.toArray n):=sortedHeap_at gL;refine Z3 ⟨_,rfl,hQ s1 _ s1.heap.objs.size out (out.map strOf) n (strsAre_map out hall) ?_ ?_ k1 g1 o1 (fun b o' e1=>?_) rfl rfl (Zh _) gl⟩
  ·rw[<-hus.strs];exact p1.map _
  ·rw[Yw];refine X2 (fun{u v} hu hv huv=>?_) p2;obtain⟨a,t,rfl,ha⟩:=hin _ (p1.mem_iff.mp hu);obtain⟨b,t',rfl,hb⟩:=hin _ (p1.mem_iff.mp hv);show aR b a=false;rw[<-lv,iN hb];have huv:eT (ks.map fun z=>[z]) [a]<=eT (ks.map fun z=>[z]) [b]:=huv;exact Zg (by lia)
  ·have blt:=Zt e1;show(sortedHeap _ _ _ _).get? b=_;rw[sortedHeap_old (Zr blt) (by rw[Zp];exact Yf blt)];exact Z6 _ e1
end
theorem iP:∀{ks:List Str} {us:List Value},aF (ks.map V.str) us->StrsAre us ks
 |[],_,.nil=> .nil
 | _::_,_,.cons r t=>by
   obtain⟨t',rfl⟩:=r;exact .cons _ _ (iP t)
theorem iQ:∀{ks:List Str} {us:List Value},StrsAre us ks->aF (ks.map V.str) us
 | _,_,.nil=> .nil
 | _,_,.cons _ t h=> .cons ⟨t,rfl⟩ (iQ h)
section
variable{X:Cx}{K:PySem.W.Frag}
theorem m8(h:X.K=K):cy X (.builtin "sorted") (fun xs H Q=>∃(a:Addr) (ks:List Str),xs=[.ref a]/\SqL K H a (ks.map V.str)/\ks.length<64/\∀(l:Addr) (ss:List Str),H l=none->ss.Perm ks->ss.Pairwise (fun a b=>aR b a=false)->Q (.ref l) (upd H l (.lst (ss.map V.str)))):=by
 subst h;refine⟨fun pins s σ H xs us Q I r h=>?_⟩;obtain⟨a,ks,rfl,ha,few,q⟩:=h;obtain⟨u,rfl,ru⟩:=df r;cases ru;obtain⟨its,rv,⟨o,n,go,hc,hd,hdt⟩,hz⟩:=I.list ha;have hs:=iP rv;have hl:its.length=ks.length:=by rw[<-rv.length,Z5]
 refine pP (fun E1 R hR=>wpAny_collect_seq a (T:="list") (.inl rfl) go hc hdt (fun h' k=>?_) (by rw[Zo,sizeLine_eq];lia)) hs (by lia) fun s1 s' l vs ss n q1 q2 q3 k1 g1 o1 k g o hle gl=>?_
 ·exact hR {s with heap:=h'} k rfl rfl
 ·have I1:Inv X pins σ H s1:=I.keptS k1 g1 o1;have hfree:H l=none:=I1.hok.fresh hle;have J:Inv X pins σ H s':=I1.keptS k g o;refine⟨.ref l,_,I1.stoodS (o:= .lst (ss.map V.str)) J hle ⟨?_,vs,n,iQ q1,gl⟩,rfl,q l ss hfree q2 q3⟩;rw[Z5,q2.length_eq,sizeLine_eq]
  lia
theorem uo(h:X.K=K):cy X (.builtin "sorted") (fun xs H Q=>∃(a:Addr) (ps:List (Addr×List Str)) (m:Nat),xs=[.ref a]/\SqL K H a (ps.map fun p=>V.ref p.1)/\aT H ps/\(∀p∈ps,p.2.length=m)/\m≠0/\ps.length<64/\
 ∀(l:Addr) (ss:List (Addr×List Str)),H l=none->ss.Perm ps->ss.Pairwise (fun a b=>cC b.2 a.2=false)->Q (.ref l) (upd H l (.lst (ss.map fun p=>V.ref p.1)))):=by
 subst h;refine⟨fun pins s σ H xs us Q I r h=>?_⟩;obtain⟨a,ps,m,rfl,ha,ta,hm,m0,few,q⟩:=h;obtain⟨u,rfl,ru⟩:=df r;cases ru;obtain⟨its,rv,⟨o,n,go,hc,hd,hdt⟩,hz⟩:=I.list ha;have:=nZ rv;subst this;refine lr (fun E1 R hR=>wpAny_collect_seq a (T:="list") (.inl rfl) go hc hdt (fun h' k=>?_) (by rw[Zo,Z5,sizeLine_eq];lia)) (nY I ta) hm m0 few fun s1 s' l ss n q1 q2 k1 g1 o1 k g o hle gl=>?_
 ·exact hR {s with heap:=h'} _ (List.Perm.refl _) k rfl rfl
 ·have I1:Inv X pins σ H s1:=I.keptS k1 g1 o1;have hfree:H l=none:=I1.hok.fresh hle;have J:Inv X pins σ H s':=I1.keptS k g o;refine⟨.ref l,_,I1.stoodS (o:= .lst (ss.map fun p=>V.ref p.1)) J hle ⟨?_,ss.map (fun p=>Value.ref p.1),n,n6 ss,gl⟩,rfl,q l ss hfree q1 q2⟩;rw[Z5,q1.length_eq,sizeLine_eq]
  lia
theorem A6(hr:bS k X.A)(hm:behindInMarks .In o=false)(hi:QE X i ty)(ho:QE X o td):QT X (.Compare i [.In] [o] pos) (tB (AH ty td)):=
 ⟨vb (AI (by have:=hr.units;lia) hi.h ho.h) hm⟩
end
theorem cn{X:Cx}{K:PySem.W.Frag}(h:X.K=K)(hs:kl b)(ha:QE X a ta)(hb:QE X b tb):QE X (.Subscript a b pos) (tOp (Av K) ta tb):=by subst h;exact⟨vT Ax ha.h hb.h hs⟩
theorem rp(h:(env.blockKind== .function&&env.kindOf x==some .local&&px.line==pos.line&&!(scope.names.any fun(n,k)=>n==x&&(k== .local||k== .cell)))=false):
 swapsWith (.ListComp elt gens scope pos) (some (.Name x px)) l env=pure false:=by
 show(pure (env.blockKind== .function&&env.kindOf x==some .local&&px.line==pos.line&&!(scope.names.any fun(n,k)=>n==x&&(k== .local||k== .cell))):Sem Bool)=pure false;rw[h]
theorem wO{X:Cx}(i:Nat)(hN:X.N.Nodup)(hi:X.N[i]? =some x)(hx:Loc X.env.scope x)(hf:X.fn x=true\/X.env.scope.names.lookup x=some .local)
 (hsw:(X.env.blockKind== .function&&X.env.kindOf x==some .local&&px.line==pos.line&&!(scope.names.any fun(n,k)=>n==x&&(k== .local||k== .cell)))=false) (he:QE X (.ListComp elt gens scope pos) te):
 QS X (.Assign [.Name x px] (.ListComp elt gens scope pos) pos') (oN te (jL i)):=⟨vm hN hi hx he.h (rp hsw) hf⟩
section
variable{prog:Program}{w:World}{A:Around}{E:Value->Shared->Prop}{s:Shared}
end
section
variable(h:Heap)(l1 l2:Addr)
end
section
variable{prog:Program}{w:World}{A:Around}{E:Value->Shared->Prop}{s:Shared}
end
section
variable{X:Cx}{K:PySem.W.Frag}{pos:Pos}
end
section
variable{X:Cx}{pos:Pos}
theorem lw(hp:PassesOwn (model X.prog X.w) X.A X.env X.xe)(hc:QT X c tc)(hb:QSs X body tb):QS X (.While c body [] pos) (vo tc tb):=⟨vp hp hc.h hb.h⟩
theorem dk(hr:bS k X.A)(hs:AG i)(ho:QE X o td)(hi:QE X i ty):QE X (.Subscript o i pos) (vY td ty):=⟨yr (by have:=hr.units;lia) ho.h hi.h hs⟩
end
section
variable{prog:Program}{w:World}{A:Around}{E:Value->Shared->Prop}{s:Shared}
theorem yX{P:Nat->Value->Prop}(val:Nat->Str)(hval:∀i v,P i v->∃t,v= .str (val i) t):CmpOf prog w A .Gt P (fun i j=>decide ((val j).cps.toList<(val i).cps.toList)):=fun i j vi vj s Q E hi hj h=>by
 obtain⟨t,rfl⟩:=hval i vi hi;obtain⟨u,rfl⟩:=hval j vj hj;exact richCompare_gives (op:= .Gt) (typeIs_str s _ t) (typeIs_str s _ u) PySem.F.slot_str_gt PySem.F.entry_str_gt (PySem.F.args_str_gt_2 _ _) (gives_str_gt _ _ t u) (fun x=>nomatch x) h
theorem sF{P:Nat->Value->Prop}(val:Nat->Str)(hval:∀i v,P i v->∃t,v= .str (val i) t):CmpOf prog w A .Lt P (fun i j=>decide ((val i).cps.toList<(val j).cps.toList)):=fun i j vi vj s Q E hi hj h=>by
 obtain⟨t,rfl⟩:=hval i vi hi;obtain⟨u,rfl⟩:=hval j vj hj;exact richCompare_gives (op:= .Lt) (typeIs_str s _ t) (typeIs_str s _ u) PySem.F.slot_str_lt PySem.F.entry_str_lt (PySem.F.args_str_lt_2 _ _) (gives_str_lt _ _ t u) (fun x=>nomatch x) h
theorem wP{i:Nat}{v:Value}(h:(#[Value.str x t,Value.str y u]:Array Value)[i]? =some v):∃t,v= .str (if i=0 then x else y) t:=by
 match i,h with
 | 0,h=>exact⟨t,by simpa using h.symm⟩
 | 1,h=>exact⟨u,by simpa using h.symm⟩
 | i+2,h=>simp at h
theorem pQ(bt:Nat->Nat->Bool):argBest bt 1=if bt 1 0=true then 1 else 0:=by simp[argBest]
theorem n9{x y:Str}(hh:A.handled=none)
 (h:∀h' tk,(∀c o,s.heap.get? c=some o->h'.get? c=some o)->Q (if x.cps.toList<y.cps.toList then .str y u else .str x t) {s with heap:=h',toks:=tk}):
 wpAny (model prog w) A (call (.builtin "max") [.str x t,.str y u]) Q E s:=by
 have hT:(s.heap.push {cls:= .type "tuple",data:= .seq #[.str x t,.str y u]}).IsTuple s.heap.objs.size #[.str x t,.str y u]:=⟨_,Zi _ rfl,rfl,0,rfl⟩
 refine call_max_two (wpAny_pyIter_tuple hT ?_);have hsz:(s.heap.push {cls:= .type "tuple",data:= .seq #[.str x t,.str y u]}).objs.size=s.heap.objs.size+1:=Zp ..;refine⟨_,[_,s.heap.objs.size],[_],_,_,_,_,rfl,Walks.tuple (A:=A.in1) hh _ s.heap.objs.size (by rw[hsz];exact Zr (Yg _)) #[.str x t,.str y u],
  ⟨⟨_,Zi _ rfl,rfl,rfl⟩,hT.push _⟩,fun c hc=>?_,by simp,yX (fun i=>if i=0 then x else y) (fun _ _=>wP),fun v h' tk hP hk=>?_⟩
 ·show c<((s.heap.push _).push _).objs.size;rw[Zp,hsz];rcases mem_cons.mp hc with rfl|hc
  ·rw[hsz];exact Yg _
  ·rcases mem_cons.mp hc with rfl|hc
   ·exact Yf (Yg _)
   ·cases hc
 ·have hold:∀c o,s.heap.get? c=some o->h'.get? c=some o:=fun c o e=>by
   refine hk c o (fun hm=>?_) (Z6 _ (Z6 _ e));rcases mem_cons.mp hm with e1|hm
   ·have:=Zt e;rw[e1,hsz]at this;exact X4 _ (Nat.lt_of_succ_lt this)
   ·cases hm
  have q:=h h' tk hold;have hP':(#[Value.str x t,Value.str y u]:Array Value)[argBest _ 1]? =some v:=hP;rw[pQ]at hP';by_cases hb:x.cps.toList<y.cps.toList
  ·rw[if_pos (by simp[hb])]at hP';rw[if_pos hb]at q;rw[<-show Value.str y u=v by simpa using hP'];exact q
  ·rw[if_neg (by simp[hb])]at hP';rw[if_neg hb]at q;rw[<-show Value.str x t=v by simpa using hP'];exact q
theorem oa{x y:Str}(hh:A.handled=none)
 (h:∀h' tk,(∀c o,s.heap.get? c=some o->h'.get? c=some o)->Q (if y.cps.toList<x.cps.toList then .str y u else .str x t) {s with heap:=h',toks:=tk}):
 wpAny (model prog w) A (call (.builtin "min") [.str x t,.str y u]) Q E s:=by
 have hT:(s.heap.push {cls:= .type "tuple",data:= .seq #[.str x t,.str y u]}).IsTuple s.heap.objs.size #[.str x t,.str y u]:=⟨_,Zi _ rfl,rfl,0,rfl⟩
 refine call_min_two (wpAny_pyIter_tuple hT ?_);have hsz:(s.heap.push {cls:= .type "tuple",data:= .seq #[.str x t,.str y u]}).objs.size=s.heap.objs.size+1:=Zp ..;refine⟨_,[_,s.heap.objs.size],[_],_,_,_,_,rfl,Walks.tuple (A:=A.in1) hh _ s.heap.objs.size (by rw[hsz];exact Zr (Yg _)) #[.str x t,.str y u],
  ⟨⟨_,Zi _ rfl,rfl,rfl⟩,hT.push _⟩,fun c hc=>?_,by simp,sF (fun i=>if i=0 then x else y) (fun _ _=>wP),fun v h' tk hP hk=>?_⟩
 ·show c<((s.heap.push _).push _).objs.size;rw[Zp,hsz];rcases mem_cons.mp hc with rfl|hc
  ·rw[hsz];exact Yg _
  ·rcases mem_cons.mp hc with rfl|hc
   ·exact Yf (Yg _)
   ·cases hc
 ·have hold:∀c o,s.heap.get? c=some o->h'.get? c=some o:=fun c o e=>by
   refine hk c o (fun hm=>?_) (Z6 _ (Z6 _ e));rcases mem_cons.mp hm with e1|hm
   ·have:=Zt e;rw[e1,hsz]at this;exact X4 _ (Nat.lt_of_succ_lt this)
   ·cases hm
  have q:=h h' tk hold;have hP':(#[Value.str x t,Value.str y u]:Array Value)[argBest _ 1]? =some v:=hP;rw[pQ]at hP';by_cases hb:y.cps.toList<x.cps.toList
  ·rw[if_pos (by simp[hb])]at hP';rw[if_pos hb]at q;rw[<-show Value.str y u=v by simpa using hP'];exact q
  ·rw[if_neg (by simp[hb])]at hP';rw[if_neg hb]at q;rw[<-show Value.str x t=v by simpa using hP'];exact q
theorem l8{l:Addr}{its:Array Value}{val:Nat->Str}{Q:Value->Shared->Prop}(hh:A.handled=none)(hl:s.heap.IsList l its)(hne:0<its.size)(hval:∀(i:Nat) (v:Value),its[i]? =some v->∃t,v= .str (val i) t)
 (h:∀v h' tk,its[argBest (fun i j=>decide ((val i).cps.toList<(val j).cps.toList)) (its.size-1)]? =some v->(∀b o,s.heap.get? b=some o->h'.get? b=some o)->Q v {s with heap:=h',toks:=tk}):
 wpAny (model prog w) A (call (.builtin "min") [.ref l]) Q E s:=by
 have hlt:l<s.heap.objs.size:=by obtain⟨_,e,_⟩:=hl;exact Zt e
 refine call_min_walk (wpAny_pyIter_list hl ?_);refine⟨_,[s.heap.objs.size,l],[s.heap.objs.size],_,_,_,_,rfl,Walks.list (A:=A.in1) hh _ l (Zr hlt) its,⟨⟨_,Zi _ rfl,rfl,rfl⟩,hl.push _⟩,fun b hb=>?_,hne,sF val hval,fun v h' tk hP hk=>?_⟩
 ·show b<(s.heap.push _).objs.size;rw[Zp];rcases mem_cons.mp hb with rfl|hb
  ·exact Yg _
  ·rcases mem_cons.mp hb with rfl|hb
   ·exact Yf hlt
   ·cases hb
 ·refine h v h' tk hP fun b o e=>hk b o (fun hm=>?_) (Z6 _ e)
  rcases mem_cons.mp hm with e1|hm
  ·exact absurd (e1▸Zt e) (X4 _)
  ·cases hm
theorem lx(val:Nat->Str):∀k,argBest (fun i j=>decide ((val i).cps.toList<(val j).cps.toList)) k<=k/\∀j,j<=k->aR (val j) (val (argBest (fun i j=>decide ((val i).cps.toList<(val j).cps.toList)) k))=false
 | 0=>⟨Zh _,fun j hj=>by rw[le_zero.mp hj];exact eB _⟩
 | k+1=>by
   obtain⟨h1,h2⟩:=lx val k;rw[argBest];by_cases hb:aR (val (k+1)) (val (argBest (fun i j=>decide ((val i).cps.toList<(val j).cps.toList)) k))=true
   ·have hb':=hb;unfold aR at hb';rw[if_pos hb'];refine⟨Zh _,fun j hj=>?_⟩;by_cases e:j=k+1
    ·rw[e];exact eB _
    ·cases hs:aR (val j) (val (k+1))with
     | false=>rfl
     | true=>have:=eS hs hb;rw[h2 j (by lia)]at this;cases this
   ·have hb':=hb;unfold aR at hb';rw[if_neg hb'];refine⟨by lia,fun j hj=>?_⟩;by_cases e:j=k+1
    ·rw[e];simpa using hb
    ·exact h2 j (by lia)
end
section
variable{X:Cx}
theorem uq(hc:X.calm=true):bN X (.builtin "max") (fun xs H Q=>∃x y,xs=[.str x,.str y]/\Q (.str (if aR x y=true then y else x)) H):=by
 intro pins s σ H xs us Q I r h;obtain⟨x,y,rfl,q⟩:=h;obtain⟨u,w',rfl,⟨t,rfl⟩,t',rfl⟩:=iA r;refine n9 (I.ok.hd hc) fun h' tk k=>⟨_,H,I.kept k,?_,q⟩
 by_cases hj:x.cps.toList<y.cps.toList
 ·rw[if_pos hj,if_pos (show aR x y=true from Ze hj)];exact⟨_,rfl⟩
 ·rw[if_neg hj,if_neg (show ¬ aR x y=true from fun e=>hj (Zn e))];exact⟨_,rfl⟩
theorem ur(hc:X.calm=true):bN X (.builtin "min") (fun xs H Q=>∃x y,xs=[.str x,.str y]/\Q (.str (if aR y x=true then y else x)) H):=by
 intro pins s σ H xs us Q I r h;obtain⟨x,y,rfl,q⟩:=h;obtain⟨u,w',rfl,⟨t,rfl⟩,t',rfl⟩:=iA r;refine oa (I.ok.hd hc) fun h' tk k=>⟨_,H,I.kept k,?_,q⟩
 by_cases hj:y.cps.toList<x.cps.toList
 ·rw[if_pos hj,if_pos (show aR y x=true from Ze hj)];exact⟨_,rfl⟩
 ·rw[if_neg hj,if_neg (show ¬ aR y x=true from fun e=>hj (Zn e))];exact⟨_,rfl⟩
theorem ut(hc:X.calm=true):bN X (.builtin "min") (fun xs H Q=>∃(p:Addr) (ss:List Str),xs=[.ref p]/\SqL X.K H p (ss.map V.str)/\0<ss.length/\∀m∈ss,(∀y∈ss,aR y m=false)->Q (.str m) H):=by
 intro pins s σ H xs us Q I r h;obtain⟨p,ss,rfl,hp,hn,q⟩:=h;obtain⟨u,rfl,ru⟩:=df r;cases ru;obtain⟨its,rv,hl,hz⟩:=I.list hp;have hlen:=rv.length;rw[Z5]at hlen;have hsz:its.toArray.size=ss.length:=by rw[Zo,hlen]
 have hval:∀(i:Nat) (v:Value),its.toArray[i]? =some v->∃t,v=Value.str (ss.getD i Str.empty) t:=fun i v e=>by
  have e:its[i]? =some v:=by simpa using e
  have hi:i<ss.length:=by rw[hlen];exact(X6 e).1
  obtain⟨u,eu,ru⟩:=rv.get (i:=i) (x:=V.str ss[i]) (by rw[Zk,Z4 hi];rfl);rw[e]at eu;obtain⟨t,et⟩:=ru;exact⟨t,by rw[Z9 eu,et,Zb,Z4 hi];rfl⟩
 refine l8 (I.ok.hd hc) hl.isList (by lia) hval fun v h' tk hv k=>?_
 obtain⟨h1,h2⟩:=lx (fun i=>ss.getD i Str.empty) (its.toArray.size-1);obtain⟨t,et⟩:=hval _ _ hv
 generalize argBest _ _=b at h1 h2 hv et
 have hb:b<ss.length:=by lia
 have eb:ss.getD b Str.empty=ss[b]:=by rw[Zb,Z4 hb];rfl
 refine⟨.str (ss.getD b Str.empty),H,I.kept k,⟨t,et⟩,q _ (by rw[eb];exact Y6 hb) fun y hy=>?_⟩;obtain⟨j,hj,rfl⟩:=List.getElem_of_mem hy;have:=h2 j (by lia);rwa[show ss.getD j Str.empty=ss[j] by rw[Zb,Z4 hj];rfl]at this
theorem A7(hc:X.calm=true):cy X (.builtin "max") (fun xs H Q=>∃x y,xs=[.str x,.str y]/\Q (.str (if aR x y=true then y else x)) H):=⟨uq hc⟩
theorem A8(hc:X.calm=true):cy X (.builtin "min") (fun xs H Q=>∃x y,xs=[.str x,.str y]/\Q (.str (if aR y x=true then y else x)) H):=⟨ur hc⟩
theorem A9{K:PySem.W.Frag}(h:X.K=K)(hc:X.calm=true):cy X (.builtin "min") (fun xs H Q=>∃(p:Addr) (ss:List Str),xs=[.ref p]/\SqL K H p (ss.map V.str)/\0<ss.length/\∀m∈ss,(∀y∈ss,aR y m=false)->Q (.str m) H):=by subst h;exact⟨ut hc⟩
end
section
variable{prog:Program}{w:World}{A:Around}{E:Value->Shared->Prop}{s:Shared}
end
section
variable{prog:Program}{w:World}{A:Around}{R:Result->Shared->Prop}{I:Addr}{fp wr:List Addr}{G:Array GenState->Array GenState->Prop}{n:Nat}{P:Nat->Value->Prop}{St:Nat->Shared->Prop}
end
section
variable{prog:Program}{w:World}{A:Around}{E:Value->Shared->Prop}{s:Shared}
end
section
variable{X:Cx}{K:PySem.W.Frag}
end
theorem yY{κ:Type}{kvs:List (κ×V)}{vs:List (κ×Value)}(r:KV kvs vs):aF (kvs.map (·.2)) (vs.map (·.2)):=by
 induction r with
 | nil=>exact .nil
 | cons h _ ih=>exact .cons h.2 ih
section
variable{X:Cx}{K:PySem.W.Frag}
def wQ:V->List V->Hp->VK->Prop:=fun x vs H Q=>asR x fun a=>∃k y,vs=[kV k,y]/\∃kvs,H a=some (.dK kvs)/\kvs.length<sizeLine/\(∀v,bO kvs k=some v->Q v H)/\(bO kvs k=none->Q y (upd H a (.dK (dg kvs k y))))
theorem yZ:MtM X "dict.setdefault" wQ:=by
 intro pins s σ H x vs v us Q I rx rv h;obtain⟨a,rfl,k,y,rfl,kvs,e,hz,h1,h2⟩:=dM h;cases rx;obtain⟨ku,yu,rfl,rk,ry⟩:=iA rv;obtain⟨z,hd,vs,rel,dd⟩:=oU I.hok e;refine call_meetsIn PySem.F.slot_dict_setdefault dd.typeIs PySem.F.entry_dict_setdefault (PySem.F.args_dict_setdefault_3 _ _ _) (kt_meets_setdefault (aA X.prog X.w) a (kJ rk) hd yu) ⟨vs,dd,by rw[<-rel.length];exact z,fun w' hw=>?_,fun hn h' dd' hs=>?_⟩
 ·have q:=rel.val k;cases e1:bO kvs k with
  | none=>
    rw[eG.none_of (o:=valueAt vs k) (by rw[<-e1];exact q)]at hw;cases hw
  | some v'=>
    obtain⟨w2,hw2,rw2⟩:=eG.some_of (v:=v') (o:=valueAt vs k) (by rw[<-e1];exact q);rw[hw2]at hw;rw[<-Z9 hw];exact⟨v',H,I.tok _,rw2,h1 v' e1⟩
 ·have e1:bO kvs k=none:=by
   cases e1:bO kvs k with
   | none=>rfl
   | some v'=>
     obtain⟨w2,hw2,_⟩:=eG.some_of (v:=v') (o:=valueAt vs k) (by rw[<-e1];exact rel.val k);rw[hw2]at hn;cases hn
  have hl:(dg kvs k y).length<=sizeLine:=by have:=fP kvs k y;lia
  have he:∃q,h'.get? a=some q:=let⟨q,_,_,hq,_⟩:=dd';⟨q,hq⟩;exact⟨y,_,nJ I (by rw[e];exact True.intro) hs he (vX hl hd (rel.put k ry) dd'),ry,h2 e1⟩
theorem iR:MtQ X "dict.setdefault" wQ:=⟨yZ⟩
noncomputable def lz(v a:Addr):HO:= .ext fun h=>h.IsValuesView v a
def wR:V->List V->Hp->VK->Prop:=fun x vs H Q=>asR x fun a=>vs=[]/\∃kvs,H a=some (.dK kvs)/\∀v,H v=none->Q (.ref v) (upd H v (lz v a))
theorem y3:MtM X "dict.values" wR:=by
 intro pins s σ H x vs v us Q I rx rv h;obtain⟨a,rfl,rfl,kvs,e,q⟩:=dM h;cases rx;have hus:=rv.zero;subst hus;obtain⟨z,hd,vs,rel,dd⟩:=oU I.hok e;refine call_meetsIn PySem.F.slot_dict_values dd.typeIs PySem.F.entry_dict_values (PySem.F.args_dict_values_1 _) (meets_dict_values (aA X.prog X.w) a hd) ⟨⟨vs,dd⟩,?_⟩;have hv:(s.heap.push {cls:= .type "dict_values",data:= .fields #[.ref a]}).IsValuesView s.heap.objs.size a:=⟨_,Zi _ rfl,rfl,rfl⟩
 refine⟨.ref s.heap.objs.size,_,I.laid (o:=lz s.heap.objs.size a) (t':=s.toks) (fun b u e=>Z6 _ e) (Zh _) ⟨hv,?_,fun h1 h2 S1 k1=>?_⟩,rfl,q _ I.fresh⟩
 ·obtain⟨o,ho,_⟩:=hv;exact⟨o,ho⟩
 ·obtain⟨o,ho,r⟩:=S1;exact⟨o,k1 _ ho,r⟩
theorem wS:MtQ X "dict.values" wR:=⟨y3⟩
theorem rq(hc:X.calm=true):bN X (.type "list") (fun xs H Q=>∃(v a:Addr) (kvs:List (Key×V)),xs=[.ref v]/\H v=some (lz v a)/\H a=some (.dK kvs)/\∀l,H l=none->Q (.ref l) (upd H l (.lst (kvs.map (·.2))))):=by
 intro pins s σ H xs us Q I r h;obtain⟨v,a,kvs,rfl,hv,ha,q⟩:=h;obtain⟨u,rfl,ru⟩:=df r;cases ru;obtain⟨z,hd,vs,rel,dd⟩:=oU I.hok ha;have hvv:s.heap.IsValuesView v a:=(show bh X.prog X.w H s.heap v (lz v a)from I.hok _ _ hv).1;obtain⟨o,es,ep,ho,hr⟩:=dd;have da:s.heap.DictAt (aA X.prog X.w) a vs ep:=⟨o,es,ho,hr⟩
 have vl:=rel.length;refine PySem.W.kdl_call (PySem.W.kdl_values (r:=v) (d:=a) (kvs:=vs) (ep:=ep) (knd:=aA X.prog X.w)) (I.ok.hd hc) ⟨hvv,da⟩ (by lia) fun h' tk acc c keep hD hacc=>?_
 have hl:acc.toList.length=kvs.length:=by rw[Za,hacc.1,vl]
 refine⟨.ref s.heap.objs.size,_,I.laid (o:= .lst (kvs.map (·.2))) (t':=tk) keep (Zh _) ?_,rfl,q _ I.fresh⟩;have e:acc.toList=vs.map (·.2):=by
  refine ext_getElem (by rw[hl,Z5,vl]) fun i h1 h2=>?_
  have h1':i<acc.size:=by rw[<-Za];exact h1
  obtain⟨k,ek⟩:=hacc.2 i acc[i] (Array.getElem?_eq_getElem h1');obtain⟨h3,e3⟩:=X6 ek;rw[List.getElem_map,e3];simp
 refine⟨by rw[Z5];exact z,acc.toList,c,by rw[e];exact yY rel,?_⟩;rw[Yz];exact hD
theorem y4(hc:X.calm=true):cy X (.type "list") (fun xs H Q=>∃(v a:Addr) (kvs:List (Key×V)),xs=[.ref v]/\H v=some (lz v a)/\H a=some (.dK kvs)/\∀l,H l=none->Q (.ref l) (upd H l (.lst (kvs.map (·.2))))):=⟨rq hc⟩
end
theorem pR:∀{ss:List Str},z∈ss->∃j,ss[j]? =some z/\(∀m,m<j->∀y,ss[m]? =some y->y≠z)/\(z::ss.eraseIdx j).Perm ss
 | x::ss,h=>by
   by_cases e:x=z
   ·exact⟨0,by simp[e],fun m hm=>absurd hm (by lia),by simp[e]⟩
   ·obtain⟨j,h1,h2,h3⟩:=pR ((mem_cons.mp h).resolve_left fun q=>e q.symm);refine⟨j+1,by simpa using h1,fun m hm y hy=>?_,?_⟩
    ·cases m with
     | zero=>simp at hy;rw[<-hy];exact e
     | succ m=>exact h2 m (by lia) y (by simpa using hy)
    ·rw[List.eraseIdx_cons_succ];exact(List.Perm.swap _ _ _).trans (h3.cons _)
section
variable{X:Cx}{K:PySem.W.Frag}
def Ba:V->List V->Hp->VK->Prop:=fun x vs H Q=>asR x fun a=>∃k y,vs=[kV k,y]/\∃kvs,H a=some (.dK kvs)/\Q ((bO kvs k).getD y) H
theorem Bb:MtM X "dict.get" Ba:=by
 intro pins s σ H x vs v us Q I rx rv h;obtain⟨a,rfl,k,y,rfl,kvs,e,q⟩:=dM h;cases rx;obtain⟨ku,yu,rfl,rk,ry⟩:=iA rv;obtain⟨z,hd,vs,rel,dd⟩:=oU I.hok e;exact call_meetsIn slot_dict_get dd.typeIs PySem.F.entry_dict_get (PySem.F.args_dict_get_3 _ _ _) (meets_dict_get_default (aA X.prog X.w) a (kJ rk) hd yu) ⟨_,dd.mapOf,(bO kvs k).getD y,H,I.tok _,(rel.val k).getD ry,q⟩
theorem wU:MtQ X "dict.get" Ba:=⟨Bb⟩
noncomputable def isZ(z:Str):Value->Bool
 | .str x _=>x==z
 | _=>false
theorem uu(t:Tok)(r:aF (ss.map V.str) its)(hl:ss.length=its.length)(hz:z∈ss):∃(j:Nat) (jl:j<its.toArray.size),ss[j]? =some z/\(z::ss.eraseIdx j).Perm ss/\(∀y,y∈its.toArray->MeetsSeq.EqGives y (.str z t) (isZ z y))/\isZ z its.toArray[j]=true/\∀m (hm:m<its.toArray.size),m<j->isZ z its.toArray[m]=false:=by
 obtain⟨j,h1,h2,h3⟩:=pR hz;have at_:∀m y,its[m]? =some y->∃x t,y=Value.str x t/\ss[m]? =some x:=fun m y hy=>by
  have hm:m<ss.length:=by rw[hl];exact(X6 hy).1
  obtain⟨u,eu,ru⟩:=r.get (i:=m) (x:=V.str ss[m]) (by rw[Zk,Z4 hm];rfl);rw[hy]at eu;obtain⟨t,et⟩:=ru;exact⟨_,t,(Z9 eu).trans et,Z4 hm⟩
 have jl:j<its.length:=by rw[<-hl];exact(X6 h1).1
 refine⟨j,by simpa using jl,h1,h3,fun y hy=>?_,?_,fun m hm hmj=>?_⟩
 ·obtain⟨m,hm⟩:=X1 (show y∈its by simpa using hy);obtain⟨x,t',rfl,_⟩:=at_ m y hm;exact eqGives_str x z t' t
 ·obtain⟨x,t',ex,hx⟩:=at_ j its[j] (Z4 jl);rw[h1]at hx;show isZ z its[j]=true;rw[ex,<-Z9 hx];exact beq_self_eq_true z
 ·have ml:m<its.length:=by simpa using hm
  obtain⟨x,t',ex,hx⟩:=at_ m its[m] (Z4 ml);show isZ z its[m]=false;rw[ex];exact beq_eq_false_iff_ne.mpr (h2 m hmj x hx)
def og:V->List V->Hp->VK->Prop:=fun x vs H Q=>asR x fun l=>∃z,vs=[.str z]/\∃ss:List Str,H l=some (.lst (ss.map V.str))/\z∈ss/\∀ss':List Str,(z::ss').Perm ss->Q .non (upd H l (.lst (ss'.map V.str)))
theorem uv:MtM X "list.remove" og:=by
 intro pins s σ H x vs v us Q I rx rv h;obtain⟨l,rfl,z,rfl,ss,hH,hz,q⟩:=dM h;cases rx;obtain⟨u,rfl,ru⟩:=rv.one;obtain⟨t,rfl⟩:=ru;obtain⟨zz,its,n,r,hl,e⟩:=I.lstM hH;rw[Z5]at hl zz;obtain⟨j,jl,_,h3,a1,a2,a3⟩:=uu t r hl hz;refine call_meets F.slot_list_remove ⟨_,e,rfl⟩ F.entry_list_remove (F.args_list_remove_2 _ _) (MeetsSeq.list_remove l its.toArray n (.str z t) (isZ z) a1 j jl a2 a3 (by rw[Zo];lia)) ⟨e,?_⟩;refine⟨.non,_,I.lset (its':=its.eraseIdx j) hH e ?_ ?_ ?_,rfl,q (ss.eraseIdx j) h3⟩
 ·show its.toArray.eraseIdxIfInBounds j=(its.eraseIdx j).toArray;rw[List.eraseIdxIfInBounds_toArray]
 ·rw[List.eraseIdx_eq_take_drop_succ,Zc,map_take,map_drop,<-List.eraseIdx_eq_take_drop_succ];exact r.eraseIdx j
 ·have:=mH ss j;rw[Z5]
  lia
theorem wV:MtQ X "list.remove" og:=⟨uv⟩
end
theorem uw:typeLookup (.type "list_reverseiterator") "__len__"=pure none:=by rw[typeLookup_type,builtinLookup_eq_fast];kernel_rfl
theorem wW:typeLookup (.type "list_reverseiterator") "__length_hint__"=pure (some (.builtin "list_reverseiterator.__length_hint__")):=by rw[typeLookup_type,builtinLookup_eq_fast];kernel_rfl
section
variable{prog:Program}{w:World}{A:Around}{E:Value->Shared->Prop}{s:Shared}
theorem l9(hh:A.handled=none)(hI:s.heap.IsRevIter I l ((items.size:Int) -1))(hl:s.heap.IsList l items)(ne:l≠I)(hz:items.size<=sizeLine)
 (hQ:∀s' acc c,(∀b o,b≠I->s.heap.get? b=some o->s'.heap.get? b=some o)->s'.gens=s.gens->s'.os=s.os->s'.heap.get? s.heap.objs.size=some {cls:= .type "list",data:= .seq acc c}->acc.toList=items.toList.reverse->Q (.ref s.heap.objs.size) s'):
 wpAny (model prog w) A (call (.type "list") [.ref I]) Q E s:=by
 have ltI:I<s.heap.objs.size:=let⟨_,ho,_⟩:=hI;Zt ho;have ltl:l<s.heap.objs.size:=let⟨_,ho,_⟩:=hl;Zt ho
 generalize hG:s.heap.push {cls:=Value.type "list",data:=Data.seq #[]}=G
 have gz:G.objs.size=s.heap.objs.size+1:=by rw[<-hG,Zp]
 have kG:∀b o,s.heap.get? b=some o->G.get? b=some o:=fun b o e=>by rw[<-hG];exact Z6 _ e
 have hS:G.get? s.heap.objs.size=some {cls:=Value.type "list",data:=Data.seq #[]}:=by rw[<-hG];exact Zi _ rfl
 refine callType_codes (Q₁:=fun obj s₁=>obj= .ref s.heap.objs.size/\s₁={s with heap:=G}) F.called_list (F.typeCall_list_1 (Value.ref I)) F.entry_list_init (code_list_new (Value.ref I) ⟨rfl,by rw[hG]⟩) fun obj s₁ h₁=>?_
 obtain⟨rfl,rfl⟩:=h₁;refine⟨⟨_,hS,rfl⟩,F.args_list_init_2 _ _,?_⟩;show wpAny (model prog w) A.in1.in1 (Builtin.«list.__init__» ⟨[.ref s.heap.objs.size,.ref I],[]⟩) _ _ _;unfold Builtin.«list.__init__»;refine Z2 ?_;refine listItems_at (s:={s with heap:=G}) hS rfl ?_;refine Z2 (listUpdate_at (s:={s with heap:=G}) hS rfl ?_ (X0 _));have gL:=get?_update_self (Obj.mapSeq fun _=> #[]) hS rfl;have oth:∀b o,b≠s.heap.objs.size->G.get? b=some o->(G.update s.heap.objs.size (Obj.mapSeq fun _=> #[])).get? b=some o:=fun b o hb e=>(get?_update_other _ _ (Ne.symm hb)).trans e
 refine Z2 (wpAny_letGo ?_)
 generalize G.update s.heap.objs.size (Obj.mapSeq fun _=> #[])=G2 at gL oth
 have nI:I≠s.heap.objs.size:=Zr ltI;have nl:l≠s.heap.objs.size:=Zr ltl;have hI2:G2.IsRevIter I l ((items.size:Int) -1):=hI.at fun o e=>oth _ _ nI (kG _ _ e)
 have hl2:G2.IsList l items:=let⟨o,ho,r⟩:=hl;⟨o,oth _ _ nl (kG _ _ ho),r⟩;have W:=Walks.listRev (prog:=prog) (w:=w) (A:=A.in1.in1) hh I l ne items;have st0:(0<=items.size/\G2.IsRevIter I l (↑items.size-1-((0:Nat):Int))/\G2.IsList l items):=⟨X0 _,by simpa using hI2,hl2⟩
 show wpAny (model prog w) A.in1.in1 (Builtin.List.listExtendWith (.ref s.heap.objs.size) (.ref I) .none) _ _ {s with heap:=G2};unfold Builtin.List.listExtendWith;have tI:Shared.TypeIs {s with heap:=G2} (.ref I) "list_reverseiterator":=hI2.typeIs;refine Z2 (wpAny_typeOf (T:="list_reverseiterator") tI ?_);have n1:Builtin.List.listSameRef (.ref s.heap.objs.size) (.ref I)=false:=beq_eq_false_iff_ne.mpr (Ne.symm nI);have n2:(Value.type "list_reverseiterator"==Value.type "list")=false:=by decide
 have n3:(Value.type "list_reverseiterator"==Value.type "tuple")=false:=by decide
 simp only[n1,n2,n3,Bool.or_false,Zx,if_false];refine Z2 (W.self 0 {s with heap:=G2} _ _ st0 ?_);refine Z2 (wpAny_holding ?_);unfold Builtin.List.listLengthHint;refine Z2 (wpAny_specialOf (T:="list_reverseiterator") tI uw ?_);show wpAny _ _ (specialOf (.ref I) (Str.ofString "__length_hint__")>>= _) _ _ _;refine Z2 (wpAny_specialOf tI wW ?_)
 wp_delta
 refine Z2 (wpAny_isInstance (T:="list_reverseiterator") (b:=true) tI (by rw[isSubtype_type];kernel_rfl) ?_);simp only[Bool.not_true,Zx,if_false];rw[if_pos (by decide +kernel)];rw[if_neg (by decide)];refine Z3 ?_;rw[if_neg (by decide +kernel)];have nfp:s.heap.objs.size∉[I,l]:=by
  simp only[Yn,Yu,or_false,not_or];exact⟨Ne.symm nI,Ne.symm nl⟩
 refine Z3 ⟨plainId_quiet F.plain_extend_loop _,codeAny_extend_loopS W.toS hz _ nfp _ items.size 0 _ _ _ rfl (X0 _) st0 gL (ItemsOf.nil _) fun s5 acc c5 m5 gL5 hacc=>?_⟩;refine⟨rfl,hQ s5 acc c5 (fun b o hb e=>?_) m5.gens m5.os gL5 ?_⟩
 ·have nb:b≠s.heap.objs.size:=Zr (Zt e);refine m5.heap b o ?_ (oth _ _ nb (kG _ _ e));simp only[Yn,Yu,or_false,not_or];exact⟨nb,hb⟩
 ·apply List.ext_getElem?;intro k;have al:acc.toList.length=items.size:=by rw[Za];exact hacc.1
  by_cases hk:k<items.size
  ·have hk':k<acc.size:=by rw[hacc.1];exact hk
   have:=hacc.2 k acc[k] (by simp[hk']);rw[List.getElem?_reverse (by simpa using hk),Za,getElem?_toList,getElem?_toList,this];simp[hk']
  ·rw[X5 (by lia),X5 (by simp;lia)]
end
noncomputable def Bc(n:Nat)(a l:Addr)(m:Nat):HO:= .ext fun h=>n<=a/\h.IsRevIter a l ((m:Int) -1)
theorem ux{X:Cx}:bN X (.type "reversed") (fun xs H Q=>∃(l:Addr) (ys:List V),xs=[.ref l]/\SqL X.K H l ys/\∀r,H r=none->Q (.ref r) (upd H r (Bc X.s₀.heap.objs.size r l ys.length))):=by
 intro pins s σ H xs us Q I r h;obtain⟨l,ys,rfl,hl,q⟩:=h;obtain⟨u,rfl,ru⟩:=df r;cases ru;obtain⟨its,rv,pl,hz⟩:=I.list hl;refine call_reversed_list pl.isList ?_;have Hn:H s.heap.objs.size=none:=I.hok.fresh (Zh _);have J:Inv X pins σ H {s with heap:=s.heap.push (revObj l ((its.toArray.size:Int) -1))}:=I.keptS (fun b o e=>Z6 _ e) rfl rfl;refine⟨.ref s.heap.objs.size,_,I.stoodS (o:=Bc X.s₀.heap.objs.size s.heap.objs.size l ys.length) J (Zh _) ⟨⟨I.sz,?_⟩,⟨_,Zi _ rfl⟩,fun _ _ ⟨hn,x⟩ k=>⟨hn,x.at fun o e=>k o e⟩⟩,rfl,q _ Hn⟩;rw[rv.length,<-Zo];exact⟨_,Zi _ rfl,rfl,rfl⟩
theorem Inv.dropped{X:Cx}(I:Inv X pins σ H s)(ha:H a=some (.ext φ))(hn:X.s₀.heap.objs.size<=a)(hk:∀b o,b≠a->s.heap.get? b=some o->s'.heap.get? b=some o)(hg:s'.gens=s.gens)(ho:s'.os=s.os):Inv X pins σ (drop H a) s':=by
 have ne:∀{b:Addr} {o:HO},H b=some o->(∀φ,o≠ .ext φ)->b≠a:=fun e n z=>by
  rw[z,ha]at e;cases e;exact n _ rfl
 have un:Un (frs X.stack) [a] H (drop H a) s.heap s'.heap:=by
  refine⟨fun b o e _ _ hx=>hk b o (by simpa using hx) e,fun b o e _ _ hx=>⟨o.slots,hk b o (by simpa using hx) e⟩,fun b o _ n _=>?_,fun b o e hx=>⟨o,hk b o (by simpa using hx) e⟩,fun b xs e=>?_,fun b o u e=>?_,fun b ps e=>⟨#[],?_⟩⟩
  ·unfold drop;split
   ·rfl
   ·exact n
  ·rw[gE (ne e (by simp))];exact e
  ·rw[gE (ne e (by simp))];exact e
  ·rw[gE (ne e (by simp))];simpa using e
 have hok:HOk X.prog X.w (drop H a) s'.heap:=fun b o e=>by
  have nb:b≠a:=fun z=>by rw[z,tY]at e;cases e
  rw[gE nb]at e;refine(I.hok b o e).stay (fun c u hc q=>hk c u ?_ q) (fun c q=>?_) fun c xs q=>?_
  ·rcases hc with rfl|hc
   ·exact nb
   ·exact ne hc (by simp)
  ·rw[gE (ne q (by simp))];exact q
  ·rw[gE (ne q (by simp))];exact q
 exact I.call' (s':=s') (ch:=[a]) ho un hok (by rw[hg];exact I.bare) fun b hb=>by
  obtain rfl:b=a:=by simpa using hb
  refine⟨.inr hn,fun z=>?_,fun x c e z=>?_,fun p hp z=>?_⟩
  ·have:=I.free;rw[<-z,ha]at this;cases this
  ·have:=I.freeC x c e;rw[z,ha]at this;cases this
  ·have:=(I.pin p hp).2.1;rw[z,ha]at this;cases this
theorem pS{X:Cx}(hc:X.calm=true):bN X (.type "list") (fun xs H Q=>∃(r l:Addr) (ys:List V),xs=[.ref r]/\H l=some (.lst ys)/\H r=some (Bc X.s₀.heap.objs.size r l ys.length)/\∀p,drop H r p=none->p≠r->Q (.ref p) (upd (drop H r) p (.lst ys.reverse))):=by
 intro pins s σ H xs us Q I r h;obtain⟨a,l,ys,rfl,hl,ha,q⟩:=h;obtain⟨u,rfl,ru⟩:=df r;cases ru;obtain⟨z,its,n,rv,hlen,e⟩:=I.lstM hl;obtain⟨⟨hn,hit⟩,_⟩:=I.hok a _ ha;have nla:l≠a:=fun z=>by rw[z,ha]at hl;cases hl
 have sz:its.toArray.size=ys.length:=by rw[Zo,hlen]
 refine l9 (items:=its.toArray) (l:=l) (I.ok.hd hc) (by rw[sz];exact hit) ⟨_,e,rfl,n,rfl⟩ nla (by rw[sz];exact z) fun s' acc c hk hg ho gl eacc=>?_
 have J0:=I.dropped (s':=s) ha hn (fun _ _ _ e=>e) rfl rfl;have J1:=I.dropped ha hn hk hg ho;have lt:a<s.heap.objs.size:=let⟨_,ho,_⟩:=hit;Zt ho;refine⟨.ref s.heap.objs.size,_,J0.stoodS (o:= .lst ys.reverse) J1 (Zh _) ⟨?_,acc.toList,c,?_,?_⟩,rfl,q _ (J0.hok.fresh (Zh _)) (Yp lt)⟩
 ·rw[List.length_reverse];exact z
 ·rw[eacc];exact rv.reverse
 ·rw[Yz];exact gl
def pT(te:TE):TE:=fun σ H Q=>te σ H fun v H1=>∃l ys,v= .ref l/\H1 l=some (.lst ys)/\∀p,H1 p=none->Q (.ref p) (upd H1 p (.lst ys.reverse))
theorem wX{X:Cx}(hc:X.calm=true)(hg:Gl X "reversed")(hm:X.mg "reversed"=none)(hg':Gl X "list")(hm':X.mg "list"=none)(hs:bj e=false)(he:QE X e te):
 QE X (.Call (.Name "list" p0) [.Call (.Name "reversed" p1) [e] [] p2] [] p3) (pT te):=by
 have h1:QE X (.Call (.Name "reversed" p1) [e] [] p2) _:=ctE ⟨ux⟩ hg hm PyProof.Rows.boot_reversed rfl rfl (by simp[hs]) (paE hs (⟨A1 he.h⟩:QE X e (clo te)) ah);have h2:=ctE (X:=X) (p:=p0) (pos:=p3) ⟨pS hc⟩ hg' hm' boot_list rfl rfl rfl (paE rfl h1 ah);refine⟨A2 h2.h fun σ H Q q=>?_⟩;refine⟨_,q,fun v H1 ⟨l,ys,hv,hl,q⟩=>⟨l,ys,by rw[hv],SqL.of hl,fun r hr=>?_⟩⟩;refine⟨r,l,ys,rfl,by rw[ai (aq hl hr)];exact hl,aa,fun p hp _=>?_⟩;rw[wz hr]at hp ⊢;exact q p hp
section
variable{X:Cx}
def Bd:R2:=fun x y H Q=>asR x fun a=>asR y fun b=>∃xs,H a=some (.lst xs)/\H b=some (.lst [])/\Q (.bl (decide (xs≠[]))) H
theorem Be(hu:X.A.units+64<cLine):OpR X (compareOp .NotEq) Bd:=by
 intro pins s σ H x y v u Q I rx ry h;obtain⟨a,rfl,h1⟩:=dM h;obtain⟨b,rfl,xs,ha,hb,q⟩:=dM h1;cases rx;cases ry;obtain⟨z,its,n,r,hl,e⟩:=I.lstM ha;obtain⟨z2,its2,n2,r2,hl2,e2⟩:=I.lstM hb;obtain rfl:its2=[]:=length_eq_zero_iff.mp hl2.symm;by_cases h0:xs=[]
 ·subst h0;obtain rfl:its=[]:=length_eq_zero_iff.mp hl.symm;exact richCompare_meets_room (op:= .NotEq) ⟨_,e,rfl⟩ ⟨_,e2,rfl⟩ slot_list_ne entry_list_ne (args_list_ne_2 _ _) (SeqAt.list_neAt a b #[] #[] n n2 none none #[] #[] rfl fun _=>true) ⟨e,e2,fun j h=>absurd h (Yt j),by simp,.bl _,H,I,rfl,q⟩ (by lia)
 ·have hs:its.toArray.size≠0:=by
   rw[Zo,<-hl];exact fun q=>h0 (length_eq_zero_iff.mp q)
  rw[show decide (xs≠[])=true from Ze h0]at q;exact richCompare_meets_room (op:= .NotEq) ⟨_,e,rfl⟩ ⟨_,e2,rfl⟩ slot_list_ne entry_list_ne (args_list_ne_2 _ _) (SeqAt.list_ne_lengthsAt a b its.toArray #[] n n2 none none #[] #[] (by simpa using hs)) ⟨e,e2,by simp,.bl true,H,I,rfl,q⟩ (by lia)
theorem Ca(hr:bS k X.A):OpQ X (compareOp .NotEq) Bd:=⟨Be hr.units⟩
end
section
variable{prog:Program}{w:World}{A:Around}{E:Value->Shared->Prop}{s:Shared}
theorem dW(I:List α->β->Shared->Prop):∀(xs:List α) (b:β) (s:Shared),I xs b s->
 (∀x r b s,I (x::r) b s->wpAny (model prog w) A (f x b) (fun y s'=>match y with| .done c=>Q c s'| .yield c=>I r c s') E s)->(∀b s,I [] b s->Q b s)->wpAny (model prog w) A (forIn xs b f) Q E s
 |[],b,s,h,_,hq=>by
  rw[forIn_nil];exact Z3 (hq b s h)
 | x::r,b,s,h,hs,hq=>by
   rw[forIn_cons];refine Z2 (wpAny_mono (hs x r b s h) (fun y s' hy=>?_) fun _ _ e=>e);cases y with
   | done c=>exact Z3 hy
   | yield c=>exact dW I r c s' hy hs hq
theorem wY:∀(as:List Addr) {Q:Bool->Shared->Prop},(∀b∈as,∃js,aW w b js s.heap)->Q true s->wpAny (model prog w) A (setsQuiet as) Q E s:=by
 intro as Q h hq;unfold setsQuiet;refine Z2 (dW (fun r b s'=>(∀b∈r,∃js,aW w b js s.heap)/\b=(none,())/\s'=s) as _ s ⟨h,rfl,rfl⟩ ?_ ?_)
 ·rintro x r b s' ⟨hr,rfl,rfl⟩;obtain⟨js,o,es,ep,t,ss,ho,hex,hd,hst,hp,hnd,hel,hb,hf,hpl,hled⟩:=hr x Zl;refine Z2 (wpAny_setEntries_of ho hd hf (Z2 ?_));rw[<-forIn_toList];refine dW (fun r b s''=>(∀e∈r,∃z u,e=(hashStr w z,Value.str z u))/\b=(none,())/\s''=s') es.toList _ _ ⟨hel,rfl,rfl⟩ ?_ ?_
  ·rintro e r b s'' ⟨he,rfl,rfl⟩;obtain⟨z,u,rfl⟩:=he e Zl;exact Z3 ⟨fun e h=>he e (Zj _ h),rfl,rfl⟩
  ·rintro b s'' ⟨_,rfl,rfl⟩;exact Z3 ⟨fun e h=>hr e (Zj _ h),rfl,rfl⟩
 ·rintro b s' ⟨_,rfl,rfl⟩;exact Z3 hq
noncomputable def hsE(w:World)(p:Str×Tok):Int×Value:=(hashStr w p.1,.str p.1 p.2)
theorem aW.texts{a:Addr}{h:Heap}{o:Obj}{es:Array (Int×Value)}(hst:StrsAre (es.toList.map (·.2)) ss)(hp:ss.Perm ks)(hel:∀e∈es.toList,∃z u,e=(hashStr w z,Value.str z u))(xs:List (Int×Value))(hx:xs.Perm es.toList):∃zs:List (Str×Tok),xs=zs.map (hsE w)/\(zs.map (·.1)).Perm ks:=by
 have all:∀l:List (Int×Value),(∀e∈l,∃z u,e=(hashStr w z,Value.str z u))->∃zs:List (Str×Tok),l=zs.map (hsE w):=fun l=>by
  induction l with
  | nil=>exact fun _=>⟨[],rfl⟩
  | cons e l ih=>
    intro h;obtain⟨z,u,rfl⟩:=h e Zl;obtain⟨zs,rfl⟩:=ih fun x hx=>h x (Zj _ hx)
    exact⟨(z,u)::zs,rfl⟩
 obtain⟨zs,rfl⟩:=all xs fun e he=>hel e (hx.mem_iff.mp he)
 refine⟨zs,rfl,?_⟩;obtain⟨ts,r1,r2⟩:=bJ hst (hx.map (·.2));have e:ts=zs.map (·.1):=by
  rw[<-r1.strs,Yj,Yj];rfl
 rw[<-e];exact r2.trans hp
theorem m9{others:List Addr}{filled:Option Addr}{Q:Array (Int×Value)->Shared->Prop}(hS:aW w a ks s.heap)(hO:∀b∈others,∃js,aW w b js s.heap)(hF:∀r,filled=some r->r≠a/\aW w r [] s.heap)
 (hQ:∀(zs:List (Str×Tok)) (d:Drawn) (h':Heap),(zs.map (·.1)).Perm ks->(∀b o,filled≠some b->s.heap.get? b=some o->h'.get? b=some o)->(∀r,filled=some r->aW w r [] h')->Q (zs.map (hsE w)).toArray {s with heap:=h',drawn:=d}):
 wpAny (model prog w) A (setWalkUnseen a others filled) Q E s:=by
 obtain⟨o,es,ep,t,ss,ho,hex,hd,hst,hp,hnd,hel,hb,hf,hpl,hled⟩:=id hS;have fin:∀(xs:List (Int×Value)) (d:Drawn) (h':Heap),xs.Perm es.toList->(∀b o,filled≠some b->s.heap.get? b=some o->h'.get? b=some o)->(∀r,filled=some r->aW w r [] h')->Q xs.toArray {s with heap:=h',drawn:=d}:=fun xs d h' hx h1 h2=>by
  obtain⟨zs,rfl,hz⟩:=aW.texts (a:=a) (h:=h') (o:=o) hst hp hel xs hx;exact hQ zs d h' hz h1 h2
 have walk:wpAny (model prog w) A (setWalk a) Q E s:=by
  unfold setWalk;refine Z2 (wpAny_setState_of ho hd hf ?_);refine Z2 (Z2 (wpAny_askSetting (Z3 ?_)));show wpAny _ _ (if aN w=true then _ else _) _ _ _;by_cases bt:aN w=true
  ·rw[if_pos bt];refine Z2 (wpAny_askSetting (Z3 ?_));have:=fin (pickOrder (w.params.setOrder a ep) es).toList s.drawn s.heap (mT _ _) (fun _ _ _ e=>e) fun r e=>(hF r e).2
   rw[Yz]at this;exact this
  ·rw[if_neg bt]
   split
   ·exact Z2 (nO es.size es.toList _ _ (by simp) fun ys d p=>Z3 (fin ys d s.heap p (fun _ _ _ e=>e) fun r e=>(hF r e).2))
   ·refine Z2 ?_;show wpAny _ _ (if(!t.led&&decide (es.size>1))=true then unsupported "set:maker-not-led" else pure ()) _ _ _;rw[hled,show aN w=false by simpa using bt];refine Z3 (Z3 ?_);have:=fin es.toList s.drawn s.heap (.refl _) (fun _ _ _ e=>e) fun r e=>(hF r e).2
    rw[Yz]at this;exact this
 unfold setWalkUnseen;refine Z2 (wpAny_setState_of ho hd hf ?_);refine Z2 (Z2 (wpAny_askSetting (Z3 ?_)));show wpAny _ _ (if(aN w||t.led&&t.plain||decide (es.size<=1))=true then _ else _) _ _ _;by_cases h1:(aN w||t.led&&t.plain||decide (es.size<=1))=true
 ·rw[if_pos h1];exact walk
 ·rw[if_neg h1];have e0:t.plain=false:=hpl fun z=>h1 (by rw[z];simp)
  refine Z2 (wY (a::others) (fun b hb=>?_) ?_)
  ·rcases mem_cons.mp hb with e|e
   ·rw[e];exact⟨_,hS⟩
   ·exact hO b e
  rw[if_neg (by decide)];refine Z2 (wpAny_rule ?_);cases filled with
  | none=>
    have:=fin es.toList s.drawn s.heap (.refl _) (fun _ _ _ e=>e) fun r e=>(hF r e).2
    rw[Yz]at this;exact Z3 this
  | some r=>
    obtain⟨ne,o2,es2,ep2,t2,ss2,ho2,hex2,hd2,hst2,hp2,hnd2,hel2,hb2,hf2,hpl2,hled2⟩:=hF r rfl;dsimp only;refine Z2 (wpAny_setState_of ho2 hd2 hf2 ?_);dsimp only
    split
    ·refine Z2 (wpAny_storeSet_of ho2 hd2 ?_ (fits_of_scanBound hb2));have:=fin es.toList s.drawn _ (.refl _) (fun b o hb e=>((SameBut.update s.heap r (Obj.putSet es2 {t2 with led:=t2.led&&t.led,plain:=t2.plain&&t.plain})).2 b fun z=>hb (by rw[z])).trans e) fun r' e=>?_
     ·rw[Yz]at this;exact Z3 this
     ·cases e;exact(aW.stored (w:=w) (es':=es2) (t':={t2 with led:=t2.led&&t.led,plain:=t2.plain&&t.plain}) ho2 hex2 hd2 hst2 hp2 hnd2 hel2 hb2 hf2 (by show(t2.plain&&t.plain)=false;rw[e0,Bool.and_false]) (by show(t2.led&&t.led)=_;rw[hled2,hled,Bool.and_self])).2
    ·have:=fin es.toList s.drawn s.heap (.refl _) (fun _ _ _ e=>e) fun r e=>(hF r e).2
     rw[Yz]at this;exact Z3 this
end
section
variable{prog:Program}{w:World}{A:Around}{E:Value->Shared->Prop}{s:Shared}
theorem y6(h:iw (Sum.inr z) (Value.str y u)=true):y=z:=by
 rcases aY h with⟨i,t',q1,q2⟩|⟨y',t',q1,q2⟩
 ·cases q2
 ·cases q1;injection q2
theorem pU{ks:List Str}(ho:s.heap.get? a=some o)(hd:o.data= .set es ep t)(hel:∀e∈es.toList,∃z u,e=(hashStr w z,Value.str z u))(hb:es.size<scanBound)(hf:t.fits es.size=true)
 (hQ:∀r,(r=none->∀e∈es.toList,∀u,e.2≠ .str z u)->(∀j,r=some j->∃u,es.toList[j]? =some (hashStr w z,.str z u))->Q r s):wpAny (model prog w) A (setFind a (.str z tk) (hashStr w z)) Q E s:=by
 have hE:ElemsOf (aA prog w) es.toList:=mS hel;have hkey:(aA prog w).is (Sum.inr z) (.str z tk)=true:=cO z tk;unfold setFind setFindIn;refine Z2 (wpAny_setState_of ho hd hf ?_);dsimp only;rw[byScan_of (knd:=aA prog w) rfl hb hE];simp only[↓reduceIte];refine Z2 (wpAny_rule (Z2 (wpAny_setScan_of (knd:=aA prog w) (k:=Sum.inr z) hkey ho hd hf hE ?_)));cases hr:List.findIdx? (fun e=>(aA prog w).is (Sum.inr z) e.2) es.toList with
 | some j=>
   obtain⟨hj,hpj,_⟩:=List.findIdx?_eq_some_iff_getElem.mp hr;dsimp only;rw[zero_add];refine Z3 (hQ _ (fun h=>(nomatch h)) fun j' e=>?_);cases e;obtain⟨y,u,ey⟩:=hel es.toList[j] (Y6 hj);rw[ey]at hpj;rw[y6 (u:=u) hpj]at ey;exact⟨u,by rw[Z4 hj,ey]⟩
 | none=>
   refine Z3 (hQ none (fun _ e he u q=>?_) fun j e=>(nomatch e));have:=List.findIdx?_eq_none_iff.mp hr e he;rw[q,show(aA prog w).is (Sum.inr z) (Value.str z u)=true from cO z u]at this;cases this
theorem uy{t:SetTable}(h:t.fits n=true)(hi:i<n):(t.drop i).fits (n-1)=true/\(t.drop i).led=t.led/\(t.drop i).plain=t.plain:=by
 unfold SetTable.fits at h ⊢;rw[Zu,beq_iff_eq,decide_eq_true_eq]at h;unfold SetTable.drop;have:t.place[i]? =some t.place[i]:=by simp[h.1,hi]
 rw[this];refine⟨?_,rfl,rfl⟩;rw[Zu,beq_iff_eq,decide_eq_true_eq];unfold SetTable.fill at h ⊢;simp only[SetTable.eraseAt,SetTable.insertAt,size_append,Array.size_extract,Array.size_push]
 lia
theorem rA(h:i<es.size):(SetTable.eraseAt es i).toList=es.toList.eraseIdx i:=by
 rw[List.eraseIdx_eq_take_drop_succ,SetTable.eraseAt,toList_append,toList_extract,toList_extract,List.extract_eq_take_drop,List.extract_eq_take_drop];simp;exact Zm (by simp)
theorem pV{ks:List Str}(hS:aW w a ks s.heap)(hQ:∀h' b,SameBut a s.heap h'->aW w a (ks.erase z) h'->Q b {s with heap:=h'}):wpAny (model prog w) A (setDiscardHashed a (.str z tk) (hashStr w z)) Q E s:=by
 obtain⟨o,es,ep,t,ss,ho,hex,hd,hst,hp,hnd,hel,hb,hf,hpl,hled⟩:=id hS;unfold setDiscardHashed;refine Z2 (pU (ks:=ks) ho hd hel hb hf fun r h1 h2=>?_);cases r with
 | none=>
   have hz:z∉ks:=fun q=>by
    obtain⟨u,hu⟩:=(di hst).mpr (hp.mem_iff.mpr q);obtain⟨e,he,q2⟩:=X9 hu;exact h1 rfl e he u q2
   rw[List.erase_of_not_mem hz]at hQ;exact Z3 (hQ s.heap false (SameBut.refl a s.heap) hS)
 | some i=>
   obtain⟨u,hu⟩:=h2 i rfl;have hi:i<es.size:=by rw[<-Za];exact(X6 hu).1
   have pe:((hashStr w z,Value.str z u)::(SetTable.eraseAt es i).toList).Perm es.toList:=by
    rw[rA hi];have:=e7 (xs:=es.toList) (i:=i) (by simpa using hi);rwa[(X6 hu).2]at this
   obtain⟨ts,r1,r2⟩:=bJ hst (pe.map (·.2));rw[Yi]at r1;cases r1 with
   | cons _ _ r1=>
   obtain⟨d1,d2,d3⟩:=uy hf hi;have es1:(SetTable.eraseAt es i).size=es.size-1:=by
    rw[<-Za,<-Za (xs:=es),<-pe.length_eq];simp
   dsimp only;refine Z2 (wpAny_setState_of ho hd hf ?_);dsimp only;refine Z2 (wpAny_storeSet_of ho hd (Z2 (wpAny_point (Z3 (hQ _ true (SameBut.update s.heap a _) (aW.stored (w:=w) ho hex hd r1 ((List.cons_perm_iff_perm_erase.mp (r2.trans hp)).2) (hnd.erase z) (fun e he=>hel e (pe.mem_iff.mp (Zj _ he))) ?_ ?_ ?_ ?_).2)))) (fits_of_scanBound ?_))
   ·lia
   ·rw[es1];exact d1
   ·rw[d3];exact hpl (by lia)
   ·rw[d2];exact hled
   ·lia
end
theorem sG(h:STab.WF t es)(hm:es.size<=t.mask):t.fits es.size=true:=by
 unfold SetTable.fits SetTable.fill;rw[h.size,h.dum];simpa using hm
section
variable{prog:Program}{w:World}{A:Around}{E:Value->Shared->Prop}{s:Shared}
def oh(w:World)(a:Addr)(n:Nat)(h:Heap):Prop:=∃(o:Obj) (ep:Nat) (t:SetTable),h.get? a=some o/\o.ExactSet/\o.data= .set #[] ep t/\t.place= #[]/\t.dummies= #[]/\t.led=(!aN w)/\(∃k,t.mask+1=2^k)/\7<=t.mask/\n<=t.mask
theorem oh.fits{t:SetTable}(hp:t.place= #[])(hd:t.dummies= #[]):t.fits (#[]:Array (Int×Value)).size=true:=by
 unfold SetTable.fits SetTable.fill;rw[hp,hd];simp
theorem y8{n:Nat}{Q:Unit->Shared->Prop}(hr:s.heap.get? r=some (newSetO w))(hn:n<=1000)(hQ:∀h',SameBut r s.heap h'->oh w r n h'->Q () {s with heap:=h'}):wpAny (model prog w) A (setRoomFor r n) Q E s:=by
 have hf:(SetTable.fresh 0 0 (!aN w)).fits (#[]:Array (Int×Value)).size=true:=oh.fits rfl rfl;unfold setRoomFor;refine Z2 (wpAny_setState_of hr rfl hf ?_);show wpAny _ _ (match(if(0+n)*5>=7*3 then some ((0+n)*2)else none)with|some x=>setRelay r x|_=>pure ()) _ _ _;by_cases h:(0+n)*5>=7*3
 ·rw[if_pos h];refine STab.relay_w hr rfl hf (by simp) (by lia) fun es' t' P W l p m1 m2=>hQ _ (SameBut.update s.heap r _) ?_
  obtain rfl:es'= #[]:=by
   have:=P.length_eq;simpa using this
  have hg:(s.heap.update r (Obj.putSet #[] t')).get? r=some {newSetO w with data:= .set #[] (0+1) t'}:=by
   have q:=get?_update_self (Obj.putSet #[] t') hr (by rw[putSet_of #[] t' (o:=newSetO w) rfl];rfl);rwa[putSet_of #[] t' (o:=newSetO w) rfl]at q
  exact⟨_,_,t',hg,⟨rfl,rfl,rfl⟩,rfl,Array.eq_empty_of_size_eq_zero W.size,W.dum,l,W.pow,W.big,by lia⟩
 ·rw[if_neg h];exact Z3 (hQ s.heap (SameBut.refl r s.heap) ⟨_,_,_,hr,⟨rfl,rfl,rfl⟩,rfl,rfl,rfl,rfl,⟨3,rfl⟩,Zh 7,by show n<=7;lia⟩)
theorem wZ{ks:List Str}(hS:aW w a ks s.heap)(hr:s.heap.get? r=some (newSetO w))(ne:r≠a)(h1:1<=ks.length)(h2:ks.length<=1000)(hQ:∀h',SameBut r s.heap h'->aW w r ks h'->Q () {s with heap:=h'}):wpAny (model prog w) A (setMerge r a) Q E s:=by
 obtain⟨o,es,ep,t,ss,ho,hex,hd,hst,hp,hnd,hel,hb,hf,hpl,hled⟩:=id hS;have hn:es.size=ks.length:=by
  have q:=bp hst;rw[Z5,Za,hp.length_eq]at q;exact q
 have pl:t.plain=false:=hpl (by lia);unfold setMerge;rw[if_neg (by simpa using ne)];refine Z2 (wpAny_setState_of ho hd hf ?_);dsimp only;rw[if_neg (fun h:es.isEmpty=true=>by have:=Zn h;lia)];refine Z2 (y8 hr (by lia) fun h' sb ⟨o2,ep2,t2,ho2,hex2,hd2,p2,d2,l2,k2,b2,m2⟩=>?_);refine Z2 (wpAny_setState_of (s:={s with heap:=h'}) ho2 hd2 (oh.fits p2 d2) ?_);dsimp only;have fill0:t2.fill=0:=by unfold SetTable.fill;rw[p2,d2];rfl
 have put:∀(es':Array (Int×Value)) (t':SetTable),es'.toList.Perm es.toList->t'.fits es'.size=true->t'.plain=false->t'.led=(!aN w)->wpAny (model prog w) A (storeSet r es' t') Q E {s with heap:=h'}:=fun es' t' P f p l=>by
  have sz:es'.size=es.size:=by rw[<-Za,P.length_eq,Za]
  obtain⟨ts,r1,r2⟩:=bJ hst (P.map (·.2));exact wpAny_storeSet_of (s:={s with heap:=h'}) ho2 hd2 (hQ _ (sb.trans (SameBut.update h' r _)) (aW.stored (w:=w) ho2 hex2 hd2 r1 (r2.trans hp) hnd (fun e he=>hel e (P.mem_iff.mp he)) (by lia) f p l).2) (fits_of_scanBound (by lia))
 unfold SetTable.road;rw[fill0,if_neg (by decide)]
 split
 ·rename_i heq
  exact put es _ (.refl _) hf (by show(t2.plain&&t.plain)=false;rw[pl,Bool.and_false]) (by show(t2.led&&t.led)=_;rw[l2,hled,Bool.and_self])
 ·obtain⟨k,hk⟩:=k2;obtain⟨t',order,e1,e2,e3,e4,e5,W,P⟩:=STab.laid_ok hk b2 es (by lia) t2.finger t2.moves (t2.led&&t.led) (t2.plain&&t.plain);have sz:(order.filterMap (es[·]?)).size=es.size:=by rw[<-Za,P.length_eq,Za]
  rw[e1];refine Z2 ?_;show wpAny (model prog w) A (if((order.filterMap (es[·]?)).size != es.size)=true then _ else pure (order.filterMap (es[·]?),t')) _ E _;rw[if_neg (by simp[sz])];exact Z3 (put _ t' P (show t'.fits (order.filterMap (es[·]?)).size=true from sG W (by rw[sz,e2];lia)) (by rw[e4,pl,Bool.and_false]) (by rw[e3,l2,hled,Bool.and_self]))
 ·rename_i heq
  split at heq<;> cases heq
end
theorem aW.nd(S:aW w a ks h):ks.Nodup:=by
 obtain⟨_,_,_,_,_,_,_,_,_,_,h,_⟩:=S;exact h
section
variable{prog:Program}{w:World}{A:Around}{E:Value->Shared->Prop}{s:Shared}
theorem oi(hO:aW w b js s.heap)(hQ:Q true s):wpAny (model prog w) A (Builtin.Frozenset.isAnySet (.ref b)) Q E s:=by
 obtain⟨o,es,ep,t,ss,ho,hex,_⟩:=hO;unfold Builtin.Frozenset.isAnySet;exact Z2 (wpAny_isInstance (T:="set") (b:=true) ⟨o,ho,hex.1⟩ (by rw[isSubtype_type];kernel_rfl) (Z3 hQ))
theorem iS(hO:aW w b js s.heap)(hQ:Q js.length s):wpAny (model prog w) A (Builtin.Frozenset.sizeOf b) Q E s:=by
 obtain⟨o,es,ep,t,ss,ho,hex,hd,hst,hp,hnd,hel,hb,hf,hpl,hled⟩:=hO;have hn:es.size=js.length:=by
  have q:=bp hst;rw[Z5,Za,hp.length_eq]at q;exact q
 unfold Builtin.Frozenset.sizeOf;exact Z2 (wpAny_setEntries_of ho hd hf (Z3 (by rw[hn];exact hQ)))
theorem w4(hS:aW w r ks s.heap)(hO:aW w b js s.heap)(ne:r≠b)(big:js.length<ks.length)(few:ks.length<=900)
 (hQ:∀h' d ms,(∀c o,c≠r->s.heap.get? c=some o->h'.get? c=some o)->(∀x,x∈ms↔x∈ks/\x∉js)->aW w r ms h'->Q () {s with heap:=h',drawn:=d}):wpAny (model prog w) A (Builtin.Frozenset.differenceUpdate nm r (.ref b)) Q E s:=by
 unfold Builtin.Frozenset.differenceUpdate;rw[if_neg (by simpa using ne.symm)];refine Z2 (oi hO ?_);rw[if_pos rfl];refine Z2 (Z3 (Z2 (iS hO (Z2 (iS hS ?_)))));rw[if_neg (by lia)];obtain⟨o,es,ep,t,ss,ho,hex,hd,hst,hp,hnd,hel,hb,hf,hpl,hled⟩:=id hO;have epo:∀(s':Shared) (Q':Nat->Shared->Prop),s'.heap.get? b=some o->Q' ep s'->wpAny (model prog w) A (setEpoch b) Q' E s':=fun s' Q' e q=>by
  unfold setEpoch;exact Z2 (wpAny_setState_of e hd hf (Z3 q))
 refine Z2 (epo s _ ho ?_);refine Z2 (wpAny_holding (Z2 (m9 hO (fun c hc=>⟨ks,by rw[X8 hc];exact hS⟩) (fun _ e=>(nomatch e)) fun zs d h1 pz k1 _=>Z2 ?_)));rw[<-forIn_toList];refine dW (fun xs _ s'=>∃pre rest h',zs=pre++rest/\xs=rest.map (hsE w)/\s'={s with heap:=h',drawn:=d}/\(∀c o,c≠r->s.heap.get? c=some o->h'.get? c=some o)/\∃ms,aW w r ms h'/\∀x,x∈ms↔x∈ks/\x∉pre.map (·.1)) _ _ _
  ⟨[],zs,h1,rfl,rfl,rfl,fun c o _ e=>k1 c o (by simp) e,ks,hS.keep fun o e=>k1 r o (by simp) e,by simp⟩ ?_ ?_
 ·rintro x xs _ s' ⟨pre,rest,h',ez,ex,rfl,kp,ms,S,hm⟩;cases rest with
  | nil=>cases ex
  | cons p rest=>
  rw[Yi]at ex;injection ex with ex1 ex2
  subst ex1;refine Z2 (wpAny_holding (pV (z:=p.1) (tk:=p.2) (s:={s with heap:=h',drawn:=d}) S fun h2 bb sb S2=>?_));refine Z2 ?_;unfold Builtin.Frozenset.unchanged;have kp2:∀c o,c≠r->s.heap.get? c=some o->h2.get? c=some o:=fun c o hc e=>(sb.2 c hc).trans (kp c o hc e)
  refine Z2 (epo {s with heap:=h2,drawn:=d} _ (kp2 b o ne.symm ho) ?_);rw[if_neg (by simp)];refine Z3 (Z3 ⟨pre++[p],rest,h2,by rw[ez,Zd];rfl,ex2,rfl,kp2,_,S2,fun x=>?_⟩);rw[S.nd.mem_erase_iff,hm,Zc,Yk,Yi,map_nil,mem_singleton,not_or]
  constructor
  ·exact fun⟨a,b,c⟩=>⟨b,c,a⟩
  ·exact fun⟨b,c,a⟩=>⟨a,b,c⟩
 ·rintro _ s' ⟨pre,rest,h',ez,ex,rfl,kp,ms,S,hm⟩;obtain rfl:rest=[]:=by
   cases rest with
   | nil=>rfl
   | cons p rest=>cases ex
  rw[Zw]at ez;have hm:∀x,x∈ms↔x∈ks/\x∉js:=fun x=>by rw[hm,<-ez,pz.mem_iff]
  have some1:ms.length≠0:=fun e=>by
   have:=STab.nodup_sub hS.nd (m:=js) fun x hx=>Decidable.byContradiction fun q=>by
    have:=(hm x).mpr ⟨hx,q⟩;rw[length_eq_zero_iff.mp e]at this;cases this
   lia
  have sub:ms.length<=ks.length:=STab.nodup_sub S.nd fun x hx=>((hm x).mp hx).1
  refine Z3 ?_;obtain⟨o2,es2,ep2,t2,ss2,ho2,hex2,hd2,hst2,hp2,hnd2,hel2,hb2,hf2,hpl2,hled2⟩:=id S;have hn:es2.size=ms.length:=by
   have q:=bp hst2;rw[Z5,Za,hp2.length_eq]at q;exact q
  show wpAny _ _ (setTidy r) _ _ _;unfold setTidy;refine Z2 (wpAny_setState_of (s:={s with heap:=h',drawn:=d}) ho2 hd2 hf2 ?_);dsimp only
  split
  ·rw[show SetTable.grown es2.size=es2.size*4 by unfold SetTable.grown;rw[if_neg (by lia)]];refine STab.relay_w (s:={s with heap:=h',drawn:=d}) ho2 hd2 hf2 (by lia) (by lia) fun es' t' P W l p m1 m2=>?_
   have sz:es'.size=es2.size:=by rw[<-Za,P.length_eq,Za]
   obtain⟨ts,r1,r2⟩:=bJ hst2 (P.map (·.2));exact hQ _ d ms (fun c o hc e=>((SameBut.update h' r _).2 c hc).trans (kp c o hc e)) hm (aW.stored (w:=w) ho2 hex2 hd2 r1 (r2.trans hp2) hnd2 (fun e he=>hel2 e (P.mem_iff.mp he)) (by lia) (sG W (by lia)) (by rw[p];exact hpl2 (by lia)) (by rw[l];exact hled2)).2
  ·exact Z3 (hQ h' d ms kp hm S)
end
section
variable{prog:Program}{w:World}{A:Around}{E:Value->Shared->Prop}{s:Shared}
theorem pW(hQ:Q (.ref s.heap.objs.size) {s with heap:=s.heap.push (newSetO w)}):wpAny (model prog w) A (newSet (.type "set")) Q E s:=by
 unfold newSet;refine Z2 (Z2 (wpAny_askSetting (Z3 ?_)));exact wpAny_newObj_type hQ
theorem pX(hS:aW w a ks s.heap)(hQ:Q (.type "set") s):wpAny (model prog w) A (Builtin.Frozenset.baseOf a) Q E s:=by
 obtain⟨o,es,ep,t,ss,ho,hex,_⟩:=hS;unfold Builtin.Frozenset.baseOf;exact Z2 (wpAny_isInstance (T:="set") (b:=true) ⟨o,ho,hex.1⟩ (by rw[isSubtype_type];kernel_rfl) (Z3 hQ))
theorem y9(hS:aW w a ks s.heap)(hO:aW w b js s.heap)(few:ks.length<=900)
 (hQ:∀h' d ms,(∀c o,s.heap.get? c=some o->h'.get? c=some o)->(∀x,x∈ms↔x∈ks/\x∉js)->aW w s.heap.objs.size ms h'->Q (.ref s.heap.objs.size) {s with heap:=h',drawn:=d}):wpAny (model prog w) A (Builtin.Frozenset.difference nm a (.ref b)) Q E s:=by
 have lt:∀{c:Addr} {ls:List Str},aW w c ls s.heap->c≠s.heap.objs.size:=fun{c ls} h=>by
  obtain⟨o,_,_,_,_,ho,_⟩:=h;exact Zr (Zt ho)
 have kp:∀c o,s.heap.get? c=some o->(s.heap.push (newSetO w)).get? c=some o:=fun c o e=>Z6 _ e
 have hr:(s.heap.push (newSetO w)).get? s.heap.objs.size=some (newSetO w):=Zi _ rfl;have S1:=hS.keep fun o e=>kp a o e
 have O1:=hO.keep fun o e=>kp b o e
 unfold Builtin.Frozenset.difference;dsimp only;refine Z2 (oi hO ?_);rw[if_neg (by decide)];refine Z2 (Z3 ?_);rw[if_neg (by simp),if_pos rfl];refine Z2 (iS hO (Z2 (iS hS ?_)))
 generalize hG:s.heap.push (newSetO w)=G at kp hr S1 O1
 split
 ·refine Z2 (wpAny_rule ?_);refine Z2 ?_;unfold Builtin.Frozenset.copyOf;refine Z2 (pX hS (Z2 (pW ?_)));rw[hG];refine Z2 (Z3 (Z2 (wZ (s:={s with heap:=G}) S1 hr (Ne.symm (lt hS)) (by lia) (by lia) fun h1 sb R1=>Z3 ?_)));have k1:∀c o,s.heap.get? c=some o->h1.get? c=some o:=fun c o e=>(sb.2 c (Zr (Zt e))).trans (kp c o e)
  refine Z2 (Z3 (Z2 (wpAny_holding (w4 (s:={s with heap:=h1}) R1 (hO.keep fun o e=>k1 b o e) (Ne.symm (lt hO)) (by lia) few fun h2 d ms k2 hm M=>Z3 ?_))));exact hQ h2 d ms (fun c o e=>k2 c o (Zr (Zt e)) (k1 c o e)) hm M
 ·refine Z2 (pX hS (Z2 (pW ?_)));rw[hG];refine Z2 (Z3 ?_);obtain⟨o,es,ep,t,ss,ho,hex,hd,hst,hp,hnd,hel,hb,hf,hpl,hled⟩:=id S1;have epo:∀(s':Shared) (Q':Nat->Shared->Prop),s'.heap.get? a=some o->Q' ep s'->wpAny (model prog w) A (setEpoch a) Q' E s':=fun s' Q' e q=>by
   unfold setEpoch;exact Z2 (wpAny_setState_of e hd hf (Z3 q))
  refine Z2 (epo {s with heap:=G} _ ho ?_);rw[if_pos rfl];refine Z2 (wpAny_holding (Z2 (m9 (s:={s with heap:=G}) S1 (fun c hc=>?_) (fun r e=>⟨by cases e;exact Ne.symm (lt hS),by cases e;exact aW.empty hr⟩) fun zs d h1 pz k1 r1=>Z2 ?_)))
  ·simp only[Yn,Yu,or_false]at hc;rcases hc with rfl|rfl
   ·exact⟨_,O1⟩
   ·exact⟨_,aW.empty hr⟩
  have kz:∀c o,c≠s.heap.objs.size->G.get? c=some o->h1.get? c=some o:=fun c o hc e=>k1 c o (fun q=>hc (Z9 q).symm) e
  rw[<-forIn_toList];refine dW (fun xs _ s'=>∃pre rest h',zs=pre++rest/\xs=rest.map (hsE w)/\s'={s with heap:=h',drawn:=d}/\(∀c o,c≠s.heap.objs.size->G.get? c=some o->h'.get? c=some o)/\∃ms,aW w s.heap.objs.size ms h'/\ms.length<=pre.length/\∀x,x∈ms↔x∈pre.map (·.1)/\x∉js) _ _ _
   ⟨[],zs,h1,rfl,rfl,rfl,kz,[],r1 _ rfl,Zh _,by simp⟩ ?_ ?_
  ·rintro x xs _ s' ⟨pre,rest,h',ez,ex,rfl,kp',ms,M,ml,hm⟩;cases rest with
   | nil=>cases ex
   | cons p rest=>
   rw[Yi]at ex;injection ex with ex1 ex2
   subst ex1;have zl:zs.length=ks.length:=by rw[<-pz.length_eq,Z5]
   have pl:pre.length<ks.length:=by rw[<-zl,ez,Z8,Zq];lia
   rw[if_pos rfl];have tail:∀(h2:Heap) (Qx:ForInStep PUnit->Shared->Prop),(∀c o,c≠s.heap.objs.size->G.get? c=some o->h2.get? c=some o)->Qx (.yield ⟨⟩) {s with heap:=h2,drawn:=d}->wpAny (model prog w) A (Builtin.Frozenset.unchanged nm a ep>>= fun _=>pure (ForInStep.yield PUnit.unit)) Qx E {s with heap:=h2,drawn:=d}:=fun h2 Qx k2 q=>by
    refine Z2 ?_;unfold Builtin.Frozenset.unchanged;refine Z2 (epo {s with heap:=h2,drawn:=d} _ (k2 a o (lt hS) ho) ?_);rw[if_neg (by simp)];exact Z3 (Z3 q)
   have mem:∀x,x∈(pre++[p]).map (·.1)↔x∈pre.map (·.1)\/x=p.1:=fun x=>by rw[Zc,Yk,Yi,map_nil,mem_singleton]
   obtain⟨o2,es2,ep2,t2,ss2,ho2,hex2,hd2,hst2,hp2,hnd2,hel2,hb2,hf2,hpl2,hled2⟩:=id O1;refine Z2 (wpAny_holding (Z2 (pU (ks:=js) (z:=p.1) (tk:=p.2) (s:={s with heap:=h',drawn:=d}) (kp' b o2 (lt hO) ho2) hd2 hel2 hb2 hf2 fun q q1 q2=>Z2 (Z3 ?_))));cases q with
   | none=>
     have hz:p.1∉js:=fun z=>by
      obtain⟨u,hu⟩:=(di hst2).mpr (hp2.mem_iff.mpr z);obtain⟨e,he,q3⟩:=X9 hu;exact q1 rfl e he u q3
     rw[if_pos (by rfl)];refine Z2 (iH (z:=p.1) (tk:=p.2) (s:={s with heap:=h',drawn:=d}) M (by rw[show scanBound=4096 from rfl];lia) fun h2 bb sb M2=>Z3 ?_);have k2:∀c o,c≠s.heap.objs.size->G.get? c=some o->h2.get? c=some o:=fun c o hc e=>(sb.2 c hc).trans (kp' c o hc e)
     refine tail h2 _ k2 ⟨pre++[p],rest,h2,by rw[ez,Zd];rfl,ex2,rfl,k2,_,M2,?_,fun x=>?_⟩
     ·rw[Z8,Yc]
      split
      ·lia
      ·rw[Z8,Yc];lia
     ·rw[mem];by_cases hx:x=p.1
      ·subst hx;refine⟨fun _=>⟨.inr rfl,hz⟩,fun _=>?_⟩
       split
       ·rename_i h;exact h
       ·exact Ym _ Zl
      ·split
       ·rw[hm];exact⟨fun h=>⟨.inl h.1,h.2⟩,fun h=>⟨h.1.resolve_right hx,h.2⟩⟩
       ·rw[Yk,mem_singleton,hm];exact⟨fun h=>let h:=h.resolve_right hx;⟨.inl h.1,h.2⟩,fun h=> .inl ⟨h.1.resolve_right hx,h.2⟩⟩
   | some j=>
     have hz:p.1∈js:=by
      obtain⟨u,hu⟩:=q2 j rfl;exact hp2.mem_iff.mp ((di hst2).mp ⟨u,Xa ⟨_,Z7 hu,rfl⟩⟩)
     rw[if_neg (by simp)];refine Z3 (tail h' _ kp' ⟨pre++[p],rest,h',by rw[ez,Zd];rfl,ex2,rfl,kp',ms,M,by rw[Z8];lia,fun x=>?_⟩);rw[hm,mem];refine⟨fun h=>⟨.inl h.1,h.2⟩,fun h=>⟨h.1.resolve_right fun e=>h.2 (by rw[e];exact hz),h.2⟩⟩
  ·rintro _ s' ⟨pre,rest,h',ez,ex,rfl,kp',ms,M,ml,hm⟩;obtain rfl:rest=[]:=by
    cases rest with
    | nil=>rfl
    | cons p rest=>cases ex
   rw[Zw]at ez;exact Z3 (Z3 (hQ h' d ms (fun c o e=>kp' c o (Zr (Zt e)) (kp c o e)) (fun x=>by rw[hm,<-ez,pz.mem_iff]) M))
end
theorem oj:entryFor table "set.__sub__"=some Builtin.«frozenset.__sub__»:=entryFor_alias (id':="frozenset.__sub__") (by kernel_rfl) rfl (by decide +kernel) (by kernel_rfl)
section
variable{X:Cx}
def w6(w:World):R2:=fun x y H Q=>asR x fun a=>asR y fun b=>∃ks js,H a=some (eZ w a ks)/\H b=some (eZ w b js)/\ks.length<=900/\∀l ms,H l=none->(∀x,x∈ms↔x∈ks/\x∉js)->ms.Nodup->Q (.ref l) (upd H l (eZ w l ms))
theorem za:OpR X (binaryOp .Sub) (w6 X.w):=by
 intro pins s σ H x y v u Q I rx ry h;obtain⟨a,rfl,h1⟩:=dM h;obtain⟨b,rfl,ks,js,ha,hb,few,q⟩:=dM h1;cases rx;cases ry;obtain⟨S,_,_⟩:=(show bh X.prog X.w H s.heap a (eZ X.w a ks)from I.hok a _ ha)
 obtain⟨O,_,_⟩:=(show bh X.prog X.w H s.heap b (eZ X.w b js)from I.hok b _ hb)
 have tS:∀{c:Addr} {ls:List Str},aW X.w c ls s.heap->s.TypeIs (.ref c) "set":=fun{c ls} h=>by
  obtain⟨o,es,ep,t,ss,ho,hex,_⟩:=h;exact⟨o,ho,hex.1⟩
 refine wpAny_binaryOp_same (tS S) (tS O) F.fills_set_sub F.slot_set_sub (wpAny_call_entry F.slot_set_sub (tS S) oj ?_ (F.args_set_sub_2 _ _));unfold Builtin.«frozenset.__sub__»;refine Z2 (m:=Builtin.Frozenset.slot1 _ _) (Z2 (m:=slotArgs _ _ _) (Z3 (Z3 ?_)));dsimp only;refine Z2 (Z2 (oi S (oi O ?_)));rw[if_neg (by decide)];refine Z2 (Z3 (Z2 (y9 S O few fun h' d ms k hm M=>?_)));refine Z3 ⟨_,rfl,by simp,?_⟩;have J:Inv X pins σ H {s with heap:=h',drawn:=d}:=I.keptS k rfl rfl;refine⟨.ref s.heap.objs.size,_,I.stoodS (o:=eZ X.w s.heap.objs.size ms) J (Zh _) ⟨M,?_,fun _ _ S1 k1=>aW.keep S1 k1⟩,rfl,q _ ms (I.hok.fresh (Zh _)) hm M.nd⟩;obtain⟨o,_,_,_,_,ho,_⟩:=M;exact⟨o,ho⟩
theorem Bf(h:X.w=w):OpQ X (binaryOp .Sub) (w6 w):=by subst h;exact⟨za⟩
end
theorem kq{X:Cx}(hr:bS k X.A)(hm:behindInMarks .NotIn o=false)(hi:QE X i ty)(ho:QE X o td):QT X (.Compare i [.NotIn] [o] pos) (tB (nK ty td)):=
 ⟨vb (tG (by have:=hr.units;lia) hi.h ho.h) hm⟩
open PySem PySem.Spec PyProof.Rows PySem.SeqAt
section
variable{X:Cx}
def Bg:R2:=fun x y H Q=>asR x fun a=>asR y fun b=>∃xs:List Str,H a=some (.lst (xs.map V.str))/\H b=some (.lst (xs.map V.str))/\Q (.bl false) H
theorem Bh(hu:X.A.units+64<cLine):OpR X (compareOp .NotEq) Bg:=by
 intro pins s σ H x y v u Q I rx ry h;obtain⟨a,rfl,h1⟩:=dM h;obtain⟨b,rfl,xs,ha,hb,q⟩:=dM h1;cases rx;cases ry;obtain⟨z,its,n,r,hl,e⟩:=I.lstM ha;obtain⟨z2,its2,n2,r2,hl2,e2⟩:=I.lstM hb;rw[Z5]at hl hl2;refine richCompare_meets_room (op:= .NotEq) ⟨_,e,rfl⟩ ⟨_,e2,rfl⟩ slot_list_ne entry_list_ne (args_list_ne_2 _ _) (SeqAt.list_neAt a b its.toArray its2.toArray n n2 none none #[] #[] (by rw[Zo,Zo,<-hl,<-hl2]) fun _=>true) ⟨e,e2,fun j h1 h2=>?_,by simp,.bl false,H,I,by simp[aJ],q⟩ (by lia);rw[Zo,<-hl]at h1;have g:(xs.map V.str)[j]? =some (.str xs[j]):=by rw[Zk,Z4 h1];rfl
 obtain⟨u,eu,t,rfl⟩:=r.get g;obtain⟨u2,eu2,t2,rfl⟩:=r2.get g;show EqAt _ _ its[j] its2[j] _;rw[(X6 eu).2,(X6 eu2).2];have:=EqAt.str_str (A:=X.A.in1) (s:=s) xs[j] t xs[j] t2;rwa[beq_self_eq_true]at this
theorem Cb(hr:bS k X.A):OpQ X (compareOp .NotEq) Bg:=⟨Bh hr.units⟩
end
end L2
namespace Cut
open PySem L2
inductive dm (S:Str->Str->Prop):Str->Str->Prop
 | refl (x:Str):dm S x x
 | step {x y z:Str}:dm S x y->(S y z\/S z y)->dm S x z
theorem dm.trans{S:Str->Str->Prop}(h:dm S x y)(g:dm S y z):dm S x z:=by
 induction g with
 | refl=>exact h
 | step _ s ih=>exact .step ih s
theorem dm.one{S:Str->Str->Prop}(h:S x y\/S y x):dm S x y:= .step (.refl x) h
theorem dm.symm{S:Str->Str->Prop}(h:dm S x y):dm S y x:=by
 induction h with
 | refl=>exact .refl _
 | step _ s ih=>exact(dm.one s.symm).trans ih
theorem dm.mono{S R:Str->Str->Prop}(m:∀a b,S a b->R a b)(h:dm S x y):dm R x y:=by
 induction h with
 | refl=>exact .refl _
 | step _ s ih=>exact .step ih (s.imp (m _ _) (m _ _))
theorem dm.within{S:Str->Str->Prop}{p:Str->Prop}(w:∀a b,S a b->p a/\p b)(h:dm S x y)(hx:p x):p y:=by
 induction h with
 | refl=>exact hx
 | step _ s _=>
   rcases s with s|s
   ·exact(w _ _ s).2
   ·exact(w _ _ s).1
def bE(S:Str->Str->Prop)(z r:Str):Prop:=dm S z r/\∀y,dm S z y->aR y r=false
theorem bE.one{S:Str->Str->Prop}(h:bE S z r)(g:bE S z r'):r=r':=by
 by_cases e:r=r'
 ·exact e
 ·have:=dJ (g.2 _ h.1) e;rw[h.2 _ g.1]at this;cases this
structure bo (ls:List Str) (f r:Str->Str) (S:Str->Str->Prop):Prop where
 ws:∀a b,S a b->a∈ls/\b∈ls
 fin:∀z∈ls,f z∈ls
 rin:∀z∈ls,r z∈ls
 rf:∀z∈ls,r (f z)=r z
 fr:∀z∈ls,f (r z)=r z
 fix:∀z∈ls,f z=z->r z=z
 dec:∀z∈ls,f z≠z->aR (f z) z=true
 le:∀z∈ls,aR z (r z)=false
 cl:∀x∈ls,∀y∈ls,r x=r y↔dm S x y
theorem bo.rr{S:Str->Str->Prop}(F:bo ls f r S)(h:z∈ls):r (r z)=r z:=F.fix _ (F.rin z h) (F.fr z h)
theorem bo.conn{S:Str->Str->Prop}(F:bo ls f r S)(h:z∈ls):dm S z (r z):=(F.cl z h _ (F.rin z h)).mp (F.rr h).symm
theorem bo.least{S:Str->Str->Prop}(F:bo ls f r S){z:Str}(h:z∈ls):bE S z (r z):=by
 refine⟨F.conn h,fun y c=>?_⟩;have hy:y∈ls:=c.within F.ws h;rw[(F.cl z h y hy).mpr c];exact F.le y hy
theorem bo.start(ls:List Str):bo ls id id (fun _ _=>False):=by
 refine⟨fun _ _ h=>h.elim,fun z h=>h,fun z h=>h,fun _ _=>rfl,fun _ _=>rfl,fun _ _ _=>rfl,fun z _ h=>(h rfl).elim,fun z _=>eB z,fun x hx y hy=>⟨fun e=>?_,fun c=>?_⟩⟩
 ·rw[show x=y from e];exact .refl _
 ·induction c with
  | refl=>rfl
  | step _ s _=>rcases s with s|s<;> exact s.elim
theorem bo.join{S:Str->Str->Prop}(F:bo ls f r S){a b M m:Str}(ha:a∈ls)(hb:b∈ls)(hM:M=if aR (r a) (r b)=true then r b else r a)(hm:m=if aR (r b) (r a)=true then r b else r a):
 bo ls (fun x=>if x=M then m else f x) (fun x=>if r x=M then m else r x) (fun x y=>S x y\/(x=a/\y=b)):=by
 have two:(M=r a/\m=r b)\/(M=r b/\m=r a):=by
  rw[hM,hm];cases e:aR (r a) (r b)with
  | true=>
    have:aR (r b) (r a)=false:=by
     cases e2:aR (r b) (r a)with
     | false=>rfl
     | true=>have:=eS e e2;rw[eB]at this;cases this
    rw[this];exact .inr ⟨rfl,rfl⟩
  | false=>
    cases e2:aR (r b) (r a)with
    | true=>exact .inl ⟨rfl,rfl⟩
    | false=>
      have:r a=r b:=by
       by_cases h:r a=r b
       ·exact h
       ·have:=dJ e h;rw[e2]at this;cases this
      rw[this];exact .inl ⟨rfl,rfl⟩
 have lt:m≠M->aR m M=true:=by
  rw[hM,hm];cases e:aR (r a) (r b)with
  | true=>
    cases e2:aR (r b) (r a)with
    | true=>intro h;exact(h rfl).elim
    | false=>intro _;exact e
  | false=>
    cases e2:aR (r b) (r a)with
    | true=>intro _;exact e2
    | false=>intro h;exact(h rfl).elim
 have ra:=F.rin a ha;have rb:=F.rin b hb;have Mi:M∈ls:=by rcases two with⟨h,_⟩|⟨h,_⟩<;> rw[h]<;> assumption
 have mi:m∈ls:=by rcases two with⟨_,h⟩|⟨_,h⟩<;> rw[h]<;> assumption
 have rM:r M=M:=by rcases two with⟨h,_⟩|⟨h,_⟩<;> rw[h]<;> apply F.rr<;> assumption
 have rm:r m=m:=by rcases two with⟨_,h⟩|⟨_,h⟩<;> rw[h]<;> apply F.rr<;> assumption
 have fm:f m=m:=by rcases two with⟨_,h⟩|⟨_,h⟩<;> rw[h]<;> apply F.fr<;> assumption
 have fM:f M=M:=by rcases two with⟨h,_⟩|⟨h,_⟩<;> rw[h]<;> apply F.fr<;> assumption
 have cM:dm (fun x y=>S x y\/(x=a/\y=b)) M m:=by
  have c1:dm (fun x y=>S x y\/(x=a/\y=b)) (r a) (r b):=(((F.conn ha).mono fun _ _=> .inl).symm.trans (.one (.inl (.inr ⟨rfl,rfl⟩)))).trans ((F.conn hb).mono fun _ _=> .inl);rcases two with⟨h1,h2⟩|⟨h1,h2⟩
  ·rw[h1,h2];exact c1
  ·rw[h1,h2];exact c1.symm
 have toR:∀x∈ls,dm (fun x y=>S x y\/(x=a/\y=b)) x (if r x=M then m else r x):=fun x hx=>by
  have c:=(F.conn hx).mono (R:=fun x y=>S x y\/(x=a/\y=b)) fun _ _=> .inl
  by_cases e:r x=M
  ·rw[if_pos e];rw[e]at c;exact c.trans cM
  ·rw[if_neg e];exact c
 have ab:(if r a=M then m else r a)=(if r b=M then m else r b):=by
  rcases two with⟨h1,h2⟩|⟨h1,h2⟩
  ·rw[if_pos h1.symm];by_cases e:r b=M
   ·rw[if_pos e]
   ·rw[if_neg e];exact h2
  ·rw[if_pos (c:=r b=M) h1.symm];by_cases e:r a=M
   ·rw[if_pos e]
   ·rw[if_neg e];exact h2.symm
 refine⟨fun x y h=>?_,fun z hz=>?_,fun z hz=>?_,fun z hz=>?_,fun z hz=>?_,fun z hz h=>?_,fun z hz h=>?_,fun z hz=>?_,fun x hx y hy=>⟨fun e=>?_,fun c=>?_⟩⟩
 ·rcases h with h|⟨rfl,rfl⟩
  ·exact F.ws x y h
  ·exact⟨ha,hb⟩
 ·split
  ·exact mi
  ·exact F.fin z hz
 ·split
  ·exact mi
  ·exact F.rin z hz
 ·by_cases e:z=M
  ·rw[if_pos e,e,rM,if_pos rfl,rm]
   split<;> rfl
  ·rw[if_neg e,F.rf z hz]
 ·by_cases e:r z=M
  ·rw[if_pos e]
   split
   ·rfl
   ·exact fm
  ·rw[if_neg e,if_neg e];exact F.fr z hz
 ·by_cases e:z=M
  ·rw[if_pos e]at h;rw[e,rM,if_pos rfl,<-e];exact h
  ·rw[if_neg e]at h;rw[F.fix z hz h,if_neg e]
 ·by_cases e:z=M
  ·rw[if_pos e]at h ⊢;rw[e]at h ⊢;exact lt h
  ·rw[if_neg e]at h ⊢;exact F.dec z hz h
 ·by_cases e:r z=M
  ·rw[if_pos e];cases e2:aR z m with
   | false=>rfl
   | true=>
     have hle:=F.le z hz;rw[e]at hle;by_cases em:m=M
     ·rw[em]at e2;rw[hle]at e2;cases e2
     ·have:=eS e2 (lt em);rw[hle]at this;cases this
  ·rw[if_neg e];exact F.le z hz
 ·have c:=(toR x hx)
  rw[show(if r x=M then m else r x)=(if r y=M then m else r y)from e]at c;exact c.trans (toR y hy).symm
 ·have ws:∀x y,(S x y\/(x=a/\y=b))->x∈ls/\y∈ls:=fun x y h=>by
   rcases h with h|⟨rfl,rfl⟩
   ·exact F.ws x y h
   ·exact⟨ha,hb⟩
  clear hy
  induction c with
  | refl=>rfl
  | step c s ih=>
    rename_i u v
    have hu:u∈ls:=c.within ws hx;rw[ih];rcases s with(s|⟨rfl,rfl⟩)|(s|⟨rfl,rfl⟩)
    ·rw[(F.cl u hu v (F.ws u v s).2).mpr (.one (.inl s))]
    ·exact ab
    ·rw[(F.cl u hu v (F.ws v u s).1).mpr (.one (.inr s))]
    ·exact ab.symm
theorem bo.short{S:Str->Str->Prop}(F:bo ls f r S)(hz:z∈ls):bo ls (fun x=>if x=z then f (f z)else f x) r S:=by
 have dd:f z≠z->aR (f (f z)) z=true:=fun h=>by
  have h1:=F.dec z hz h;by_cases e:f (f z)=f z
  ·rw[e];exact h1
  ·exact eS (F.dec _ (F.fin z hz) e) h1
 refine⟨F.ws,fun x hx=>?_,F.rin,fun x hx=>?_,fun x hx=>?_,fun x hx h=>?_,fun x hx h=>?_,F.le,F.cl⟩
 ·split
  ·exact F.fin _ (F.fin z hz)
  ·exact F.fin x hx
 ·by_cases e:x=z
  ·rw[if_pos e,F.rf _ (F.fin z hz),F.rf z hz,e]
  ·rw[if_neg e];exact F.rf x hx
 ·by_cases e:r x=z
  ·rw[if_pos e];have:=F.fr x hx;rw[e]at this;rw[this,this,e]
  ·rw[if_neg e];exact F.fr x hx
 ·by_cases e:x=z
  ·rw[if_pos e]at h;rw[e]at h ⊢;by_cases e2:f z=z
   ·exact F.fix z hz e2
   ·have:=dd e2;rw[h,eB]at this;cases this
  ·rw[if_neg e]at h;exact F.fix x hx h
 ·by_cases e:x=z
  ·rw[if_pos e]at h ⊢;rw[e]at h ⊢;refine dd fun e2=>h ?_
   rw[e2,e2]
  ·rw[if_neg e]at h ⊢;exact F.dec x hx h
theorem bo.done{S:Str->Str->Prop}(F:bo ls f r S)(hz:z∈ls)(h:∀w∈ls,aR w z=true->f w=r w):f (f z)=r z:=by
 by_cases e:f z=z
 ·rw[e,e];exact(F.fix z hz e).symm
 ·rw[h _ (F.fin z hz) (F.dec z hz e),F.rf z hz]
end Cut
namespace Cut
open PySem L2
def Ed(ks:List (List Str))(a b:Str):Prop:=∃z,[a,b,z]∈ks
inductive Rch (ks:List (List Str)):Str->Str->Prop
 | one {a b:Str}:Ed ks a b->Rch ks a b
 | more {a b c:Str}:Rch ks a b->Ed ks b c->Rch ks a c
theorem Rch.trans(h:Rch ks a b)(g:Rch ks b c):Rch ks a c:=by
 induction g with
 | one e=>exact .more h e
 | more _ e ih=>exact .more ih e
theorem Rch.closed{R:Str->Prop}(h0:∀y,Ed ks s y->R y)(h:∀x y,R x->Ed ks x y->R y)(r:Rch ks s y):R y:=by
 induction r with
 | one e=>exact h0 _ e
 | more _ e ih=>exact h _ _ ih e
theorem ng{ks:List (List Str)}{laid:List Str}(h:∀(i:Nat) x,laid[i]? =some x->∀y,Ed ks x y->y∈laid.take i){i:Nat}{x y:Str}(hi:laid[i]? =some x)(r:Rch ks x y):∃j,j<i/\laid[j]? =some y:=by
 have at_:∀(i:Nat) y,y∈laid.take i->∃j,j<i/\laid[j]? =some y:=fun i y hy=>by
  obtain⟨j,hj⟩:=X1 hy;have jl:=(X6 hj).1;rw[Yd]at jl;exact⟨j,by lia,by rwa[Y5 (by lia)]at hj⟩
 refine r.closed (R:=fun y=>∃j,j<i/\laid[j]? =some y) (fun y e=>at_ i y (h i x hi y e)) fun a y ⟨j,ji,hj⟩ e=>?_
 obtain⟨j',h1,h2⟩:=at_ j y (h j a hj y e);exact⟨j',by lia,h2⟩
theorem zb{laid:List Str}(h:∀(i:Nat) x,laid[i]? =some x->∀y,Ed ks x y->y∈laid.take i){x:Str}(hx:x∈laid): ¬ Rch ks x x:=by
 intro r;obtain⟨i,hi⟩:=X1 hx;have:∀n i:Nat,i<=n->laid[i]? ≠some x:=fun n=>by
  induction n with
  | zero=>
    intro i hi e;obtain⟨j,h1,_⟩:=ng h e r
    lia
  | succ n ih=>
    intro i hi e;obtain⟨j,h1,h2⟩:=ng h e r;exact ih j (by lia) h2
 exact this i i (Zh _) hi
section
variable{ks:List (List Str)}{st:Str}{rs:List (Str×Addr×List Str)}{d:Str->Nat}{k:Nat}{F:List Str}
end
theorem Bi{U:List Str}(h:∀x∈U,∃y∈U,Ed ks x y)(nr:∀x,¬ Rch ks x x){x:Str}(hx:x∈U):False:=by
 have:∀n,∃(a:Str) (p:List Str),p.length=n/\(a::p).Nodup/\(∀y∈a::p,y∈U)/\∀y∈p,Rch ks y a:=fun n=>by
  induction n with
  | zero=>exact⟨x,[],rfl,by simp,by simpa using hx,fun _ h=>(nomatch h)⟩
  | succ n ih=>
    obtain⟨a,p,l,nd,su,r⟩:=ih;obtain⟨b,hb,e⟩:=h a (su a Zl);have re:∀y∈a::p,Rch ks y b:=fun y hy=>by
     rcases mem_cons.mp hy with rfl|q
     ·exact .one e
     ·exact .more (r y q) e
    refine⟨b,a::p,by rw[Zq,l],nodup_cons.mpr ⟨fun c=>nr b (re b c),nd⟩,fun y hy=>?_,re⟩;rcases mem_cons.mp hy with rfl|q
    ·exact hb
    ·exact su y q
 obtain⟨a,p,l,nd,su,_⟩:=this U.length;have:=STab.nodup_sub nd su;rw[Zq]at this
 lia
end Cut
namespace Cut
open PySem L2
theorem ic(lt:α->α->Bool)(total:∀x y,lt x y=false->x≠y->lt y x=true):∀{l m:List α},l.Pairwise (fun a b=>lt b a=false)->m.Pairwise (fun a b=>lt b a=false)->l.Nodup->m.Nodup->(∀x,x∈l↔x∈m)->l=m
 |[],[],_,_,_,_,_=>rfl
 |[],y::m,_,_,_,_,h=>absurd ((h y).mpr Zl) (by simp)
 | x::l,[],_,_,_,_,h=>absurd ((h x).mp Zl) (by simp)
 | x::l,y::m,hl,hm,nl,nm,h=>by
   obtain⟨hl1,hl2⟩:=List.pairwise_cons.mp hl;obtain⟨hm1,hm2⟩:=List.pairwise_cons.mp hm;obtain⟨nl1,nl2⟩:=nodup_cons.mp nl;obtain⟨nm1,nm2⟩:=nodup_cons.mp nm;have e:x=y:=Classical.byContradiction fun hne=>by
    have hx:x∈m:=(mem_cons.mp ((h x).mp Zl)).resolve_left hne;have hy:y∈l:=(mem_cons.mp ((h y).mpr Zl)).resolve_left (Ne.symm hne);have q1:=hm1 x hx;have q2:=hl1 y hy;rw[total x y q1 hne]at q2;cases q2
   subst e;rw[ic lt total hl2 hm2 nl2 nm2 fun z=>?_]
   constructor
   ·intro hz;rcases mem_cons.mp ((h z).mp (Zj _ hz))with e|e
    ·rw[e]at hz;exact absurd hz nl1
    ·exact e
   ·intro hz;rcases mem_cons.mp ((h z).mpr (Zj _ hz))with e|e
    ·rw[e]at hz;exact absurd hz nm1
    ·exact e
def Let(rows:List Str)(c:Nat):Prop:=c≠46/\∃r∈rows,c∈r.cps.toList
def zc(rows:List Str)(a b:Nat):Prop:=a≠46/\a≠b/\∃(i j:Nat) (r r':Str),rows[i]? =some r/\rows[i+1]? =some r'/\r.cps[j]? =some a/\r'.cps[j]? =some b
theorem ju:c∈bZ rows↔Let rows c:=by
 unfold bZ Let;rw[List.mem_filter,pF,List.mem_flatten,decide_eq_true_eq]
 constructor
 ·rintro⟨⟨l,hl,hc⟩,hne⟩;obtain⟨r,hr,rfl⟩:=X9 hl;exact⟨hne,r,hr,hc⟩
 ·rintro⟨hne,r,hr,hc⟩;exact⟨⟨_,Xa ⟨r,hr,rfl⟩,hc⟩,hne⟩
end Cut
namespace Cut
open PySem L2
def St(wd:Bool)(c d:Int):Prop:=c<=d+(if wd=true then 1 else 0)/\d<=c+(if wd=true then 1 else 2)
def iT(wd:Bool)(cs:List Int):Prop:=∃air:Nat,air<cs.length/\(∀(k:Nat) (c:Int),cs[k]? =some c->(k<air->c= -1)/\(air<=k->0<=c/\c<=7))/\∀(k:Nat) (c d:Int),cs[k]? =some c->cs[k+1]? =some d->air<=k->St wd c d
noncomputable def sg(a s:Int):Nat:=if a<0 then 46 else 97+((a*5+s)%26).toNat
theorem Bj(h:0<=a):fV (sg a s)=true:=by
 unfold sg;rw[if_neg (by lia),tX]
 lia
theorem Bk(h:a<0):sg a s=46:=if_pos h
theorem w8(h:0<=a):sg a s≠46:=by
 unfold sg;rw[if_neg (by lia)]
 lia
theorem Bl(ha:0<=a)(ha7:a<=7)(hb:0<=b)(hb7:b<=7)(h:sg a s=sg b s):a=b:=by
 unfold sg at h;rw[if_neg (by lia),if_neg (by lia)]at h;omega
noncomputable def fX(cols:List (List Int))(sh:Int)(k:Nat):Str:=⟨(cols.map fun c=>sg (c.getD k 0) sh).toArray⟩
noncomputable def drawn(cols:List (List Int))(hi:Nat)(sh:Int):List Str:=(List.range hi).map (fX cols sh)
theorem eV(h:(drawn cols hi sh)[k]? =some z):k<hi/\z=fX cols sh k:=by
 unfold drawn at h;rw[Zk]at h;by_cases hk:k<hi
 ·rw[List.getElem?_range hk]at h;exact⟨hk,(Z9 h).symm⟩
 ·rw[X5 (by rw[Yb];lia)]at h;cases h
theorem jv{cols:List (List Int)}{k j c:Nat}(h:(fX cols sh k).cps[j]? =some c):∃col,cols[j]? =some col/\c=sg (col.getD k 0) sh:=by
 have h:(cols.map fun c=>sg (c.getD k 0) sh)[j]? =some c:=by simpa [fX]using h
 rw[Zk]at h;cases e:cols[j]? with
 | none=>rw[e]at h;cases h
 | some col=>rw[e]at h;exact⟨col,rfl,(Z9 h).symm⟩
theorem cD{col:List Int}(hl:col.length=hi)(hk:k<hi):col[k]? =some (col.getD k 0):=by
 rw[Zb,Z4 (by lia)];rfl
theorem pY{cols:List (List Int)}{sh:Int}{wd:Bool}(h1:1<=hi)(h2:hi<=40)(w1:1<=cols.length)(w2:cols.length<=40)(hc:∀c∈cols,c.length=hi/\iT wd c):bW (drawn cols hi sh):=by
 have len:(drawn cols hi sh).length=hi:=by unfold drawn;rw[Z5,Yb]
 have at':∀z∈drawn cols hi sh,∃k,k<hi/\z=fX cols sh k:=fun z hz=>by
  obtain⟨k,e⟩:=X1 hz;exact⟨k,eV e⟩
 refine⟨by lia,by lia,⟨cols.length,w1,w2,fun z hz=>?_⟩,fun z hz=>?_,fun i r r' e1 e2 j c c' g1 g2 hc'=>?_,?_⟩
 ·obtain⟨k,_,rfl⟩:=at' z hz;simp[fX]
 ·obtain⟨k,hk,rfl⟩:=at' z hz;rw[all_eq_true];intro c hcm;obtain⟨j,hj⟩:=X1 hcm;obtain⟨col,ec,rfl⟩:=jv (j:=j) (by simpa using hj);by_cases h0:col.getD k 0<0
  ·rw[Bk h0];decide +kernel
  ·unfold okc;rw[Bj (by lia),Bool.or_true]
 ·obtain⟨hi1,rfl⟩:=eV e1;obtain⟨hi2,rfl⟩:=eV e2;obtain⟨col,ec,rfl⟩:=jv g1;obtain⟨col',ec',rfl⟩:=jv g2;rw[ec]at ec';cases ec';obtain⟨hl,air,ha,hk,_⟩:=hc col (Z7 ec);have q1:=hk i _ (cD hl hi1);have q2:=hk (i+1) _ (cD hl hi2);by_cases hlt:i+1<air
  ·rw[q1.1 (by lia)];rfl
  ·exact absurd hc' (w8 (q2.2 (by lia)).1)
 ·have hne:0<cols.length:=by lia
  have hm:=hc cols[0] (Y6 hne);obtain⟨hl,air,ha,hk,_⟩:=hm;refine⟨fX cols sh (hi-1),Xa ⟨hi-1,by rw[mem_range];lia,rfl⟩,sg (cols[0].getD (hi-1) 0) sh,?_,w8 ((hk (hi-1) _ (cD hl (by lia))).2 (by lia)).1⟩;show _∈(cols.map fun c=>sg (c.getD (hi-1) 0) sh).toArray.toList;rw[toList_toArray];exact Xa ⟨cols[0],Y6 hne,rfl⟩
theorem pZ{sh:Int}{wd:Bool}(hc:∀c∈cols,c.length=hi/\iT wd c){c:Nat}:Let (drawn cols hi sh) c↔∃a:Int,0<=a/\a<=7/\(∃col∈cols,a∈col)/\c=sg a sh:=by
 constructor
 ·rintro⟨hne,r,hr,hcr⟩;obtain⟨k,e⟩:=X1 hr;obtain⟨hk,rfl⟩:=eV e;obtain⟨j,hj⟩:=X1 hcr;obtain⟨col,ec,rfl⟩:=jv (j:=j) (by simpa using hj);have hm:=Z7 ec;obtain⟨hl,air,ha,hq,_⟩:=hc col hm;have g:=cD hl hk;have q:=hq k _ g;have:air<=k:=by
   refine Nat.le_of_not_lt fun z=>hne ?_
   rw[q.1 z];rfl
  exact⟨_,(q.2 this).1,(q.2 this).2,⟨col,hm,Z7 g⟩,rfl⟩
 ·rintro⟨a,a0,a7,⟨col,hm,hac⟩,rfl⟩;obtain⟨hl,_⟩:=hc col hm;obtain⟨k,hk⟩:=X1 hac;have hkl:k<hi:=by rw[<-hl];exact(X6 hk).1
  refine⟨w8 a0,fX cols sh k,Xa ⟨k,by rw[mem_range];exact hkl,rfl⟩,?_⟩;show _∈(cols.map fun c=>sg (c.getD k 0) sh).toArray.toList;rw[toList_toArray];refine Xa ⟨col,hm,?_⟩;rw[Zb,hk];rfl
noncomputable def there(cols:List (List Int)):List Int:=((List.range 8).filter fun a:Nat=>cols.any fun c=>decide ((a:Int)∈c)).map fun a:Nat=>(a:Int)
theorem dL:a∈there cols↔0<=a/\a<=7/\∃col∈cols,a∈col:=by
 unfold there;rw[mem_map]
 constructor
 ·rintro⟨n,hn,rfl⟩;rw[List.mem_filter,mem_range,any_eq_true]at hn;obtain⟨h8,col,hm,hd⟩:=hn;exact⟨by lia,by lia,col,hm,Zn hd⟩
 ·rintro⟨a0,a7,col,hm,hd⟩;refine⟨a.toNat,?_,by lia⟩;rw[List.mem_filter,mem_range,any_eq_true];refine⟨by lia,col,hm,Ze ?_⟩;rw[show((a.toNat:Nat):Int)=a by lia];exact hd
theorem p7(cols:List (List Int)):(there cols).Nodup:=by
 unfold there;rw[Yr,Yw];refine(List.Pairwise.filter _ (nodup_iff_pairwise_ne.mp nodup_range)).imp fun h e=>h (by lia)
theorem xa{cols:List (List Int)}{hi:Nat}(h1:1<=hi)(w1:1<=cols.length)(hc:∀c∈cols,c.length=hi/\iT wd c):there cols≠[]:=by
 have hne:0<cols.length:=by lia
 obtain⟨hl,air,ha,hk,_⟩:=hc cols[0] (Y6 hne);have g:=cD hl (show hi-1<hi by lia);have q:=(hk (hi-1) _ g).2 (by lia);exact List.ne_nil_of_mem (dL.mpr ⟨q.1,q.2,_,Y6 hne,Z7 g⟩)
theorem jw(cols:List (List Int)):(there cols).length<=8:=by
 unfold there;rw[Z5];refine Y8 (Ya _ _) ?_;rw[Yb];exact Zh _
noncomputable def cN(n:Str)(c:Nat):Str:=⟨(n.cps.toList++[46,c]).toArray⟩
theorem jx(h:cN n c=cN m d):n=m/\c=d:=by
 have e:n.cps.toList++[46,c]=m.cps.toList++[46,d]:=by
  have:=congrArg (fun z:Str=>z.cps.toList) h;simpa [cN]using this
 have q:=List.append_inj' e rfl;refine⟨gC q.1,?_⟩;have:=q.2;simpa using this
def uz(rows:List Str):Prop:=∃m:List (List Str),m.length<=14/\∀a b,zc rows a b->[sgn a,sgn b]∈m
noncomputable def rB(wd:Bool):List (Int×Int):=((List.range 7).map fun i:Nat=>((i:Int),(i:Int) +1)) ++if wd=true then(List.range 7).map fun i:Nat=>((i:Int) +1,(i:Int))else(List.range 6).map fun i:Nat=>((i:Int),(i:Int) +2)
theorem uA(h:St wd c d)(c0:0<=c)(c7:c<=7)(d0:0<=d)(d7:d<=7)(ne:c≠d):(c,d)∈rB wd:=by
 unfold St at h;unfold rB;rw[Yk];by_cases e:d=c+1
 ·exact .inl (Xa ⟨c.toNat,mem_range.mpr (by lia),by rw[show((c.toNat:Nat):Int)=c by lia,e]⟩)
 ·refine .inr ?_;cases wd
  ·rw[if_neg (by decide),if_neg (by decide)]at h;rw[if_neg (by decide)];exact Xa ⟨c.toNat,mem_range.mpr (by lia),by rw[show((c.toNat:Nat):Int)=c by lia,show d=c+2 by lia]⟩
  ·rw[if_pos rfl,if_pos rfl]at h;rw[if_pos rfl];exact Xa ⟨d.toNat,mem_range.mpr (by lia),by rw[show((d.toNat:Nat):Int)=d by lia,show c=d+1 by lia]⟩
theorem xc{hi:Nat}{sh:Int}{wd:Bool}(hc:∀c∈cols,c.length=hi/\iT wd c):uz (drawn cols hi sh):=by
 refine⟨(rB wd).map fun p=>[sgn (sg p.1 sh),sgn (sg p.2 sh)],?_,?_⟩
 ·rw[Z5];cases wd<;> decide
 ·rintro a b ⟨n1,n2,i,j,r,r',e1,e2,g1,g2⟩;obtain⟨hi1,rfl⟩:=eV e1;obtain⟨hi2,rfl⟩:=eV e2;obtain⟨col,ec,rfl⟩:=jv g1;obtain⟨col',ec',rfl⟩:=jv g2;rw[ec]at ec';cases ec';obtain⟨hl,air,ha,hk,hs⟩:=hc col (Z7 ec);have a1:air<=i:=Nat.le_of_not_lt fun z=>n1 (by rw[(hk i _ (cD hl hi1)).1 z];rfl)
  have q1:=(hk i _ (cD hl hi1)).2 a1;have q2:=(hk (i+1) _ (cD hl hi2)).2 (by lia);exact Xa ⟨(_,_),uA (hs i _ _ (cD hl hi1) (cD hl hi2) a1) q1.1 q1.2 q2.1 q2.2 (fun e=>n2 (by rw[e])),rfl⟩
end Cut
namespace K43
open PySem L2 Cut
local macro_rules | `(tactic| walk_at "rd") => `(tactic| simp only [↓bg, ↓vd, ↓j2, ↓eM, ↓iz, ↓oN, ↓jL, ↓vA, ↓tB, ↓xS, ↓tOr, ↓zY, ↓vc, ↓z3, ↓tOp, ↓tUn, ↓tC, ↓zT, ↓zU, ↓tCB, ↓r9, ↓vI, ↓vJ, ↓An, ↓Ao, ↓qq, ↓tBM, ↓yn, ↓tSl, ↓vR, ↓nB, ↓v6, ↓rI, ↓rI0, ↓rU, ↓AM, ↓AO, ↓rEq, ↓rNe, ↓wa, ↓zB, ↓wb, ↓AC, ↓AE, ↓Au, ↓Av, ↓Aw, ↓yF, ↓B1, ↓qQ, ↓qD, ↓nH, ↓xZ, ↓vh, ↓z7, ↓zF, ↓zG, ↓zL, ↓vK, ↓vL, ↓Ai, ↓Aj, ↓AY, kX, ↓kL, ↓AH, ↓nK, ↓qE, ↓vY, ↓wQ, ↓wR, ↓Ba, ↓og, ↓Bd, ↓Bg, ↓w6, ↓pT, ↓rIn, ↓yG, ↓Az, ↓As, ↓AK, ↓nG, ↓si, ya, vC, ↓vt, ↓yH, Af, tyV, ↓BD, ↓BE, ↓BF, BG, BH, BI,
 List.getElem?_cons_zero,List.getElem?_cons_succ,List.set_cons_zero,List.set_cons_succ,Option.some.injEq,V.int.injEq,V.str.injEq,V.bl.injEq,V.ref.injEq,V.ty.injEq,List.cons.injEq,reduceCtorEq,and_true,true_and,and_false,false_and,or_false,false_or,or_true,true_or,exists_false,exists_eq_left',exists_eq_left,exists_eq_right,exists_eq_right',exists_and_left,exists_and_right,exists_eq,List.cons_append,List.nil_append,Zw,exists_const,and_assoc,Int.zero_add,Bool.not_true,Bool.not_false,Zx,if_true,if_false,eq_self])
noncomputable def top(i:Nat):Stmt:=PySem.Challenge.pw_digbook_k43_two_orders.main.body.getD i (.Pass ⟨0,0,0,0⟩)
noncomputable abbrev cR:Stmt:=top 1
theorem aX:ao ["ground","names","layer","word","one","other"] ["ground"] (af cR):=by refine⟨rfl,rfl,rfl,?_,rfl,?_,?_⟩<;>decide +kernel
noncomputable abbrev dt:Stmt:=top 2
theorem cS:ao ["names","one","other","first","second"] ["names","one","other"] (af dt):=by refine⟨rfl,rfl,rfl,?_,rfl,?_,?_⟩<;>decide +kernel
noncomputable abbrev cp:Stmt:=top 3
theorem dC:ao ["names","layer"] ["names","layer"] (af cp):=by refine⟨rfl,rfl,rfl,?_,rfl,?_,?_⟩<;>decide +kernel
noncomputable abbrev ig:Stmt:=top 4
theorem eC:ao ["ground","names","groups","layer"] ["ground"] (af ig):=by refine⟨rfl,rfl,rfl,?_,rfl,?_,?_⟩<;>decide +kernel
noncomputable abbrev fc:Stmt:=top 5
theorem md:ao ["ground","layer"] ["ground","layer"] (af fc):=by refine⟨rfl,rfl,rfl,?_,rfl,?_,?_⟩<;>decide +kernel
noncomputable abbrev ck:Stmt:=top 6
theorem jy:ao ["ground"] ["ground"] (af ck):=by refine⟨rfl,rfl,rfl,?_,rfl,?_,?_⟩<;>decide +kernel
noncomputable abbrev kr:Stmt:=top 7
theorem p8:ao ["ground","names"] ["ground"] (af kr):=by refine⟨rfl,rfl,rfl,?_,rfl,?_,?_⟩<;>decide +kernel
noncomputable abbrev cT:Stmt:=top 16
theorem iU:ao ["found"] ["found"] (af cT):=by refine⟨rfl,rfl,rfl,?_,rfl,?_,?_⟩<;>decide +kernel
noncomputable abbrev cq:Stmt:=top 17
theorem gT:ao ["found"] ["found"] (af cq):=by refine⟨rfl,rfl,rfl,?_,rfl,?_,?_⟩<;>decide +kernel
noncomputable abbrev jz:Stmt:=top 18
theorem ii:ao ["found","side","groups","link"] ["found","side"] (af jz):=by refine⟨rfl,rfl,rfl,?_,rfl,?_,?_⟩<;>decide +kernel
noncomputable abbrev cE:Stmt:=top 19
theorem aS:ao ["names","found","beneath","above","waits","name","ready","laid","least","link"] ["names","found"] (af cE):=by refine⟨rfl,rfl,rfl,?_,rfl,?_,?_⟩<;>decide +kernel
noncomputable abbrev dX:Stmt:=top 20
theorem cm:ao ["beneath","start","goal","reached","edge"] ["beneath","start","goal"] (af dX):=by refine⟨rfl,rfl,rfl,?_,rfl,?_,?_⟩<;>decide +kernel
noncomputable abbrev fY:Stmt:=top 21
theorem dE:ao ["beneath","edge","reached","further","name","link"] ["beneath","edge","reached"] (af fY):=by refine⟨rfl,rfl,rfl,?_,rfl,?_,?_⟩<;>decide +kernel
noncomputable abbrev lA:Stmt:=top 22
theorem nh:ao ["reached","start","goal","way"] ["reached","start","goal"] (af lA):=by refine⟨rfl,rfl,rfl,?_,rfl,?_,?_⟩<;>decide +kernel
noncomputable abbrev rC:Stmt:=top 24
theorem zd:ao ["ground"] ["ground"] (af rC):=by refine⟨rfl,rfl,rfl,?_,rfl,?_,?_⟩<;>decide +kernel
noncomputable abbrev du:Stmt:=top 25
theorem bv:ao ["names","found","beneath","shortest","name","way"] ["names","found"] (af du):=by refine⟨rfl,rfl,rfl,?_,rfl,?_,?_⟩<;>decide +kernel
noncomputable abbrev ff:Stmt:=top 26
theorem mf:ao ["names","found"] ["names","found"] (af ff):=by refine⟨rfl,rfl,rfl,?_,rfl,?_,?_⟩<;>decide +kernel
noncomputable abbrev dY:Stmt:=top 27
theorem dv:ao ["ground","found","torn_by"] ["ground"] (af dY):=by refine⟨rfl,rfl,rfl,?_,rfl,?_,?_⟩<;>decide +kernel
noncomputable abbrev ik:Stmt:=top 29
theorem eD:ao ["ground","one","other","beneath","first","second"] ["ground","one","other"] (af ik):=by refine⟨rfl,rfl,rfl,?_,rfl,?_,?_⟩<;>decide +kernel
noncomputable abbrev fh:Stmt:=top 32
theorem eK:ao ["ground","one","other","first","second"] ["ground","one","other"] (af fh):=by refine⟨rfl,rfl,rfl,?_,rfl,?_,?_⟩<;>decide +kernel
noncomputable abbrev fi:Stmt:=top 33
theorem mh:ao ["ground","later","earlier"] ["ground","later","earlier"] (af fi):=by refine⟨rfl,rfl,rfl,?_,rfl,?_,?_⟩<;>decide +kernel
noncomputable abbrev gH:Stmt:=top 40
theorem rD:ao ["thing"] ["thing"] (af gH):=by refine⟨rfl,rfl,rfl,?_,rfl,?_,?_⟩<;>decide +kernel
noncomputable abbrev jA:Stmt:=top 41
theorem fj:ao ["text","rows","number","row"] ["text"] (af jA):=by refine⟨rfl,rfl,rfl,?_,rfl,?_,?_⟩<;>decide +kernel
noncomputable abbrev iV:Stmt:=top 42
theorem uB:ao ["row"] ["row"] (af iV):=by refine⟨rfl,rfl,rfl,?_,rfl,?_,?_⟩<;>decide +kernel
noncomputable abbrev cF:Stmt:=top 43
theorem kf:ao ["row","above"] ["row","above"] (af cF):=by refine⟨rfl,rfl,rfl,?_,rfl,?_,?_⟩<;>decide +kernel
noncomputable abbrev dF:Stmt:=top 44
theorem mj:ao ["rows"] ["rows"] (af dF):=by refine⟨rfl,rfl,rfl,?_,rfl,?_,?_⟩<;>decide +kernel
noncomputable abbrev jB:Stmt:=top 45
theorem rE:ao ["text"] ["text"] (af jB):=by refine⟨rfl,rfl,rfl,?_,rfl,?_,?_⟩<;>decide +kernel
noncomputable abbrev im:Stmt:=top 46
theorem dn:ao ["text","rows","pairs","above","row"] ["text"] (af im):=by refine⟨rfl,rfl,rfl,?_,rfl,?_,?_⟩<;>decide +kernel
noncomputable abbrev bK:Stmt:=top 47
theorem gU:ao ["above","row"] ["above","row"] (af bK):=by refine⟨rfl,rfl,rfl,?_,rfl,?_,?_⟩<;>decide +kernel
noncomputable abbrev fk:Stmt:=top 56
theorem c9:ao ["cuts","names","number","thing"] ["cuts"] (af fk):=by refine⟨rfl,rfl,rfl,?_,rfl,?_,?_⟩<;>decide +kernel
noncomputable abbrev dZ:Stmt:=top 57
theorem kg:ao ["thing"] ["thing"] (af dZ):=by refine⟨rfl,rfl,rfl,?_,rfl,?_,?_⟩<;>decide +kernel
noncomputable abbrev lB:Stmt:=top 58
theorem uC:ao ["thing"] ["thing"] (af lB):=by refine⟨rfl,rfl,rfl,?_,rfl,?_,?_⟩<;>decide +kernel
noncomputable abbrev dw:Stmt:=top 59
theorem cU:ao ["sayings","layers","number","thing"] ["sayings","layers"] (af dw):=by refine⟨rfl,rfl,rfl,?_,rfl,?_,?_⟩<;>decide +kernel
noncomputable abbrev fZ:Stmt:=top 60
theorem om:ao ["thing","layers"] ["thing","layers"] (af fZ):=by refine⟨rfl,rfl,rfl,?_,rfl,?_,?_⟩<;>decide +kernel
noncomputable abbrev dz:Stmt:=top 61
theorem jC:ao ["thing","texts"] ["thing","texts"] (af dz):=by refine⟨rfl,rfl,rfl,?_,rfl,?_,?_⟩<;>decide +kernel
noncomputable abbrev jD:Stmt:=top 62
theorem rF:ao ["thing"] ["thing"] (af jD):=by refine⟨rfl,rfl,rfl,?_,rfl,?_,?_⟩<;>decide +kernel
noncomputable abbrev fo:Stmt:=top 63
theorem mr:ao ["name","letter"] ["name","letter"] (af fo):=by refine⟨rfl,rfl,rfl,?_,rfl,?_,?_⟩<;>decide +kernel
noncomputable abbrev eE:Stmt:=top 64
theorem dG:ao ["cuts","layers","name","text"] ["cuts"] (af eE):=by refine⟨rfl,rfl,rfl,?_,rfl,?_,?_⟩<;>decide +kernel
noncomputable abbrev d5:Stmt:=top 65
theorem bA:ao ["cuts","ties","name","text","upper","lower"] ["cuts"] (af d5):=by refine⟨rfl,rfl,rfl,?_,rfl,?_,?_⟩<;>decide +kernel
noncomputable abbrev cG:Stmt:=top 66
theorem bL:ao ["sayings","ties","number","saying"] ["sayings"] (af cG):=by refine⟨rfl,rfl,rfl,?_,rfl,?_,?_⟩<;>decide +kernel
noncomputable abbrev eL:Stmt:=top 68
theorem lC:ao ["_law_script","_law_k"] ["_law_script","_law_k"] (af eL):=by refine⟨rfl,rfl,rfl,?_,rfl,?_,?_⟩<;>decide +kernel
noncomputable abbrev jE:Stmt:=top 69
theorem bY:ao ["_law_script","_law_many","_law_found","_law_number","_law_k","_law_cell","_law_one","_law_two"] ["_law_script","_law_many"] (af jE):=by refine⟨rfl,rfl,rfl,?_,rfl,?_,?_⟩<;>decide +kernel
noncomputable abbrev fz:Stmt:=top 70
theorem bq:ao ["_law_number","_law_high","_law_wild","_law_air","_law_at","_law_signs","_law_k"] ["_law_number","_law_high","_law_wild"] (af fz):=by refine⟨rfl,rfl,rfl,?_,rfl,?_,?_⟩<;>decide +kernel
noncomputable abbrev io:Stmt:=top 71
theorem p9:ao ["_law_at","_law_shift"] ["_law_at","_law_shift"] (af io):=by refine⟨rfl,rfl,rfl,?_,rfl,?_,?_⟩<;>decide +kernel
noncomputable abbrev cV:Stmt:=top 72
theorem bM:ao ["_law_row_here","_law_shift","_law_wide","_law_high","_law_wild","_law_columns","_law_rows","_law_k","_law_signs","_law_there"] ["_law_row_here","_law_shift"] (af cV):=by refine⟨rfl,rfl,rfl,?_,rfl,?_,?_⟩<;>decide +kernel
noncomputable abbrev fA:Stmt:=top 73
theorem br:ao ["_law_one","_law_two","_law_layers","_law_layer","_law_at","_law_other","_law_there","_law_kind","_law_odd","_law_year"] ["_law_one","_law_two","_law_layers"] (af fA):=by refine⟨rfl,rfl,rfl,?_,rfl,?_,?_⟩<;>decide +kernel
noncomputable abbrev dH:Stmt:=top 74
theorem aM:ao ["_law_row_here","_law_cuts","_law_layers","_law_k","_law_name","_law_shift","_law_text","_law_there","_law_at","_law_many","_law_sayings"] ["_law_row_here"] (af dH):=by refine⟨rfl,rfl,rfl,?_,rfl,?_,?_⟩<;>decide +kernel
noncomputable abbrev f6:Stmt:=top 75
theorem bc:ao ["_law_some","_law_begin","_law_steps_here","_law_edge","_law_far","_law_more","_law_later","_law_earlier","_law_source"] ["_law_some","_law_begin"] (af f6):=by refine⟨rfl,rfl,rfl,?_,rfl,?_,?_⟩<;>decide +kernel
noncomputable abbrev f9:Stmt:=top 76
theorem cH:ao ["_law_script","_law_layers","_law_many","_law_number","_law_pairs_here","_law_k"] ["_law_script","_law_layers","_law_many"] (af f9):=by refine⟨rfl,rfl,rfl,?_,rfl,?_,?_⟩<;>decide +kernel
noncomputable abbrev gc:Stmt:=top 77
theorem cb:ao ["_law_found","_law_names","_law_some","_law_ahead","_law_behind","_law_at","_law_k","_law_later","_law_earlier","_law_source"] ["_law_found","_law_names","_law_some","_law_ahead","_law_behind"] (af gc):=by refine⟨rfl,rfl,rfl,?_,rfl,?_,?_⟩<;>decide +kernel
noncomputable abbrev gX:Stmt:=top 78
theorem cW:ao ["_law_script","_law_cuts","_law_sayings","_law_layers","_law_ground_here","_law_some","_law_names","_law_one","_law_other","_law_first","_law_second","_law_found","_law_again"] ["_law_script"] (af gX):=by refine⟨rfl,rfl,rfl,?_,rfl,?_,?_⟩<;>decide +kernel
noncomputable abbrev bB:Stmt:=iB (top 55) 0
theorem d6:ao ["self","cuts","sayings","layers"] ["self","cuts","sayings"] (af bB):=by refine⟨rfl,rfl,rfl,?_,rfl,?_,?_⟩<;>decide +kernel
noncomputable abbrev mt:Stmt:=iB (top 55) 1
theorem xf:ao ["self"] ["self"] (af mt):=by refine⟨rfl,rfl,rfl,?_,rfl,?_,?_⟩<;>decide +kernel
noncomputable abbrev bF:Stmt:=iB (top 55) 2
theorem iW:ao ["self"] ["self"] (af bF):=by refine⟨rfl,rfl,rfl,?_,rfl,?_,?_⟩<;>decide +kernel
noncomputable abbrev bP:Stmt:=iB (top 55) 3
theorem jF:ao ["self"] ["self"] (af bP):=by refine⟨rfl,rfl,rfl,?_,rfl,?_,?_⟩<;>decide +kernel
noncomputable abbrev cg:Stmt:=iB (top 55) 4
theorem lD:ao ["self"] ["self"] (af cg):=by refine⟨rfl,rfl,rfl,?_,rfl,?_,?_⟩<;>decide +kernel
def rG(K:PySem.W.Frag):Sp:=fun vs H Q _=>∃(a:Addr) (ns:List Int) (k:Int),vs=[.ref a,.int k]/\SqL K H a (ns.map V.int)/\0<=k/\Q (.int (ns.getD k.toNat 0)) H
def Bm(K:PySem.W.Frag):Sp:=fun vs H Q _=>∃(a:Addr) (ns:List Int) (m:Int),vs=[.ref a,.int m]/\SqL K H a (ns.map V.int)/\ns.length<=1000/\0<=m/\m<=100/\∀l H' (xs:List Int),ac H H'->H l=none->H' l=some (.lst (xs.map V.int))->xs.length=m.toNat->(∀x∈xs,0<=x/\x<9973)->Q (.ref l) H'
def uD:Sp:=fun vs H Q _=>∃(n hi:Int) (wild:Bool),vs=[.int n,.int hi,.bl wild]/\0<=n/\1<=hi/\hi<=6/\∀l H' (cs:List Int),ac H H'->H l=none->H' l=some (.lst (cs.map V.int))->cs.length=hi.toNat->iT wild cs->Q (.ref l) H'
def ze:Sp:=fun vs H Q _=>∃a s:Int,vs=[.int a,.int s]/\0<=s/\Q (.str (sgn (sg a s))) H
def oo(H:Hp)(cs:List (Addr×List Int)):Prop:=∀p∈cs,H p.1=some (.lst (p.2.map V.int))
theorem oo.up(h:oo H cs)(s:ac H H'):oo H' cs:=fun p hp=>s _ _ (h p hp)
def Bn(K:PySem.W.Frag):Sp:=fun vs H Q _=>∃(a:Addr) (xs:List Int) (sh:Int),vs=[.ref a,.int sh]/\SqL K H a (xs.map V.int)/\(∀H',ac H H'->SqL K H' a (xs.map V.int))/\xs.length=6/\(∀x∈xs,0<=x/\x<9973)/\0<=sh/\
 ∀(T th:Addr) H' (cols:List (List Int)) (hi:Nat) (wd:Bool),ac H H'->H T=none->H th=none->T≠th->H' T=some (.tup [.str (Str.join nl (drawn cols hi sh)),.ref th])->H' th=some (.lst ((there cols).map V.int))->
  1<=hi->hi<=6->1<=cols.length->cols.length<=5->(∀c∈cols,c.length=hi/\iT wd c)->Q (.ref T) H'
structure Txt (K:PySem.W.Frag) (mg:Str->Option Value):Prop where
 b_min:mg "min"=none
 b_max:mg "max"=none
 b_list:mg "list"=none
 b_set:mg "set"=none
 b_sorted:mg "sorted"=none
 b_len:mg "len"=none
 b_reversed:mg "reversed"=none
 b_all:mg "all"=none
 b_str:mg "str"=none
 b_isinstance:mg "isinstance"=none
 b_enumerate:mg "enumerate"=none
 b_zip:mg "zip"=none
 b_tuple:mg "tuple"=none
 b_int:mg "int"=none
 b_bool:mg "bool"=none
 b_range:mg "range"=none
 b_abs:mg "abs"=none
 g_LATER:Gv mg "LATER" (.int 0)
 g_EARLIER:Gv mg "EARLIER" (.int 1)
 g_SUPPOSED:Gv mg "SUPPOSED" (.str "supposed")
 g_LONGEST_NAME:Gv mg "LONGEST_NAME" (.int 8)
 g_LETTERS:Gv mg "LETTERS" (.str "abcdefghijklmnopqrstuvwxyz")
 g_MOST_ROWS:Gv mg "MOST_ROWS" (.int 40)
 g_MOST_SIGNS:Gv mg "MOST_SIGNS" (.int 40)
 g_AIR:Gv mg "AIR" (.str ".")
 g_MOST_CUTS:Gv mg "MOST_CUTS" (.int 8)
 g_MOST_SAYINGS:Gv mg "MOST_SAYINGS" (.int 60)
 g_FIRST_YEAR:Gv mg "FIRST_YEAR" (.int (-9999))
 g_LAST_YEAR:Gv mg "LAST_YEAR" (.int 9999)
 d_names_by_layer:aG K mg "names_by_layer" cR ["ground"]
 d_join_deposits:aG K mg "join_deposits" dt ["names","one","other"]
 d_least_pointed_to:aG K mg "least_pointed_to" cp ["names","layer"]
 d_deposits:aG K mg "deposits" ig ["ground"]
 d_deposit_of:aG K mg "deposit_of" fc ["ground","layer"]
 d_deposit_names:aG K mg "deposit_names" ck ["ground"]
 d_links:aG K mg "links" kr ["ground"]
 d_links_by_later:aG K mg "links_by_later" cT ["found"]
 d_links_by_earlier:aG K mg "links_by_earlier" cq ["found"]
 d_grouped:aG K mg "grouped" jz ["found","side"]
 d_laid_in_turn:aG K mg "laid_in_turn" cE ["names","found"]
 d_shortest_way:aG K mg "shortest_way" dX ["beneath","start","goal"]
 d_next_edge:aG K mg "next_edge" fY ["beneath","edge","reached"]
 d_way_to:aG K mg "way_to" lA ["reached","start","goal"]
 d_ring:aG K mg "ring" rC ["ground"]
 d_shortest_ring:aG K mg "shortest_ring" du ["names","found"]
 d_never_laid:aG K mg "never_laid" ff ["names","found"]
 d_untorn_links:aG K mg "untorn_links" dY ["ground"]
 d_standing:aG K mg "standing" ik ["ground","one","other"]
 d_two_orders:aG K mg "two_orders" fh ["ground","one","other"]
 d_order_with:aG K mg "order_with" fi ["ground","later","earlier"]
 d_is_name:aG K mg "is_name" gH ["thing"]
 d_rows_of:aG K mg "rows_of" jA ["text"]
 d_is_row:aG K mg "is_row" iV ["row"]
 d_lies_beneath:aG K mg "lies_beneath" cF ["row","above"]
 d_letters_in:aG K mg "letters_in" dF ["rows"]
 d_letters:aG K mg "letters" jB ["text"]
 d_meetings:aG K mg "meetings" im ["text"]
 d_meetings_between:aG K mg "meetings_between" bK ["above","row"]
 d_check_cuts:aG K mg "check_cuts" fk ["cuts"]
 d_is_named_cut:aG K mg "is_named_cut" dZ ["thing"]
 d_is_cut:aG K mg "is_cut" lB ["thing"]
 d_check_sayings:aG K mg "check_sayings" dw ["sayings","layers"]
 d_is_saying:aG K mg "is_saying" fZ ["thing","layers"]
 d_is_text_among:aG K mg "is_text_among" dz ["thing","texts"]
 d_is_year:aG K mg "is_year" jD ["thing"]
 d_layer_name:aG K mg "layer_name" fo ["name","letter"]
 d_layers_of:aG K mg "layers_of" eE ["cuts"]
 d_ties_of_cuts:aG K mg "ties_of_cuts" d5 ["cuts"]
 d_ties_of_sayings:aG K mg "ties_of_sayings" cG ["sayings"]
 d_law_cell_at:aG K mg "_law_cell_at" eL ["_law_script","_law_k"]
 d_law_row:aG K mg "_law_row" jE ["_law_script","_law_many"]
 d_law_column:aG K mg "_law_column" fz ["_law_number","_law_high","_law_wild"]
 d_law_sign:aG K mg "_law_sign" io ["_law_at","_law_shift"]
 d_law_cut:aG K mg "_law_cut" cV ["_law_row_here","_law_shift"]
 d_law_saying:aG K mg "_law_saying" fA ["_law_one","_law_two","_law_layers"]
 d_law_ground:aG K mg "_law_ground" dH ["_law_row_here"]
 d_law_steps:aG K mg "_law_steps" f6 ["_law_some","_law_begin"]
 d_law_pairs:aG K mg "_law_pairs" f9 ["_law_script","_law_layers","_law_many"]
 d_law_keeps:aG K mg "_law_keeps" gc ["_law_found","_law_names","_law_some","_law_ahead","_law_behind"]
 o_Ground:wK K mg "Ground"
 n_Ground_kept_cuts:eI K (b8 mg "Ground") "kept_cuts"
 n_Ground_kept_sayings:eI K (b8 mg "Ground") "kept_sayings"
 n_Ground_kept_layers:eI K (b8 mg "Ground") "kept_layers"
 n_Ground_kept_ties:eI K (b8 mg "Ground") "kept_ties"
 i_Ground:wL K mg "Ground" "Ground.__init__" bB ["self","cuts","sayings"]
 m_Ground_sayings:pO K mg "Ground" "sayings" "Ground.sayings" bF ["self"]
 m_Ground_layers:pO K mg "Ground" "layers" "Ground.layers" bP ["self"]
 m_Ground_ties:pO K mg "Ground" "ties" "Ground.ties" cg ["self"]
 t_YEAR_WORDS:GvT K mg "YEAR_WORDS" [.str "since",.str "by"]
 t_LAYER_WORDS:GvT K mg "LAYER_WORDS" [.str "later",.str "same"]
section
variable{P:Program}{w:World}{K:PySem.W.Frag}{mg:Str->Option Value}{base:Heap}
theorem bQ(h:n<=5000):n<=sizeLine:=Y8 h (by decide)
theorem aH(h:n<=5000):n<sizeLine:=Nat.lt_of_le_of_lt h (by decide)
theorem ac.upd(h:H p=none):ac H (upd H p o):=fun b u e=>by rw[ai (aq e h)];exact e
theorem ac.set(sm:ac H H')(h:H p=none):ac H (L2.upd H' p o):=fun b u e=>by rw[ai (aq e h)];exact sm b u e
theorem Cc(xs:List α)(h0:0<=i)(h1:i<(xs.length:Int)):∃c,atI xs i=some c/\c∈xs:=by
 obtain⟨j,rfl⟩:=X3 h0;have hj:j<xs.length:=by lia
 exact⟨xs[j],ci (by simp[hj]),Y6 hj⟩
theorem iX(xs:List Int)(h0:0<=i)(h1:i<(xs.length:Int)):∃c,atI (xs.map V.int) i=some (V.int c)/\c∈xs:=by
 obtain⟨j,rfl⟩:=X3 h0;have hj:j<xs.length:=by lia
 exact⟨xs[j],ci (by simp[hj]),Y6 hj⟩
theorem zM:(e8.cps.toList.length:Int)=26:=by decide +kernel
theorem db(T:Txt K mg):Cal P w K mg base 1 "_law_cell_at" ["_law_script","_law_k"] (rG K):=by
 refine T.d_law_cell_at.cal lC (fun vs H Q E h=>?_) (fun f cdv A outer s H vs Q E hr h=>?_)
 ·obtain⟨a,ns,k,rfl,_⟩:=h;rfl
 ·obtain⟨a,ns,k,rfl,hs,h0,q⟩:=h;refine⟨_,(QSs.h (ae (ifS (bu qN rfl (vn 1 rfl Z0 rfl rfl) (cbE (bV (K:=K) rfl) rfl T.b_len PySem.boot_len rfl rfl rfl (paE rfl (vn 0 rfl Z0 rfl rfl) ah)))
   (am (aK (dj (K:=K) rfl (fun _ _=>rfl) (vn 0 rfl Z0 rfl rfl) (vn 1 rfl Z0 rfl rfl))))
   aU)
   (am (aK ap)))),?_⟩
  show bg _ _ _ [some (.ref a),some (.int k)] H;walk_at "rd";refine⟨_,.inl ⟨_,hs,rfl⟩,bw (fun hk=>?_) fun hk=>?_⟩
  ·have hk:=Zn hk;rw[Z5]at hk;refine⟨_,hs,.int (ns.getD k.toNat 0),?_,q⟩;obtain⟨j,rfl⟩:=X3 h0;have hj:j<ns.length:=by lia
   exact ci (by simp[hj])
  ·have hk: ¬ k<((ns.map V.int).length:Int):=by simpa using hk
   rw[Z5]at hk;have e:ns.getD k.toNat 0=0:=by
    rw[Zb,X5 (by lia)];rfl
   rw[e]at q;exact q
theorem uE(T:Txt K mg):Cal P w K mg base 2 "_law_row" ["_law_script","_law_many"] (Bm K):=by
 refine T.d_law_row.cal bY (fun vs H Q E h=>?_) (fun f cdv A outer s H vs Q E hr h=>?_)
 ·obtain⟨a,ns,m,rfl,_⟩:=h;rfl
 ·obtain⟨a,ns,m,rfl,hs,hn,h0,h1,q⟩:=h;refine⟨_,(QSs.h (ae (aI 2 bY.nd rfl Z0 Z1 rfl (cz ah))
   (ae (aI 3 bY.nd rfl Z0 Z1 rfl (opE eJ (cbE ⟨vE⟩ rfl T.b_abs boot_abs rfl rfl rfl (paE rfl (aD (db T) hr rfl rfl rfl rfl (paE rfl (vn 0 rfl Z0 rfl rfl) (paE rfl ap ah))) ah)) (ctE zE rfl T.b_int boot_int rfl rfl rfl (paE rfl (jo cL rfl (opE bH (aD (db T) hr rfl rfl rfl rfl (paE rfl (vn 0 rfl Z0 rfl rfl) (paE rfl ap ah))) ap) ap) ah))))
   (ae (cA PassesOwn.never rfl rfl (jS rfl T.b_range rfl (paE rfl (vn 1 rfl Z0 rfl rfl) ah)) (au 4 bY.nd rfl Z0 Z1)
   (am (ifS (bu wl rfl (vn 3 rfl Z0 rfl rfl) ap)
    (ae (bD rfl (bmE (K:=K) rfl plainAttrs_list PySem.F.slot_list_append PySem.F.type_list_append aV rfl rfl rfl rfl (vn 2 rfl Z0 rfl rfl) (paE rfl (opE bH (vn 3 rfl Z0 rfl rfl) ap) ah)))
     (am (aI 3 bY.nd rfl Z0 Z1 rfl (opE cB (vn 3 rfl Z0 rfl rfl) ap))))
    (ae (aI 5 bY.nd rfl Z0 Z1 rfl (aD (db T) hr rfl rfl rfl rfl (paE rfl (vn 0 rfl Z0 rfl rfl) (paE rfl (opE ce ap (opE bH (vn 4 rfl Z0 rfl rfl) (cbE (zD rfl) rfl T.b_max boot_max rfl rfl rfl (paE rfl ap (paE rfl (opE pc (cbE (bV (K:=K) rfl) rfl T.b_len PySem.boot_len rfl rfl rfl (paE rfl (vn 0 rfl Z0 rfl rfl) ah)) ap) ah))))) ah))))
     (ae (aI 6 bY.nd rfl Z0 Z1 rfl (opE bH (opE eJ (opE ce (opE ce (opE bH (vn 5 rfl Z0 rfl rfl) ap) (opE eJ ap (vn 4 rfl Z0 rfl rfl))) ap) ap) ap))
     (ae (aI 7 bY.nd rfl Z0 Z1 rfl (opE bH (opE ce (opE qM (vn 6 rfl Z0 rfl rfl) (vn 6 rfl Z0 rfl rfl)) (opE eJ ap (vn 4 rfl Z0 rfl rfl))) ap))
     (am (bD rfl (bmE (K:=K) rfl plainAttrs_list PySem.F.slot_list_append PySem.F.type_list_append aV rfl rfl rfl rfl (vn 2 rfl Z0 rfl rfl) (paE rfl (opE bH (opE bH (opE qM (vn 7 rfl Z0 rfl rfl) (vn 7 rfl Z0 rfl rfl)) ap) ap) ah))))))))))
   (am (aK (vn 2 rfl Z0 rfl rfl))))))),?_⟩
  show bg _ _ _ [some (.ref a),some (.int m),none,none,none,none,none,none] H;refine jk fun n1 c1=>?_
  walk_at "rd";refine⟨X0 _,fun l hl=>c1 _ _ (jk fun n2 c2=>?_)⟩;have sml:ac H (upd H l (.lst [])):=ac.upd hl;walk_at "rd";refine⟨a,ns,1,rfl,sml.seq hs,by decide,_,rfl,a,ns,0,rfl,sml.seq hs,by decide,_,rfl,by decide,?_⟩;refine⟨.inr (by split<;> exact⟨by decide,by decide⟩),c2 _ _ (jk fun n3 c3=>av fun Kont hK=>?_)⟩;walk_at "rd";refine⟨by lia,by lia,hK _ _ (cP (fun i σ H'=>∃(n:Int) (o o1 o2 o3:Option V) (xs:List Int),σ=[some (.ref a),some (.int m),some (.ref l),some (.int n),o,o1,o2,o3]/\ac H H'/\H' l=some (.lst (xs.map V.int))/\xs.length=i/\∀x∈xs,0<=x/\x<9973)
   ⟨_,none,none,none,none,[],rfl,sml,aa,rfl,fun _ h=>nomatch h⟩ ?_ ?_)⟩
  ·rintro i σ H' hi ⟨n,o,o1,o2,o3,xs,rfl,sm,hl',hx,hall⟩;have hi':i<100:=by lia
   have hs':=sm.seq hs;show j2 _ _ _ _ [some (.ref a),some (.int m),some (.ref l),some (.int n),some (.int (0+i)),o1,o2,o3] H';rw[Int.zero_add];have put:∀v:Int,0<=v->v<9973->ac H (upd H' l (.lst (xs.map V.int++[.int v])))/\∃xs2:List Int,upd H' l (.lst (xs.map V.int++[.int v])) l=some (.lst (xs2.map V.int))/\xs2.length=i+1/\∀x∈xs2,0<=x/\x<9973:=fun v v0 v1=>
    ⟨ac.set sm hl,xs++[v],by rw[aa,Zc];rfl,by rw[Z8,hx];rfl,fun y hy=>by
     rcases X7 hy with q|q
     ·exact hall y q
     ·rw[X8 q];exact⟨v0,v1⟩⟩
   have len:(xs.map V.int).length<sizeLine:=by rw[Z5,hx];exact aH (by lia)
   have mx:∀x:Nat,(0:Int)<(if(x:Int) -1>1 then(x:Int) -1 else 1):=fun x=>by split<;> lia
   refine aB fun D1 k1 _=>?_
   walk_at "rd";refine bw (fun _=>?_) fun _=>?_
   ·refine⟨.inl ⟨_,SqL.of hl'⟩,by decide,_,hl',len,⟨by decide,by decide⟩,k1 _ _ ?_⟩;obtain⟨p1,xs2,p2,p3,p4⟩:=put (n%9973) (by lia) (by lia);exact⟨_,_,_,_,_,xs2,rfl,p1,p2,p3,p4⟩
   ·refine⟨_,.inl ⟨_,hs',rfl⟩,mx _,a,ns,_,rfl,hs',?_,?_⟩
    ·have:=Int.emod_nonneg (i:Int) (Int.ne_of_gt (mx (ns.map V.int).length))
     lia
    generalize ns.getD _ 0=c
    walk_at "rd";refine⟨by decide,.inl ⟨by decide,by decide⟩,.inr ⟨by decide,by decide⟩,by decide,?_⟩;have b1:=Int.emod_nonneg ((c%1000003+7919*i+1)*48271) (by decide:(2147483629:Int)≠0);have b2:=Int.emod_lt_of_pos ((c%1000003+7919*i+1)*48271) (by decide:(0:Int)<2147483629)
    generalize (c%1000003+7919*i+1)*48271%2147483629=one at b1 b2
    refine⟨.inl ⟨by lia,by lia⟩,.inl ⟨by decide,by decide⟩,by decide,?_⟩;have b3:=Int.emod_nonneg (one*one+104729*i) (by decide:(2147483587:Int)≠0);have b4:=Int.emod_lt_of_pos (one*one+104729*i) (by decide:(0:Int)<2147483587)
    generalize (one*one+104729*i)%2147483587=two at b3 b4
    refine⟨.inl ⟨_,SqL.of hl'⟩,.inl ⟨by lia,by lia⟩,by decide,by decide,_,hl',len,k1 _ _ ?_⟩;obtain⟨p1,xs2,p2,p3,p4⟩:=put (two*two%2147483563%9973) (by lia) (by lia);exact⟨_,_,_,_,_,xs2,rfl,p1,p2,p3,p4⟩
  ·rintro σ H' ⟨n,o,o1,o2,o3,xs,rfl,sm,hl',hx,hall⟩;refine c3 _ _ ?_;walk_at "rd";exact q l H' xs sm hl hl' hx hall
theorem Bo(h0:0<=i)(h1:i<26):atI e8.cps.toList i=some (97+i.toNat):=by
 obtain⟨j,rfl⟩:=X3 h0;have hj:j<26:=by omega
 have all:∀j:Fin 26,e8.cps.toList[j.1]? =some (97+j.1):=by decide +kernel
 exact ci (all ⟨j,hj⟩)
theorem lE(T:Txt K mg):Cal P w K mg base 1 "_law_sign" ["_law_at","_law_shift"] ze:=by
 refine T.d_law_sign.cal p9 (fun vs H Q E h=>?_) (fun f cdv A outer s H vs Q E hr h=>?_)
 ·obtain⟨a,s,rfl,_⟩:=h;rfl
 ·obtain⟨a,sh,rfl,h0,kk⟩:=h;refine⟨_,(QSs.h (ae (ifS (bu qN rfl (vn 0 rfl Z0 rfl rfl) ap)
   (am (aK dh))
   aU)
   (am (aK (ixSE (fun _ _=>rfl) dh (opE bH (opE hX (opE qM (vn 0 rfl Z0 rfl rfl) ap) (vn 1 rfl Z0 rfl rfl)) ap)))))),?_⟩
  show bg _ _ _ [some (.int a),some (.int sh)] H;walk_at "rd";unfold sg at kk;refine bw (fun ha=>?_) fun ha=>?_
  ·have ha:=Zn ha;rw[if_pos ha]at kk;exact kk
  ·have ha: ¬ a<0:=by simpa using ha
   rw[if_neg ha]at kk;refine⟨.inr ⟨by decide,by decide⟩,by decide,(show 26<=sizeLine by decide),_,Bo (by omega) (by omega),kk⟩
theorem oq(T:Txt K mg):Cal P w K mg base 1 "_law_column" ["_law_number","_law_high","_law_wild"] uD:=by
 refine T.d_law_column.cal bq (fun vs H Q E h=>?_) (fun f cdv A outer s H vs Q E hr h=>?_)
 ·obtain⟨n,hi,wd,rfl,_⟩:=h;rfl
 ·obtain⟨n,hi,wd,rfl,n0,h1,h6,kk⟩:=h;refine⟨_,(QSs.h (ae (aI 3 bq.nd rfl Z0 Z1 rfl (opE bH (vn 0 rfl Z0 rfl rfl) ap))
   (ae (aI 4 bq.nd rfl Z0 Z1 rfl (opE bH (opE cB (vn 0 rfl Z0 rfl rfl) ap) ap))
   (ae (aI 0 bq.nd rfl Z0 Z1 rfl (opE cB (vn 0 rfl Z0 rfl rfl) ap))
   (ae (aI 5 bq.nd rfl Z0 Z1 rfl (cz ah))
   (ae (cA PassesOwn.never rfl rfl (jS rfl T.b_range rfl (paE rfl (vn 1 rfl Z0 rfl rfl) ah)) (au 6 bq.nd rfl Z0 Z1)
   (am (ifS (wT (kR (bu qN rfl (vn 6 rfl Z0 rfl rfl) (vn 3 rfl Z0 rfl rfl)) (iF (bu qN rfl (vn 6 rfl Z0 rfl rfl) (opE pc (vn 1 rfl Z0 rfl rfl) ap)))))
    (am (bD rfl (bmE (K:=K) rfl plainAttrs_list PySem.F.slot_list_append PySem.F.type_list_append aV rfl rfl rfl rfl (vn 5 rfl Z0 rfl rfl) (paE rfl (qL ap) ah))))
    (ae (bD rfl (bmE (K:=K) rfl plainAttrs_list PySem.F.slot_list_append PySem.F.type_list_append aV rfl rfl rfl rfl (vn 5 rfl Z0 rfl rfl) (paE rfl (vn 4 rfl Z0 rfl rfl) ah)))
     (ae (aI 4 bq.nd rfl Z0 Z1 rfl (cbE (zD rfl) rfl T.b_max boot_max rfl rfl rfl (paE rfl ap (paE rfl (cbE (B4 rfl) rfl T.b_min boot_min rfl rfl rfl (paE rfl ap (paE rfl (opE hX (vn 4 rfl Z0 rfl rfl) (dj (K:=K) rfl (fun _ _=>rfl) (cz (paE rfl ap (paE rfl ap (paE rfl (dj (K:=K) rfl (fun _ _=>rfl) (cz (paE rfl ap (paE rfl (qL ap) ah))) (ctE zE rfl T.b_int boot_int rfl rfl rfl (paE rfl (vn 2 rfl Z0 rfl rfl) ah))) ah)))) (opE bH (vn 0 rfl Z0 rfl rfl) ap))) ah))) ah))))
     (am (aI 0 bq.nd rfl Z0 Z1 rfl (opE cB (vn 0 rfl Z0 rfl rfl) ap))))))))
   (am (aK (vn 5 rfl Z0 rfl rfl))))))))),?_⟩
  show bg _ _ _ [some (.int n),some (.int hi),some (.bl wd),none,none,none,none] H;refine aj fun D1 k1 _=>?_
  walk_at "rd";refine⟨by decide,k1 _ _ (aj fun D2 k2 _=>?_)⟩;walk_at "rd";refine⟨⟨by decide,by decide⟩,by decide,k2 _ _ (aj fun D3 k3 _=>?_)⟩;walk_at "rd";refine⟨⟨by decide,by decide⟩,k3 _ _ (aj fun D4 k4 _=>?_)⟩;walk_at "rd";refine⟨X0 _,fun L hL=>k4 _ _ (aj fun D5 k5 r5=>av fun Kont hK=>?_)⟩;walk_at "rd";have hair:∃air:Nat,(air:Int)=(if n%3<hi-1 then n%3 else hi-1):=by
   split
   ·exact⟨(n%3).toNat,by omega⟩
   ·exact⟨(hi-1).toNat,by omega⟩
  obtain⟨air,ea⟩:=hair;refine⟨by omega,by omega,hK _ _ (cP (fun i σ H'=>∃(m at':Int) (o:Option V) (cs:List Int),σ=[some (.int m),some (.int hi),some (.bl wd),some (.int (n%3)),some (.int at'),some (.ref L),o]/\0<=at'/\at'<=7/\ac H H'/\H' L=some (.lst (cs.map V.int))/\cs.length=i/\
   (∀(k:Nat) (c:Int),cs[k]? =some c->(k<air->c= -1)/\(air<=k->0<=c/\c<=7))/\∀(k:Nat) (c d:Int),cs[k]? =some c->(cs++[at'])[k+1]? =some d->air<=k->St wd c d)
   ⟨_,_,none,[],rfl,by omega,by omega,ac.upd hL,aa,rfl,(fun k c e=>by simp at e),fun k c d e=>by simp at e⟩ ?_ ?_)⟩
  ·rintro i σ H' hi' ⟨m,at',o,cs,rfl,a0,a7,sm,hl',hx,hall,hst⟩;show j2 _ _ _ _ [some (.int m),some (.int hi),some (.bl wd),some (.int (n%3)),some (.int at'),some (.ref L),some (.int (0+i))] H';rw[Int.zero_add];have len:(cs.map V.int).length<sizeLine:=by rw[Z5,hx];exact aH (by omega)
   have put:∀v:Int,(i<air->v= -1)->(air<=i->0<=v/\v<=7)->∀(k:Nat) (c:Int),(cs++[v])[k]? =some c->(k<air->c= -1)/\(air<=k->0<=c/\c<=7):=fun v v1 v2 k c e=>by
    by_cases hk:k<cs.length
    ·rw[Y3 hk]at e;exact hall k c e
    ·have ek:k=i:=by
      have:=(X6 e).1;rw[Z8]at this;simp only[Zq,length_nil]at this;omega
     subst ek;rw[Y4 (by omega),hx,sub_self]at e;cases e;exact⟨v1,v2⟩
   refine aB fun D6 k6 _=>?_
   walk_at "rd";have stp:∀v u:Int,(air<=i->v=at'/\St wd v u)->∀(k:Nat) (c d:Int),(cs++[v])[k]? =some c->(cs++[v] ++[u])[k+1]? =some d->air<=k->St wd c d:=fun v u q k c d e1 e2 hk=>by
    have hk2:k+1<=cs.length+1:=by
     have:=(X6 e2).1;simp only[Z8,Zq,length_nil]at this;omega
    by_cases h:k+1<cs.length+1
    ·rw[Y3 (by omega)]at e1;rw[Y3 (by simpa using h)]at e2;by_cases h':air<=i
     ·rw[(q h').1]at e2;exact hst k c d e1 e2 hk
     ·omega
    ·have ek:k=i:=by omega
     subst ek;rw[Y4 (by omega),hx,sub_self]at e1;rw[Y4 (by simp;omega)]at e2;simp[hx]at e1 e2;rw[<-e1,<-e2];exact(q hk).2
   have fin:∀_v:Int,¬ i<air->∀(m2 at2:Int) (HH:Hp),0<=at2->at2<=7->St wd at' at2->ac (upd H' L (.lst (cs.map V.int++[.int at']))) HH->D6.nx [some (.int m2),some (.int hi),some (.bl wd),some (.int (n%3)),some (.int at2),some (.ref L),some (.int i)] HH:=fun v hv m2 at2 HH b0 b7 st sh=>
    k6 _ _ ⟨m2,at2,_,cs++[at'],rfl,b0,b7,(ac.set sm hL).trans sh,by rw[sh L _ aa,Zc];rfl,by rw[Z8,hx];rfl,put at' (fun z=>absurd z hv) fun _=>⟨a0,a7⟩,stp at' at2 fun _=>⟨rfl,st⟩⟩
   refine bw (fun hA=>bw (fun hB=>?g1) fun hB=>?g2) fun hA=>?g3
   case g1=>
    simp only[decide_eq_true_eq]at hA hB;have hlt:i<air:=by split at ea<;> omega
    exact⟨.inl ⟨_,SqL.of hl'⟩,_,hl',len,k6 _ _ ⟨m,at',_,cs++[-1],rfl,a0,a7,ac.set sm hL,by rw[aa,Zc];rfl,by rw[Z8,hx];rfl,put (-1) (fun _=>rfl) fun z=>absurd hlt (by omega),stp (-1) at' fun z=>absurd hlt (by omega)⟩⟩
   all_goals
    have hge: ¬ i<air:=by
     simp only[decide_eq_true_eq]at*
     split at ea<;> omega
    refine⟨.inl ⟨_,SqL.of hl'⟩,_,hl',len,(show 2<=sizeLine by decide),fun p hp=>⟨_,SqL.of aa,.int (if wd=true then -1 else 2),by cases wd<;> rfl,(show 3<=sizeLine by decide),fun p1 hp1=>⟨by decide,_,SqL.of aa,?_⟩⟩⟩;obtain⟨c,hc,hcm⟩:=iX [0,1,if wd=true then -1 else 2] (i:=m%3) (by omega) (by show m%3<3;omega);refine⟨_,hc,c,rfl,⟨by decide,by decide⟩,fin 0 hge _ _ _ ?_ ?_ ?_ ((ac.upd hp).trans (ac.upd hp1))⟩
    rotate_left 2
    ·unfold Cut.St;simp only[Yn,Yu,or_false]at hcm;cases wd<;> rcases hcm with rfl|rfl|rfl<;> simp<;>(split<;>(try split)<;> omega)
    all_goals(split<;>(try split)<;> omega)
  ·rintro σ H' ⟨m,at',o,cs,rfl,a0,a7,sm,hl',hx,hall,hst⟩;refine k5 _ _ ?_;walk_at "rd";exact kk L H' cs sm hL hl' (by omega) ⟨air,by omega,hall,fun k c d e1 e2=>hst k c d e1 (by rw[Y3 (X6 e2).1];exact e2)⟩
theorem qb(xs:List Int){lo hi:Int}(h0:0<=lo)(h1:lo<=hi)(h2:hi<=xs.length):lS (xs.map V.int) (some lo) (some hi)=((xs.drop lo.toNat).take (hi.toNat-lo.toNat)).map V.int:=by
 unfold lS;rw[Z5];have e1:HT.sIx xs.length 0 (some lo)=lo.toNat:=by
  show(if lo<0 then _ else min lo.toNat xs.length)=_;rw[if_neg (by lia)]
  lia
 have e2:HT.sIx xs.length xs.length (some hi)=hi.toNat:=by
  show(if hi<0 then _ else min hi.toNat xs.length)=_;rw[if_neg (by lia)]
  lia
 rw[e1,e2,map_take,map_drop]
theorem Cj(p:Nat->Bool)(n:Nat):inV (V.bl true) ((List.range n).map fun r=>V.bl (p r))=(List.range n).any p:=by
 unfold inV;rw[any_map]
 congr 1
 funext r;show eqV (V.bl (p r)) (V.bl true)=p r;cases p r<;> rfl
theorem uF{α:Type}(p:α->Bool)(xs:List α):inV (V.bl true) (xs.map fun r=>V.bl (p r))=xs.any p:=by
 unfold inV;rw[any_map]
 congr 1
 funext r;show eqV (V.bl (p r)) (V.bl true)=p r;cases p r<;> rfl
theorem zf(a:Int)(cs:List Int):inV (V.int a) (cs.map V.int)=decide (a∈cs):=by
 unfold inV;rw[any_map]
 induction cs with
 | nil=>rfl
 | cons c r ih=>
   rw[Zv,ih];show((c==a)||_)=_;by_cases h:c=a
   ·subst h;simp
   ·have:a≠c:=fun e=>h e.symm
    simp[h,this]
theorem uG(cs:List Int):(cs.map V.int).all en=true:=by simp[en]
theorem uH(T:Txt K mg):Cal P w K mg base 2 "_law_cut" ["_law_row_here","_law_shift"] (Bn K):=by
 refine T.d_law_cut.cal bM (fun vs H Q E h=>?_) (fun f cdv A outer s H vs Q E hr h=>?_)
 ·obtain⟨a,xs,sh,rfl,_⟩:=h;rfl
 ·obtain⟨a,xs,sh,rfl,hs,keep,hx6,hb,s0,kk⟩:=h;have get:∀i:Int,0<=i->i<6->∃c,atI (xs.map V.int) i=some (V.int c)/\0<=c/\c<9973:=fun i h0 h1=>by
   obtain⟨c,e,hm⟩:=iX xs h0 (by lia);exact⟨c,e,hb c hm⟩
  obtain⟨c0,g0,l0,u0⟩:=get 0 (by decide) (by decide);refine⟨_,(QSs.h (ae (aI 2 bM.nd rfl Z0 Z1 rfl (opE ce ap (opE bH (dj (K:=K) rfl (fun _ _=>rfl) (vn 0 rfl Z0 rfl rfl) ap) ap)))
   (ae (aI 3 bM.nd rfl Z1 Z0 rfl (opE ce ap (opE bH (opE cB (dj (K:=K) rfl (fun _ _=>rfl) (vn 0 rfl Z0 rfl rfl) ap) ap) ap)))
   (ae (aI 4 bM.nd rfl Z1 Z0 rfl (jo cL rfl (opE bH (opE cB (dj (K:=K) rfl (fun _ _=>rfl) (vn 0 rfl Z0 rfl rfl) ap) ap) ap) ap))
   (ae (wO 5 bM.nd rfl Z1 Z0 rfl (fH (aE.of (show bT (af cV) ["_law_row_here","_law_shift","_law_wide","_law_high","_law_wild","_law_columns","_law_rows","_law_k","_law_signs","_law_there"] _ ["_law_number","_law_high","_law_wild"] [(1,3),(2,4)]=true from by decide +kernel)) rfl rfl (cw (K:=K) rfl (slE (K:=K) rfl (vn 0 rfl Z0 rfl rfl) (oY ap) (oY (opE ce ap (vn 2 rfl Z0 rfl rfl))))) (fun _ _ _=>(au 0 (show(["_law_number","_law_high","_law_wild"]:List Str).Nodup from by decide +kernel) rfl Z0 Z1)) (fun _ _ _=>j8) (fun _ _ _=>(aD (oq T) hr rfl rfl rfl rfl (paE rfl (vn 0 rfl Z0 rfl rfl) (paE rfl (vn 1 rfl (Or.inr Z0) rfl rfl) (paE rfl (vn 2 rfl (Or.inr Z0) rfl rfl) ah)))))))
   (ae (aI 6 bM.nd rfl Z0 Z1 rfl (cz ah))
   (ae (cA PassesOwn.never rfl rfl (jS rfl T.b_range rfl (paE rfl (vn 3 rfl (Or.inr Z0) rfl rfl) ah)) (au 7 bM.nd rfl Z1 Z0)
   (ae (iG 8 bM.nd rfl Z0 Z1 rfl (aE.of (show bT (af cV) ["_law_row_here","_law_shift","_law_wide","_law_high","_law_wild","_law_columns","_law_rows","_law_k","_law_signs","_law_there"] _ ["_law_column_here","_law_k"] [(1,7)]=true from by decide +kernel)) rfl rfl (cw (K:=K) rfl (vn 5 rfl (Or.inr Z0) rfl rfl)) (fun _ _ _=>(au 0 (show(["_law_column_here","_law_k"]:List Str).Nodup from by decide +kernel) rfl Z0 Z1)) (fun _ _ _=>j8) (fun _ _ _=>(dj (K:=K) rfl (fun _ _=>rfl) (vn 0 rfl Z0 rfl rfl) (vn 1 rfl (Or.inr Z0) rfl rfl))))
    (am (bD rfl (bmE (K:=K) rfl plainAttrs_list PySem.F.slot_list_append PySem.F.type_list_append aV rfl rfl rfl rfl (vn 6 rfl Z0 rfl rfl) (paE rfl (bmE (K:=K) rfl plainAttrs_str slot_str_join type_str_join (qP (K:=K) rfl) rfl rfl rfl rfl dh (paE rfl (fH (aE.of (show bT (af cV) ["_law_row_here","_law_shift","_law_wide","_law_high","_law_wild","_law_columns","_law_rows","_law_k","_law_signs","_law_there"] _ ["_law_at","_law_shift"] [(1,1)]=true from by decide +kernel)) rfl rfl (cw (K:=K) rfl (vn 8 rfl Z0 rfl rfl)) (fun _ _ _=>(au 0 (show(["_law_at","_law_shift"]:List Str).Nodup from by decide +kernel) rfl Z0 Z1)) (fun _ _ _=>j8) (fun _ _ _=>(aD (lE T) hr rfl rfl rfl rfl (paE rfl (vn 0 rfl Z0 rfl rfl) (paE rfl (vn 1 rfl (Or.inr Z0) rfl rfl) ah))))) ah)) ah))))))
   (ae (iG 9 bM.nd rfl Z0 Z1 rfl (aE.of (show bT (af cV) ["_law_row_here","_law_shift","_law_wide","_law_high","_law_wild","_law_columns","_law_rows","_law_k","_law_signs","_law_there"] _ ["_law_at","_law_columns"] [(1,5)]=true from by decide +kernel)) rfl rfl (jS rfl T.b_range rfl (paE rfl ap ah)) (fun _ _ _=>(au 0 (show(["_law_at","_law_columns"]:List Str).Nodup from by decide +kernel) rfl Z1 Z0)) (fun _ _ _=>(sj (bu (qO (K:=K) rfl) rfl eBl (fH (aE.of (show bT _ ["_law_at","_law_columns"] _ ["_law_column_here","_law_at"] [(1,0)]=true from rfl)) rfl rfl (cw (K:=K) rfl (vn 1 rfl (Or.inr Z0) rfl rfl)) (fun _ _ _=>(au 0 (show(["_law_column_here","_law_at"]:List Str).Nodup from by decide +kernel) rfl Z0 Z1)) (fun _ _ _=>j8) (fun _ _ _=>(jo (qO (K:=K) rfl) rfl (vn 1 rfl (Or.inr Z0) rfl rfl) (vn 0 rfl Z0 rfl rfl))))))) (fun _ _ _=>(vn 0 rfl (Or.inr Z0) rfl rfl)))
   (am (aK (gR (paE rfl (bmE (K:=K) rfl plainAttrs_str slot_str_join type_str_join (qP (K:=K) rfl) rfl rfl rfl rfl dh (paE rfl (vn 6 rfl Z0 rfl rfl) ah)) (paE rfl (vn 9 rfl Z0 rfl rfl) ah))))))))))))),?_⟩
  show bg _ _ _ [some (.ref a),some (.int sh),none,none,none,none,none,none,none,none] H;refine aj fun D1 k1 _=>?_
  walk_at "rd";refine⟨_,hs,_,g0,c0,rfl,by decide,k1 _ _ (aj fun D2 k2 _=>?_)⟩;walk_at "rd";refine⟨_,hs,_,g0,c0,rfl,⟨by decide,by decide⟩,by decide,k2 _ _ (aj fun D3 k3 _=>?_)⟩;walk_at "rd";refine⟨_,hs,_,g0,c0,rfl,⟨by decide,by decide⟩,by decide,k3 _ _ (aj fun D4 k4 _=>?_)⟩;have w1:1<=1+c0%5:=by lia
  have w5:1+c0%5<=5:=by lia
  have i1:1<=1+c0/5%6:=by lia
  have i6:1+c0/5%6<=6:=by lia
  generalize hwd:1+c0%5=wd at w1 w5
  generalize 1+c0/5%6=hi at i1 i6
  generalize decide (c0/30%8=0)=wild
  refine aP fun Kont hK=>?_
  walk_at "rd";refine .inl ⟨_,hs,fun p hp=> .inl ⟨⟨_,SqL.of aa⟩,hK _ _ fun D hD=>?_⟩⟩;rw[qb xs (by decide) (by lia) (by lia)]at hD ⊢;have hyl:((xs.drop (Int.toNat 1)).take ((1+wd).toNat-Int.toNat 1)).length=wd.toNat:=by
   rw[Yd,Y9,hx6];rw[show(1+wd).toNat=wd.toNat+1 by lia];exact Nat.min_eq_left (by lia)
  have hyb:∀x∈(xs.drop (Int.toNat 1)).take ((1+wd).toNat-Int.toNat 1),0<=x/\x<9973:=fun x hx=>hb x (List.mem_of_mem_drop (Yo hx))
  generalize (xs.drop (Int.toNat 1)).take ((1+wd).toNat-Int.toNat 1)=ys at hyl hyb hD ⊢
  have smp:ac H (upd H p (.lst (ys.map V.int))):=ac.upd hp;have hpp:upd H p (.lst (ys.map V.int)) p=some (.lst (ys.map V.int)):=aa
  generalize upd H p (.lst (ys.map V.int))=Hp' at smp hpp hD ⊢
  refine bC (J:=Itl K p) (n:=wd.toNat) (D:=D) (fun i zs σ H'=>(∃o,σ=[o,some (.int hi),some (.bl wild)])/\ac Hp' H'/\H' D=some (.lst zs)/\∃cs:List (Addr×List Int),zs=cs.map (fun q=>V.ref q.1)/\cs.length=i/\oo H' cs/\∀q∈cs,q.1≠D/\q.2.length=hi.toNat/\iT wild q.2)
   ⟨⟨none,rfl⟩,ac.upd hD,aa,[],rfl,rfl,fun q hq=>(nomatch hq),fun q hq=>(nomatch hq)⟩
   (fun i _ _ H' hi' ⟨_,sm,_⟩=>⟨_,V.int (ys[i]'(by lia)),SqL.of (sm _ _ hpp),by simp[show i<ys.length by lia]⟩) (fun _ _ H' ⟨_,sm,_⟩=>⟨_,SqL.of (sm _ _ hpp),by simp[hyl]⟩) ?_ ?_
  ·rintro i zs σ H' hi' ⟨⟨o,rfl⟩,sm,hDv,cs,rfl,hcl,hca,hcp⟩ x H2 ⟨e2,hx⟩;subst e2;have hil:i<ys.length:=by lia
   have hxi:=hx _ (SqL.of (sm _ _ hpp));rw[Zk,Z4 hil]at hxi;obtain rfl:x=V.int ys[i]:=(Z9 hxi).symm;walk_at "rd";refine⟨_,_,_,rfl,(hyb _ (Y6 hil)).1,i1,i6,fun l H3 col sm3 hl3 hl3' hcol hok=>?_⟩;have hlD:l≠D:=fun e=>by rw[e,hDv]at hl3;cases hl3
   refine CK.mk hi' (sm3 _ _ hDv) (by rw[Z5,hcl];exact aH (by lia)) ⟨⟨_,rfl⟩,ac.set (sm.trans sm3) hD,aa,cs++[(l,col)],by rw[Zc];rfl,by rw[Z8,hcl];rfl,fun q hq=>?_,fun q hq=>?_⟩
   ·rcases X7 hq with z|z
    ·rw[ai (hcp q z).1];exact sm3 _ _ (hca q z)
    ·rw[X8 z,ai hlD];exact hl3'
   ·rcases X7 hq with z|z
    ·exact hcp q z
    ·rw[X8 z];exact⟨hlD,hcol,hok⟩
  rintro zs σ H4 ⟨_,sm4,hD4,cs,rfl,hcl,hca,hcp⟩;have sH4:ac H H4:=smp.trans sm4;refine k4 _ _ (aj fun D5 k5 _=>?_);walk_at "rd";refine⟨X0 _,fun R hR=>k5 _ _ (aj fun D6 k6 _=>av fun Kont hK=>?_)⟩;walk_at "rd";have hcl':(cs.map (·.2)).length=wd.toNat:=by rw[Z5];exact hcl
  refine⟨by lia,by lia,hK _ _ (cP (fun i σ H'=>∃o7 o8,σ=[some (.ref a),some (.int sh),some (.int wd),some (.int hi),some (.bl wild),some (.ref D),some (.ref R),o7,o8,none]/\ac H4 H'/\H' R=some (.lst (((List.range i).map (fX (cs.map (·.2)) sh)).map V.str)))
   ⟨_,_,rfl,ac.upd hR,aa⟩ ?_ ?_)⟩
  ·rintro i σ H5 hi5 ⟨o7,o8,rfl,sm5,hR5⟩;show bg _ _ _ [some (.ref a),some (.int sh),some (.int wd),some (.int hi),some (.bl wild),some (.ref D),some (.ref R),some (.int (0+i)),o8,none] H5;rw[Int.zero_add];refine aj fun D7 k7 _=>aP fun Kont hK=>?_
   walk_at "rd";refine .inl ⟨⟨_,SqL.of (sm5 _ _ hD4)⟩,hK _ _ fun E hE=>?_⟩;refine bC (J:=Itl K D) (n:=wd.toNat) (D:=E) (fun q zs σ H'=>(∃o,σ=[o,some (.int i)])/\ac H5 H'/\H' E=some (.lst zs)/\zs=((cs.take q).map (fun p=>p.2.getD i 0)).map V.int)
    ⟨⟨none,rfl⟩,ac.upd hE,aa,rfl⟩
    (fun q _ _ H' hq ⟨_,sm,_⟩=>⟨_,V.ref (cs[q]'(by lia)).1,SqL.of (sm _ _ (sm5 _ _ hD4)),by simp[show q<cs.length by lia]⟩) (fun _ _ H' ⟨_,sm,_⟩=>⟨_,SqL.of (sm _ _ (sm5 _ _ hD4)),by simp[hcl]⟩) ?_ ?_
   ·rintro q zs σ H' hq ⟨⟨o,rfl⟩,sm,hEv,hz⟩ x H2 ⟨e2,hx⟩;subst e2;have hql:q<cs.length:=by lia
    have hxi:=hx _ (SqL.of (sm _ _ (sm5 _ _ hD4)));rw[Zk,Z4 hql]at hxi;obtain rfl:x=V.ref cs[q].1:=(Z9 hxi).symm;walk_at "rd";have hm:=Y6 hql;refine⟨_,SqL.of (sm _ _ (sm5 _ _ (hca _ hm))),V.int (cs[q].2.getD i 0),?_,?_⟩
    ·refine ci ?_;rw[Zk,cD (hcp _ hm).2.1 (by lia)];rfl
    ·refine CK.mk hq hEv (by rw[hz,Z5,Z5,Yd];exact aH (by lia)) ⟨⟨_,rfl⟩,ac.set sm hE,aa,?_⟩;rw[hz,Yx,Zc,Zc,Z4 hql];rfl
   rintro zs σ H6 ⟨_,sm6,hE6,hz⟩;rw[Zm (by lia)]at hz;refine k7 _ _ (aB fun D8 k8 _=>?_);have sm46:=sm5.trans sm6;walk_at "rd";refine⟨.inl ⟨_,SqL.of (sm6 _ _ hR5)⟩,aP fun Kont hK=>?_⟩;walk_at "rd";refine .inl ⟨⟨_,SqL.of hE6⟩,hK _ _ fun F hF=>?_⟩;refine bC (J:=Itl K E) (n:=wd.toNat) (D:=F) (fun q ts σ H'=>(∃o,σ=[o,some (.int sh)])/\ac H6 H'/\H' F=some (.lst ts)/\ts=(((cs.take q).map (fun p=>sg (p.2.getD i 0) sh)).map sgn).map V.str)
    ⟨⟨none,rfl⟩,ac.upd hF,aa,rfl⟩
    (fun q _ _ H' hq ⟨_,sm,_⟩=>⟨_,V.int ((cs[q]'(by lia)).2.getD i 0),SqL.of (sm _ _ hE6),by rw[hz];simp[show q<cs.length by lia]⟩) (fun _ _ H' ⟨_,sm,_⟩=>⟨_,SqL.of (sm _ _ hE6),by rw[hz];simp[hcl]⟩) ?_ ?_
   ·rintro q ts σ H' hq ⟨⟨o,rfl⟩,sm,hFv,ht⟩ x H2 ⟨e2,hx⟩;subst e2;have hql:q<cs.length:=by lia
    have hxi:=hx _ (SqL.of (sm _ _ hE6));rw[hz,Zk,Zk,Z4 hql]at hxi;obtain rfl:x=V.int (cs[q].2.getD i 0):=(Z9 hxi).symm;walk_at "rd";refine⟨_,_,rfl,s0,?_⟩;refine CK.mk hq hFv (by rw[ht,Z5,Z5,Z5,Yd];exact aH (by lia)) ⟨⟨_,rfl⟩,ac.set sm hF,aa,?_⟩;rw[ht,Yx,Zc,Zc,Zc,Z4 hql];rfl
   rintro ts σ H7 ⟨_,sm7,hF7,ht⟩;rw[Zm (by lia)]at ht;walk_at "rd";refine⟨(cs.map fun p=>sg (p.2.getD i 0) sh).map sgn,by rw[<-ht];exact SqL.of hF7,?_,_,sm7 _ _ (sm6 _ _ hR5),by rw[Z5,Z5,Yb];exact aH (by lia),k8 _ _ ⟨_,_,rfl,ac.set (sm46.trans sm7) hR,?_⟩⟩
   ·rw[sr,Z5,Z5,show(Str.ofString "").length=0 from rfl]
    lia
   ·rw[aa,range_succ,Zc,Zc,show Txt.join (Str.ofString "") ((cs.map fun p=>sg (p.2.getD i 0) sh).map sgn)=Str.join (Str.ofString "") ((cs.map fun p=>sg (p.2.getD i 0) sh).map sgn)from StrLaws.glued_eq_join _ _,qZ];have e:fX (cs.map (·.2)) sh i=⟨(cs.map fun p=>sg (p.2.getD i 0) sh).toArray⟩:=by
     unfold fX;rw[Yj];rfl
    rw[<-e];rfl
  ·rintro σ H5 ⟨o7,o8,rfl,sm5,hR5⟩;refine k6 _ _ (aj fun D7 k7 _=>aP fun Kont hK=>?_);walk_at "rd";refine⟨by decide,by decide,hK _ _ fun F hF=>?_⟩;refine bC (J:=Itr 0 8) (n:=8) (D:=F) (fun q ts σ H'=>(∃o,σ=[o,some (.ref D)])/\ac H5 H'/\H' F=some (.lst ts)/\ts=(((List.range q).filter fun a:Nat=>(cs.map (·.2)).any fun c=>decide ((a:Int)∈c)).map fun a:Nat=>(a:Int)).map V.int)
    ⟨⟨none,rfl⟩,ac.upd hF,aa,rfl⟩ (fun q _ _ H' hq ⟨_,sm,_⟩=>hq) (fun _ _ H' ⟨_,sm,_⟩=>Zh _) ?_ ?_
   ·rintro q ts σ H' hq ⟨⟨o,rfl⟩,sm,hFv,ht⟩ x H2 ⟨e2,e3⟩;subst e2 e3;walk_at "rd";refine aP fun Kont hK=>?_
    walk_at "rd";have hD':=sm _ _ (sm5 _ _ hD4);refine .inl ⟨⟨_,SqL.of hD'⟩,hK _ _ fun G hG=>?_⟩;refine bC (J:=Itl K D) (n:=wd.toNat) (D:=G) (fun r zs σ H3=>(∃o,σ=[o,some (.int q)])/\ac H2 H3/\H3 G=some (.lst zs)/\zs=(cs.take r).map (fun p=>V.bl (decide ((q:Int)∈p.2))))
     ⟨⟨none,rfl⟩,ac.upd hG,aa,rfl⟩
     (fun r _ _ H3 hr' ⟨_,s3,_⟩=>⟨_,V.ref (cs[r]'(by lia)).1,SqL.of (s3 _ _ hD'),by simp[show r<cs.length by lia]⟩) (fun _ _ H3 ⟨_,s3,_⟩=>⟨_,SqL.of (s3 _ _ hD'),by simp[hcl]⟩) ?_ ?_
    ·rintro r zs σ H3 hr' ⟨⟨o,rfl⟩,s3,hGv,hz⟩ x H4' ⟨e2,hx⟩;subst e2;have hql:r<cs.length:=by lia
     have hxi:=hx _ (SqL.of (s3 _ _ hD'));rw[Zk,Z4 hql]at hxi;obtain rfl:x=V.ref cs[r].1:=(Z9 hxi).symm;have hm:=Y6 hql;walk_at "rd";refine⟨_,.inl (SqL.of (s3 _ _ (sm _ _ (sm5 _ _ (hca _ hm))))),rfl,uG _,?_⟩;rw[zf];refine CK.mk hr' hGv (by rw[hz,Z5,Yd];exact aH (by lia)) ⟨⟨_,rfl⟩,ac.set s3 hG,aa,?_⟩;rw[hz,Yx,Zc,Z4 hql];rfl
    rintro zs σ H3 ⟨_,s3,hG3,hz⟩;rw[Zm (by lia)]at hz;have hF3:=s3 _ _ hFv;walk_at "rd";refine⟨_,.inl (SqL.of hG3),rfl,by rw[hz];simp[en],?_⟩;rw[hz,uF];have any:(cs.any fun p=>decide ((q:Int)∈p.2))=(cs.map (·.2)).any fun c=>decide ((q:Int)∈c):=by rw[any_map];rfl
    rw[any];have lenT:ts.length<sizeLine:=by
     rw[ht,Z5,Z5];have:=Ya (fun a:Nat=>(cs.map (·.2)).any fun c=>decide ((a:Int)∈c)) (List.range q);rw[Yb]at this;exact aH (by lia)
    refine bw (fun hb=>?_) fun hb=>?_
    ·refine CK.mk hq hF3 lenT ⟨⟨_,rfl⟩,ac.set (sm.trans s3) hF,aa,?_⟩;rw[ht,range_succ,Zz,Zc,Zc];rw[show List.filter (fun a:Nat=>(cs.map (·.2)).any fun c=>decide ((a:Int)∈c)) [q]=[q]from by rw[filter_cons,if_pos hb];rfl];rfl
    ·refine CN.mk hq ⟨⟨_,rfl⟩,sm.trans s3,hF3,?_⟩;rw[ht,range_succ,Zz,Zc,Zc];rw[show List.filter (fun a:Nat=>(cs.map (·.2)).any fun c=>decide ((a:Int)∈c)) [q]=[]from by rw[filter_cons,if_neg hb];rfl];simp
   rintro ts σ H6 ⟨_,sm6,hF6,ht⟩;refine k7 _ _ ?_;walk_at "rd";have hcols:∀c∈cs.map (·.2),c.length=hi.toNat/\iT wild c:=fun c hc=>by
    obtain⟨p,hp,rfl⟩:=X9 hc;exact(hcp p hp).2
   have hcut:bW (drawn (cs.map (·.2)) hi.toNat sh):=pY (by lia) (by lia) (by lia) (by lia) hcols;have hR5':H5 R=some (.lst ((drawn (cs.map (·.2)) hi.toNat sh).map V.str)):=hR5;refine⟨drawn (cs.map (·.2)) hi.toNat sh,SqL.of (sm6 _ _ hR5'),?_,(show 2<=sizeLine by decide),fun p hp=>?_⟩
   ·have:=hcut.sum;have:=hcut.high;rw[show(Str.ofString "\n").length=1 from rfl]
    lia
   ·have sAll:ac H (upd H6 p (.tup [V.str (Txt.join (Str.ofString "\n") (drawn (cs.map (·.2)) hi.toNat sh)),V.ref F])):=(sH4.trans (sm5.trans sm6)).trans (ac.upd hp);refine kk p F _ (cs.map (·.2)) hi.toNat wild sAll ((sH4.trans (sm5.trans sm6)).free hp) ((sH4.trans sm5).free hF) (fun e=>by rw[e,hF6]at hp;cases hp) ?_ ?_ (by lia) (by lia) (by lia) (by lia) hcols
    ·rw[aa,show Txt.join (Str.ofString "\n") (drawn (cs.map (·.2)) hi.toNat sh)=Str.join (Str.ofString "\n") (drawn (cs.map (·.2)) hi.toNat sh)from StrLaws.glued_eq_join _ _];rfl
    ·rw[ac.upd hp F _ hF6,ht];rfl
def uI:Sp:=fun vs H Q _=>∃z:Str,vs=[.str z]/\z.length<=1000/\∀H',ac H H'->Q (.bl (nS z)) H'
def rH:Sp:=fun vs H Q _=>∃row above:Str,vs=[.str row,.str above]/\row.length<=1000/\above.length<=1000/\∀H',ac H H'->Q (.bl (dR row above)) H'
def mv(K:PySem.W.Frag):Sp:=fun vs H Q _=>∃(a:Addr) (rows:List Str),vs=[.ref a]/\SqL K H a (rows.map V.str)/\(rows.map (·.length)).sum<=3000/\(∀r∈rows,r.cps.toList.all okc=true)/\
 ∀l H' ss,ac H H'->H l=none->H' l=some (.lst (ss.map V.str))->ss.Perm (az ((bZ rows).map sgn))->PyProof.Rows.sortedS ss=true->Q (.ref l) H'
def rJ:Sp:=fun vs H Q _=>∃rows:List Str,vs=[.str (Str.join nl rows)]/\bW rows/\∀l H',ac H H'->H l=none->H' l=some (.lst (rows.map V.str))->Q (.ref l) H'
theorem gJ(z:Str)(i:Nat)(c:Nat)(h:z.cps[i]? =some c):(z.cps.toList.take i++[c])=z.cps.toList.take (i+1):=by
 have h':z.cps.toList[i]? =some c:=by simpa using h
 obtain⟨hlt,e⟩:=X6 h';rw[List.take_succ_eq_append_getElem hlt,e]
theorem xg(c d:Nat):((⟨#[c]⟩:Str)=⟨#[d]⟩)↔c=d:=by
 constructor
 ·intro h;have:(#[c]:Array Nat)= #[d]:=by injection h
  simpa using this
 ·intro h;rw[h]
theorem lF(c:Nat):((⟨#[c]⟩:Str)=Str.ofString ".")↔c=46:=xg c 46
theorem xh(T:Txt K mg):Cal P w K mg base 1 "is_row" ["row"] uI:=by
 refine T.d_is_row.cal uB (fun vs H Q E h=>?_) (fun f cdv A outer s H vs Q E hr h=>?_)
 ·obtain⟨z,rfl,_⟩:=h;rfl
 ·obtain⟨z,rfl,hz,k⟩:=h;refine⟨_,(QSs.h (am (aK (nM (qK tP tP rfl ap (cbE (bV (K:=K) rfl) rfl T.b_len PySem.boot_len rfl rfl rfl (paE rfl (vn 0 rfl Z0 rfl rfl) ah)) (gvE T.g_MOST_SIGNS rfl rfl)) (oZ (cbE (wn (K:=K) rfl rfl) rfl T.b_all boot_all rfl rfl rfl (paE rfl (fH (aE.of (show bT (af iV) ["row"] _ ["sign"] []=true from by decide +kernel)) rfl rfl (cw (K:=K) rfl (vn 0 rfl Z0 rfl rfl)) (fun _ _ _=>(au 0 (show(["sign"]:List Str).Nodup from by decide +kernel) rfl Z0 Z1)) (fun _ _ _=>j8) (fun _ _ _=>(orV (jo cL rfl (vn 0 rfl Z0 rfl rfl) (gvE T.g_AIR rfl rfl)) (oZ (jo (qO (K:=K) rfl) rfl (vn 0 rfl Z0 rfl rfl) (gvE T.g_LETTERS rfl rfl)))))) ah))))))),?_⟩;show eM _ _ [some (.str z)] H;walk_at "rd";refine⟨bQ (by lia),bw (fun h1=>bw (fun h8=>?_) fun h8=>?_) fun h1=>?_⟩
  ·refine aP fun Kont hK=>?_
   walk_at "rd";refine hK _ _ fun D hD=>?_
   refine bC (J:=Its z) (n:=z.cps.size) (D:=D) (fun i ys σ H'=>(∃o,σ=[o])/\ac H H'/\H' D=some (.lst ys)/\ys=(z.cps.toList.take i).map (fun c=>V.bl (okc c))) ⟨⟨none,rfl⟩,ac.upd hD,aa,rfl⟩
    (fun i _ _ _ hi _=>hi) (fun _ _ _ _=>Zh _) ?_ ?_
   ·rintro i ys σ H' hi ⟨⟨o,rfl⟩,sm,hl,hy⟩ x H2 ⟨e2,c,hc,rfl⟩;subst e2;have hlen:ys.length=i:=by
     rw[hy,Z5,Yd];have:z.cps.toList.length=z.cps.size:=by simp
     lia
    have hi8:i<1000:=by
     have:z.length=z.cps.size:=rfl
     lia
    have put:∀b:Bool,b=okc c->CK D z.cps.size i (fun i ys σ H'=>(∃o,σ=[o])/\ac H H'/\H' D=some (.lst ys)/\ys=(z.cps.toList.take i).map (fun c=>V.bl (okc c))) ys [some (.str ⟨#[c]⟩)] (.bl b) H2:=fun b eb=>
     CK.mk hi hl (by rw[hlen];exact aH (by lia)) ⟨⟨_,rfl⟩,ac.set sm hD,aa,by rw[eb,hy,<-gJ z i c hc,Zc];rfl⟩
    walk_at "rd";refine bw (fun hd=>put true ?_) fun hd=>put _ ?_
    ·have:=(lF c).mp (Zn hd);unfold okc;rw[Ze this,Bool.true_or]
    ·have hd: ¬ (⟨#[c]⟩:Str)=Str.ofString ".":=fun e=>hd (Ze e)
     have: ¬ c=46:=fun e=>hd ((lF c).mpr e)
     unfold okc;rw[Zg this,Bool.false_or,v9];rfl
   ·rintro ys σ H' ⟨_,sm,hl,hy⟩;walk_at "rd";refine⟨z.cps.toList.map okc,?_,?_⟩
    ·have e:z.cps.toList.take z.cps.size=z.cps.toList:=by
      apply Zm;simp
     rw[e]at hy;have:(z.cps.toList.map okc).map V.bl=ys:=by rw[hy,Yj];rfl
     rw[this];exact SqL.of hl
    ·have e:nS z=(z.cps.toList.map okc).all id:=by
      unfold nS;rw[h1,h8,all_map]
      all_goals rfl
     rw[<-e];exact k H' sm
  ·rw[Bool.not_eq_true]at h8;have e:nS z=false:=by unfold nS;rw[h8,Bool.and_false,Bool.false_and]
   rw[e]at k;exact k H (ac.refl H)
  ·rw[Bool.not_eq_true]at h1;have e:nS z=false:=by unfold nS;rw[h1,Bool.false_and,Bool.false_and]
   rw[e]at k;exact k H (ac.refl H)
noncomputable def jX(p:Nat×Nat):Bool:=!decide (p.2=46)||decide (p.1=46)
theorem qc(x y:Str)(i c d:Nat)(h1:x.cps[i]? =some c)(h2:y.cps[i]? =some d):((List.zip x.cps.toList y.cps.toList).take i++[(c,d)])=(List.zip x.cps.toList y.cps.toList).take (i+1):=by
 have h:(List.zip x.cps.toList y.cps.toList)[i]? =some (c,d):=List.getElem?_zip_eq_some.mpr ⟨by simpa using h1,by simpa using h2⟩;obtain⟨hlt,e⟩:=X6 h;rw[List.take_succ_eq_append_getElem hlt,e]
theorem lG(T:Txt K mg):Cal P w K mg base 1 "lies_beneath" ["row","above"] rH:=by
 refine T.d_lies_beneath.cal kf (fun vs H Q E h=>?_) (fun f cdv A outer s H vs Q E hr h=>?_)
 ·obtain⟨row,above,rfl,_⟩:=h;rfl
 ·obtain⟨row,above,rfl,hz1,hz2,k⟩:=h;refine⟨_,(QSs.h (ae (ifS (bu eA rfl (cbE (bV (K:=K) rfl) rfl T.b_len PySem.boot_len rfl rfl rfl (paE rfl (vn 0 rfl Z0 rfl rfl) ah)) (cbE (bV (K:=K) rfl) rfl T.b_len PySem.boot_len rfl rfl rfl (paE rfl (vn 1 rfl Z0 rfl rfl) ah)))
   (am (aK eBl))
   aU)
   (am (aK (cbE (wn (K:=K) rfl rfl) rfl T.b_all boot_all rfl rfl rfl (paE rfl (fH (aE.of (show bT (af cF) ["row","above"] _ ["high","low"] []=true from by decide +kernel)) rfl rfl (zH rfl T.b_zip rfl rfl (paE rfl (vn 1 rfl Z0 rfl rfl) (paE rfl (vn 0 rfl Z0 rfl rfl) ah))) (fun _ _ _=>(eN (K:=K) rfl rfl rfl (gsE rfl (au 0 (show(["high","low"]:List Str).Nodup from by decide +kernel) rfl Z0 Z1) (gsE rfl (au 1 (show(["high","low"]:List Str).Nodup from by decide +kernel) rfl Z0 Z1) cu)))) (fun _ _ _=>j8) (fun _ _ _=>(orV (jo eA rfl (vn 1 rfl Z0 rfl rfl) (gvE T.g_AIR rfl rfl)) (oZ (jo cL rfl (vn 0 rfl Z0 rfl rfl) (gvE T.g_AIR rfl rfl)))))) ah)))))),?_⟩
  show bg _ _ _ [some (.str row),some (.str above)] H;refine aj fun D1 k1 r1=>?_
  walk_at "rd";refine⟨bQ (by lia),bQ (by lia),bw (fun h1=>?_) fun h1=>?_⟩
  ·have h1: ¬ ((row.length:Int)=above.length):=by simpa using h1
   have e:dR row above=false:=by
    unfold dR;rw[Zg (by lia),Bool.false_and]
   rw[e]at k;exact r1 _ _ (k H (ac.refl H))
  ·have h1:row.length=above.length:=by
    have:(row.length:Int)=above.length:=by simpa using h1
    lia
   refine k1 _ _ ?_;have hsz:row.cps.size=above.cps.size:=h1;have hzl:(List.zip above.cps.toList row.cps.toList).length=above.cps.size:=by rw[length_zip];simp[hsz]
   walk_at "rd";refine aP fun Kont hK=>?_
   walk_at "rd";refine hK _ _ fun D hD=>?_
   refine bC (J:=Itz above row) (n:=above.cps.size) (D:=D) (fun i ys σ H'=>(∃o1 o2,σ=[o1,o2])/\ac H H'/\H' D=some (.lst ys)/\ys=((List.zip above.cps.toList row.cps.toList).take i).map (fun p=>V.bl (jX p))) ⟨⟨none,none,rfl⟩,ac.upd hD,aa,rfl⟩
    (fun i _ _ _ hi _=>⟨hi,by lia⟩) (fun _ _ _ _=>⟨Zh _,by lia,.inl rfl⟩) ?_ ?_
   ·rintro i ys σ H' hi ⟨⟨o1,o2,rfl⟩,sm,hl,hy⟩ x H2 ⟨c,d,TT,hc,hd,hT,rfl,rfl⟩;have hlen:ys.length=i:=by rw[hy,Z5,Yd,hzl];lia
    have hi8:i<1000:=by
     have:above.length=above.cps.size:=rfl
     lia
    have smT:ac H (upd H' TT (.tup [.str ⟨#[c]⟩,.str ⟨#[d]⟩])):=sm.trans (ac.upd hT);have hl2:upd H' TT (.tup [.str ⟨#[c]⟩,.str ⟨#[d]⟩]) D=some (.lst ys):=ac.upd hT _ _ hl;have put:∀b:Bool,b=jX (c,d)->CK D above.cps.size i (fun i ys σ H'=>(∃o1 o2,σ=[o1,o2])/\ac H H'/\H' D=some (.lst ys)/\ys=((List.zip above.cps.toList row.cps.toList).take i).map (fun p=>V.bl (jX p))) ys [some (.str ⟨#[c]⟩),some (.str ⟨#[d]⟩)] (.bl b) (upd H' TT (.tup [.str ⟨#[c]⟩,.str ⟨#[d]⟩])):=fun b eb=>
     CK.mk hi hl2 (by rw[hlen];exact aH (by lia)) ⟨⟨_,_,rfl⟩,ac.set smT hD,aa,by rw[eb,hy,<-qc above row i c d hc hd,Zc];rfl⟩
    walk_at "rd";refine⟨_,SqT.of aa,rfl,_,_,rfl,_,_,rfl,rfl,rfl,?_⟩;simp only[V.str.injEq,lF];refine bw (fun h=>put true ?_) fun h=>⟨trivial,put _ ?_⟩
    ·unfold jX;rw[h,Bool.true_or]
    ·unfold jX;rw[Bool.not_eq_true]at h;rw[h,Bool.false_or]
   ·rintro ys σ H' ⟨_,sm,hl,hy⟩;walk_at "rd";refine⟨(List.zip above.cps.toList row.cps.toList).map jX,?_,?_⟩
    ·have e:(List.zip above.cps.toList row.cps.toList).take above.cps.size=List.zip above.cps.toList row.cps.toList:=Zm (by lia);rw[e]at hy;have:((List.zip above.cps.toList row.cps.toList).map jX).map V.bl=ys:=by rw[hy,Yj];rfl
     rw[this];exact SqL.of hl
    ·have e:dR row above=((List.zip above.cps.toList row.cps.toList).map jX).all id:=by
      unfold dR;rw[Ze h1,all_map,Bool.true_and];rfl
     rw[<-e];exact k H' sm
theorem uJ(h:(rows.map (·.length)).sum<=3000):(Str.join (Str.ofString "") rows).length<=3000:=by
 have:=StrLaws.join_length_le (Str.ofString "") rows;rw[show(Str.ofString "").length=0 from rfl]at this
 lia
theorem iY(T:Txt K mg):Cal P w K mg base 1 "letters_in" ["rows"] (mv K):=by
 refine T.d_letters_in.cal mj (fun vs H Q E h=>?_) (fun f cdv A outer s H vs Q E hr h=>?_)
 ·obtain⟨a,rows,rfl,_⟩:=h;rfl
 ·obtain⟨a,rows,rfl,hs,hsum,hok,k⟩:=h;refine⟨_,(QSs.h (am (aK (cbE (mW (w:=w) rfl rfl) rfl T.b_sorted boot_sorted rfl rfl rfl (paE rfl (ctE (wv (K:=K) (w:=w) rfl rfl rfl) rfl T.b_set boot_set rfl rfl rfl (paE rfl (fH (aE.of (show bT (af dF) ["rows"] _ ["sign"] []=true from by decide +kernel)) rfl rfl (cw (K:=K) rfl (bmE (K:=K) rfl plainAttrs_str slot_str_join type_str_join (qP (K:=K) rfl) rfl rfl rfl rfl dh (paE rfl (vn 0 rfl Z0 rfl rfl) ah))) (fun _ _ _=>(au 0 (show(["sign"]:List Str).Nodup from by decide +kernel) rfl Z0 Z1)) (fun _ _ _=>(sj (bu eA rfl (vn 0 rfl Z0 rfl rfl) (gvE T.g_AIR rfl rfl)))) (fun _ _ _=>(vn 0 rfl Z0 rfl rfl))) ah)) ah))))),?_⟩;show eM _ _ [some (.ref a)] H;walk_at "rd";refine aP fun Kont hK=>?_
  walk_at "rd";refine⟨rows,hs,by rw[show(Str.ofString "").length=0 from rfl];lia,?_⟩;rw[show Txt.join (Str.ofString "") rows=Str.join (Str.ofString "") rows from StrLaws.glued_eq_join _ _];have hfew:=uJ hsum;have hlet:=mX hok;unfold bZ at hlet k
  generalize Str.join (Str.ofString "") rows=z at hfew hlet k ⊢
  refine hK _ _ fun D hD=>?_
  refine bC (J:=Its z) (n:=z.cps.size) (D:=D) (fun i ys σ H'=>(∃o,σ=[o])/\ac H H'/\H' D=some (.lst ys)/\ys=((z.cps.toList.take i).filter (fun c=>decide (c≠46))).map (fun c=>V.str (sgn c))) ⟨⟨none,rfl⟩,ac.upd hD,aa,rfl⟩
   (fun i _ _ _ hi _=>hi) (fun _ _ _ _=>Zh _) ?_ ?_
  ·rintro i ys σ H' hi ⟨⟨o,rfl⟩,sm,hl,hy⟩ x H2 ⟨e2,c,hc,rfl⟩;subst e2;have hlen:ys.length<=i:=by
    rw[hy,Z5];have:=Ya (fun c=>decide (c≠46)) (z.cps.toList.take i);rw[Yd]at this
    lia
   have hi8:i<3000:=by
    have:z.length=z.cps.size:=rfl
    lia
   walk_at "rd";simp only[lF];refine bw (fun hd=>?_) fun hd=>?_
   ·refine CK.mk hi hl (aH (by lia)) ⟨⟨_,rfl⟩,ac.set sm hD,aa,?_⟩;rw[<-gJ z i c hc,Zz,Zc,hy];have:decide (c≠46)=true:=by simpa using hd
    rw[filter_cons,this];rfl
   ·refine CN.mk hi ⟨⟨_,rfl⟩,sm,hl,?_⟩;rw[<-gJ z i c hc,Zz,Zc,hy];have:decide (c≠46)=false:=by simpa using hd
    rw[filter_cons,this];simp
  ·rintro ys σ H' ⟨_,sm,hl,hy⟩;have e:z.cps.toList.take z.cps.size=z.cps.toList:=by
    apply Zm;simp
   rw[e]at hy;walk_at "rd";have hfl:=Ya (fun c=>decide (c≠46)) z.cps.toList;have hzz:z.cps.toList.length=z.length:=by simp[Str.length]
   refine⟨(z.cps.toList.filter (fun c=>decide (c≠46))).map sgn,?_,by rw[Z5];lia,fun S hS=>⟨_,aa,?_,fun l ss hl' hp hst=>?_⟩⟩
   ·rw[Yj];have:(z.cps.toList.filter (fun c=>decide (c≠46))).map (V.str ∘ sgn)=ys:=by rw[hy];rfl
    rw[this];exact SqL.of hl
   ·have:=kW hlet
    lia
   ·have smS:ac H (upd H' S (eZ w S (az ((z.cps.toList.filter (fun c=>decide (c≠46))).map sgn)))):=sm.trans (ac.upd hS);exact k l _ ss (smS.trans (ac.upd hl')) (smS.free hl') aa hp hst
theorem jG(T:Txt K mg):Cal P w K mg base 2 "rows_of" ["text"] rJ:=by
 refine T.d_rows_of.cal fj (fun vs H Q E h=>?_) (fun f cdv A outer s H vs Q E hr h=>?_)
 ·obtain⟨rows,rfl,_⟩:=h;rfl
 ·obtain⟨rows,rfl,hcut,k⟩:=h;obtain⟨wd,w1,w2,hw⟩:=hcut.wide;have htl:=hcut.text;have hsp:=hcut.split;refine⟨_,(QSs.h (ae (ifS (fS (ef (K:=K) rfl (fun _=>rfl) (cbE (fT (K:=K) rfl) rfl T.b_isinstance boot_isinstance rfl rfl rfl (paE rfl (vn 0 rfl Z0 rfl rfl) (paE rfl (blE (v:= .ty "str") rfl T.b_str boot_str rfl rfl rfl) ah)))))
   (am eY)
   aU)
   (ae (aI 1 fj.nd rfl Z0 Z1 rfl (bmE (K:=K) rfl plainAttrs_str PySem.F.slot_str_split PySem.F.type_str_split yM rfl rfl rfl rfl (vn 0 rfl Z0 rfl rfl) (paE rfl dh ah)))
   (ae (cA PassesOwn.never rfl rfl (sk (K:=K) rfl rfl T.b_enumerate rfl (paE rfl (vn 1 rfl Z0 rfl rfl) ah)) (eN (K:=K) rfl rfl rfl (gsE rfl (au 2 fj.nd rfl Z0 Z1) (gsE rfl (au 3 fj.nd rfl Z0 Z1) cu)))
   (ae (ifS (wT (orW (bu cL rfl (vn 2 rfl Z0 rfl rfl) (gvE T.g_MOST_ROWS rfl rfl)) (j7 (fS (ef (K:=K) rfl (fun _=>rfl) (aD (xh T) hr rfl rfl rfl rfl (paE rfl (vn 3 rfl Z0 rfl rfl) ah)))))))
    (am eY)
    aU)
    (am (ifS (wT (kR (bu wl rfl (vn 2 rfl Z0 rfl rfl) ap) (iF (fS (ef (K:=K) rfl (fun _=>rfl) (aD (lG T) hr rfl rfl rfl rfl (paE rfl (vn 3 rfl Z0 rfl rfl) (paE rfl (dj (K:=K) rfl (fun _ _=>rfl) (vn 1 rfl Z0 rfl rfl) (opE pc (vn 2 rfl Z0 rfl rfl) ap)) ah))))))))
    (am eY)
    aU))))
   (ae (ifS (bu cL rfl (cbE (bV (K:=K) rfl) rfl T.b_len PySem.boot_len rfl rfl rfl (paE rfl (aD (iY T) hr rfl rfl rfl rfl (paE rfl (vn 1 rfl Z0 rfl rfl) ah)) ah)) ap)
   (am eY)
   aU)
   (am (aK (vn 1 rfl Z0 rfl rfl)))))))),?_⟩
  generalize Str.join nl rows=z at htl hsp
  show bg _ _ _ [some (.str z),none,none,none] H;refine aj fun D1 k1 _=>?_
  walk_at "rd";refine⟨.type "str",.str z,true,by rfl,AJ (k1 _ _ (aj fun D2 k2 _=>?_))⟩;walk_at "rd";refine⟨by decide,Y8 (by lia:z.length+2<=5000) (by decide),fun l hl=>k2 _ _ ?_⟩;rw[show(Str.ofString "\n")=nl from rfl,hsp];refine aj fun D3 k3 _=>av fun Kont hK=>?_
  walk_at "rd";have sml:ac H (upd H l (.lst (rows.map V.str))):=ac.upd hl;refine⟨_,SqL.of aa,hK _ _ (iJ (fun i σ H'=>∃o2 o3,σ=[some (.str z),some (.ref l),o2,o3]/\ac H H'/\H' l=some (.lst (rows.map V.str))) ⟨none,none,rfl,sml,aa⟩ (fun i σ H' _ ⟨_,_,_,_,q⟩=>SqL.of q) ?_ ?_)⟩
  ·rintro i x TT σ H' hx ⟨o2,o3,rfl,sm,hl'⟩ hT;obtain⟨r,hr1,rfl⟩:∃r,rows[i]? =some r/\x=V.str r:=by
    rw[Zk]at hx;cases e:rows[i]? with
    | none=>rw[e]at hx;cases hx
    | some r=>rw[e]at hx;exact⟨r,rfl,(Z9 hx).symm⟩
   have hilt:i<rows.length:=(X6 hr1).1;have hi40:=hcut.high;have smT:ac H (upd H' TT (.tup [.int i,.str r])):=sm.trans (ac.upd hT);have hlT:upd H' TT (.tup [.int i,.str r]) l=some (.lst (rows.map V.str)):=ac.upd hT _ _ hl';have hgT:upd H' TT (.tup [.int i,.str r]) TT=some (.tup [.int i,.str r]):=aa
   generalize upd H' TT (.tup [.int i,.str r])=HT at smT hlT hgT
   have hrl:r.length<=1000:=by
    have:r.length=wd:=hw r (Z7 hr1)
    lia
   refine⟨_,SqT.of hgT,rfl,_,_,rfl,_,_,rfl,rfl,?_⟩;show bg _ _ _ [some (.str z),some (.ref l),some (.int i),some (.str r)] HT;refine aj fun D4 k4 _=>?_
   have go:∀H2,ac HT H2->D4.nx [some (.str z),some (.ref l),some (.int i),some (.str r)] H2:=by
    intro H2 sm2;refine k4 _ _ (aB fun D5 k5 _=>?_);have fin:∀H3,ac HT H3->D5.nx [some (.str z),some (.ref l),some (.int i),some (.str r)] H3:=fun H3 sm3=>k5 _ _ ⟨_,_,rfl,smT.trans sm3,sm3 l _ hlT⟩
    walk_at "rd";refine bw (fun hp=>?_) fun _=>fin _ sm2
    have hp:0<(i:Int):=Zn hp;obtain⟨i',rfl⟩:∃i',i=i'+1:=⟨i-1,by lia⟩
    have hi':i'<rows.length:=by lia
    have hr0:rows[i']? =some rows[i']:=by simp[hi']
    have e1:(((i'+1:Nat):Int) -1)=(i':Int):=by lia
    refine⟨_,SqL.of (sm2 l _ hlT),.str rows[i'],by rw[e1];exact ci (by simp[hi']),r,rows[i'],rfl,hrl,?_,fun H3 sm3=>⟨_,rfl,?_⟩⟩
    ·have:rows[i'].length=wd:=hw _ (Y6 hi')
     lia
    ·rw[hcut.beneath hr0 hr1];exact AJ (fin _ (sm2.trans sm3))
   walk_at "rd";rw[if_neg (by simp;lia)];refine⟨r,rfl,hrl,fun H2 sm2=>⟨_,rfl,?_⟩⟩;rw[hcut.row (Z7 hr1)];exact AJ (go H2 sm2)
  ·rintro σ H' ⟨o2,o3,rfl,sm,hl'⟩;refine k3 _ _ ?_;walk_at "rd";refine⟨l,rows,rfl,SqL.of hl',by have:=hcut.sum;lia,hcut.sign,fun l2 H2 ss sm2 hf2 hl2 hp hst=>⟨_,.inl ⟨_,SqL.of hl2,rfl⟩,?_⟩⟩;rw[if_neg]
   ·exact k l H2 (sm.trans sm2) hl (sm2 l _ hl')
   ·intro h0;have h0:=Zn h0;rw[Z5]at h0;have:ss=[]:=length_eq_zero_iff.mp (by lia);rw[this]at hp;have hm:=hp.symm.eq_nil;obtain⟨c,hc⟩:=List.exists_mem_of_ne_nil _ hcut.signs_ne;have:sgn c∈az ((bZ rows).map sgn):=bn.mpr (Xa ⟨c,hc,rfl⟩);rw[hm]at this;cases this
noncomputable def ni(p:Nat×Nat):Option (List Str):=if p.1≠46/\p.1≠p.2 then some [sgn p.1,sgn p.2]else none
noncomputable def ip(u r:Str):List (List Str):=(List.zip u.cps.toList r.cps.toList).filterMap ni
theorem gh(H:Hp):aT H []:=fun p hp=>by cases hp
theorem aQ(h:aT H ps)(s:∀b z,H b=some (.tup z)->H' b=some (.tup z)):aT H' ps:=fun p hp=>⟨(h p hp).1,s _ _ (h p hp).2⟩
theorem gK(h:aT H ps)(h1:q.2≠[])(h2:H q.1=some (.tup (q.2.map V.str))):aT H (ps++[q]):=fun p hp=>by
 rcases X7 hp with z|z
 ·exact h p z
 ·rw[X8 z];exact⟨h1,h2⟩
theorem qd(h1:aT H ps)(h2:aT H qs):aT H (ps++qs):=fun p hp=>(X7 hp).elim (h1 p) (h2 p)
def Cd:Sp:=fun vs H Q _=>∃u r:Str,vs=[.str u,.str r]/\u.length<=40/\r.length=u.length/\∀l H' ps,ac H H'->H l=none->H' l=some (.lst (ps.map fun p:Addr×List Str=>V.ref p.1))->aT H' ps->ps.map (·.2)=ip u r->Q (.ref l) H'
def zg:Sp:=fun vs H Q _=>∃rows:List Str,vs=[.str (Str.join nl rows)]/\bW rows/\∀l H' ss,ac H H'->H l=none->H' l=some (.lst (ss.map V.str))->ss.Perm (az ((bZ rows).map sgn))->PyProof.Rows.sortedS ss=true->Q (.ref l) H'
theorem uK(T:Txt K mg):Cal P w K mg base 3 "letters" ["text"] zg:=by
 refine T.d_letters.cal rE (fun vs H Q E h=>?_) (fun f cdv A outer s H vs Q E hr h=>?_)
 ·obtain⟨rows,rfl,_⟩:=h;rfl
 ·obtain⟨rows,rfl,hcut,kk⟩:=h;refine⟨_,(QSs.h (am (aK (aD (iY T) hr rfl rfl rfl rfl (paE rfl (aD (jG T) hr rfl rfl rfl rfl (paE rfl (vn 0 rfl Z0 rfl rfl) ah)) ah))))),?_⟩;show eM _ _ [some (.str (Str.join nl rows))] H;walk_at "rd";refine⟨rows,rfl,hcut,fun l H1 s1 f1 h1=>⟨l,rows,rfl,SqL.of h1,by have:=hcut.sum;lia,hcut.sign,fun l2 H2 ss s2 f2 h2 p2 q2=>kk l2 H2 ss (s1.trans s2) (s1.free f2) h2 p2 q2⟩⟩
theorem iq(T:Txt K mg):Cal P w K mg base 1 "meetings_between" ["above","row"] Cd:=by
 refine T.d_meetings_between.cal gU (fun vs H Q E h=>?_) (fun f cdv A outer s H vs Q E hr h=>?_)
 ·obtain⟨u,r,rfl,_⟩:=h;rfl
 ·obtain⟨u,r,rfl,hu,hru,kk⟩:=h;have hus:u.length=u.cps.size:=rfl;have hrs:r.length=r.cps.size:=rfl;refine⟨_,(QSs.h (am (aK (fH (aE.of (show bT (af bK) ["above","row"] _ ["high","low"] []=true from by decide +kernel)) rfl rfl (zH rfl T.b_zip rfl rfl (paE rfl (vn 0 rfl Z0 rfl rfl) (paE rfl (vn 1 rfl Z0 rfl rfl) ah))) (fun _ _ _=>(eN (K:=K) rfl rfl rfl (gsE rfl (au 0 (show(["high","low"]:List Str).Nodup from by decide +kernel) rfl Z0 Z1) (gsE rfl (au 1 (show(["high","low"]:List Str).Nodup from by decide +kernel) rfl Z0 Z1) cu)))) (fun _ _ _=>(sj (wT (kR (bu eA rfl (vn 0 rfl Z0 rfl rfl) (gvE T.g_AIR rfl rfl)) (iF (bu eA rfl (vn 0 rfl Z0 rfl rfl) (vn 1 rfl Z0 rfl rfl))))))) (fun _ _ _=>(gR (paE rfl (vn 0 rfl Z0 rfl rfl) (paE rfl (vn 1 rfl Z0 rfl rfl) ah)))))))),?_⟩;show eM _ _ [some (.str u),some (.str r)] H;walk_at "rd";refine aP fun Kont hK=>?_
  walk_at "rd";refine hK _ _ fun D hD=>?_
  refine bC (J:=Itz u r) (n:=u.cps.size) (D:=D) (fun i ys σ H'=>(∃o1 o2,σ=[o1,o2])/\ac H H'/\H' D=some (.lst ys)/\ys.length<=i/\∃ps:List (Addr×List Str),ys=ps.map (fun p=>V.ref p.1)/\aT H' ps/\ps.map (·.2)=((List.zip u.cps.toList r.cps.toList).take i).filterMap ni)
   ⟨⟨none,none,rfl⟩,ac.upd hD,aa,Zh _,[],rfl,gh _,rfl⟩ (fun i _ _ _ hi _=>⟨hi,by lia⟩) (fun _ _ _ _=>⟨Zh _,by lia,.inl rfl⟩) ?_ ?_
  ·rintro i ys σ H' hi ⟨⟨o1,o2,rfl⟩,sm,hl,hlen,ps,hy,tps,hks⟩ x H2 ⟨c,d,TT,hc,hd,hT,rfl,rfl⟩;have smT:=ac.upd (o:= .tup [.str ⟨#[c]⟩,.str ⟨#[d]⟩]) hT;have nx:=qc u r i c d hc hd;have hl2:=smT _ _ hl;have hgT:upd H' TT (.tup [.str ⟨#[c]⟩,.str ⟨#[d]⟩]) TT=some (.tup [.str ⟨#[c]⟩,.str ⟨#[d]⟩]):=aa;have tps2:aT (upd H' TT (.tup [.str ⟨#[c]⟩,.str ⟨#[d]⟩])) ps:=fun p hp=>⟨(tps p hp).1,smT _ _ (tps p hp).2⟩
   have sm2:=sm.trans smT
   generalize upd H' TT (.tup [.str ⟨#[c]⟩,.str ⟨#[d]⟩])=HT at smT hl2 hgT tps2 sm2
   refine⟨_,SqT.of hgT,rfl,_,_,rfl,_,_,rfl,rfl,?_⟩;show xS _ _ [some (.str ⟨#[c]⟩),some (.str ⟨#[d]⟩)] HT _;walk_at "rd";simp only[lF,xg];have hDT:D≠TT:=fun e=>by rw[e,hgT]at hl2;cases hl2
   refine bw (fun h1=>bw (fun h2=>?_) fun h2=>?_) fun h1=>?_
   ·have h1:c≠46:=by simpa using h1
    have h2:c≠d:=by simpa using h2
    refine⟨show 2<=sizeLine from by decide,fun p hp=>?_⟩;have smp:=ac.upd (o:= .tup [V.str ⟨#[c]⟩,V.str ⟨#[d]⟩]) hp;have hDp:p≠D:=fun e=>by rw[e,hl2]at hp;cases hp
    refine CK.mk hi (smp _ _ hl2) (aH (by lia)) ⟨⟨_,_,rfl⟩,ac.set (sm2.trans smp) hD,aa,by rw[Z8,Yc];lia,ps++[(p,[sgn c,sgn d])],by rw[hy,Zc];rfl,?_,?_⟩
    ·have keep:∀b z,upd HT p (.tup [V.str ⟨#[c]⟩,V.str ⟨#[d]⟩]) b=some (.tup z)->upd (upd HT p (.tup [V.str ⟨#[c]⟩,V.str ⟨#[d]⟩])) D (.lst (ys++[V.ref p])) b=some (.tup z):=fun b z e=>by
      have:b≠D:=fun e2=>by rw[e2,smp _ _ hl2]at e;cases e
      rw[ai this];exact e
     exact aQ (gK (aQ tps2 fun b z e=>smp _ _ e) (by simp) (by rw[aa];rfl)) keep
    ·rw[Zc,hks,<-nx,List.filterMap_append];have:ni (c,d)=some [sgn c,sgn d]:=if_pos ⟨h1,h2⟩;rw[Zy,this];rfl
   ·have h2:c=d:=by simpa using h2
    refine CN.mk hi ⟨⟨_,_,rfl⟩,sm2,hl2,by lia,ps,hy,tps2,?_⟩;rw[hks,<-nx,List.filterMap_append];have:ni (c,d)=none:=if_neg fun q=>q.2 h2
    rw[Zy,this];simp
   ·have h1:c=46:=by simpa using h1
    refine CN.mk hi ⟨⟨_,_,rfl⟩,sm2,hl2,by lia,ps,hy,tps2,?_⟩;rw[hks,<-nx,List.filterMap_append];have:ni (c,d)=none:=if_neg fun q=>q.1 h1
    rw[Zy,this];simp
  ·rintro ys σ H' ⟨_,sm,hl,hlen,ps,hy,tps,hks⟩;rw[Zm (by rw[length_zip];simp;lia)]at hks;exact kk D H' ps sm hD (by rw[hl,hy]) tps hks
theorem xi{K:PySem.W.Frag}{xs ys:List V}{g:TG}{tb:TS}{D:jb}(Pv:Nat->St->Hp->Prop)(h0:Pv 0 σ H)(hle:ys.length<=xs.length)(hl:∀i σ H,i<=ys.length->Pv i σ H->SqL K H a xs/\SqL K H b ys)
 (hs:∀i x y T σ H,xs[i]? =some x->ys[i]? =some y->Pv i σ H->H T=none->g (.ref T) σ (upd H T (.tup [x,y])) fun σ2 H2=>tb {D with nx:=Pv (i+1),ct:=Pv (i+1),bk:=D.nx} σ2 H2) (hd:∀σ H,Pv ys.length σ H->D.nx σ H):
 ∃W:Nat->Nat->St->Hp->Prop,(∃m,W 0 m σ H)/\∀i m σ H,W i m σ H->
  ((ug K a b).stop i H/\D.nx σ H)\/((ug K a b).go i H/\∃N:St->Hp->Prop,(∀σ' H',N σ' H'->∃m',m'<m/\W (i+1) m' σ' H')/\∀x H',(ug K a b).yld i H x H'->g x σ H' fun σ2 H2=>tb {D with nx:=N,ct:=N,bk:=D.nx} σ2 H2):=by
 refine⟨fun i m σ H=>m=ys.length-i/\i<=ys.length/\Pv i σ H,⟨ys.length,by simp,X0 _,h0⟩,?_⟩;rintro i m σ H ⟨rfl,hi,p⟩;obtain⟨q1,q2⟩:=hl i σ H hi p;by_cases hlt:i<ys.length
 ·have hx:xs[i]? =some xs[i]:=by simp[show i<xs.length by lia]
  have hy:ys[i]? =some ys[i]:=by simp[hlt]
  refine .inr ⟨⟨xs,ys,_,_,q1,q2,hx,hy⟩,Pv (i+1),fun σ' H' p'=>⟨ys.length-(i+1),by lia,rfl,hlt,p'⟩,fun v H' y=>?_⟩;obtain⟨T,x',y',hT,rfl,rfl,e1,e2⟩:=y;have e1:=e1 xs q1;have e2:=e2 ys q2;exact hs i x' y' T σ H e1 e2 p hT
 ·have e:i=ys.length:=by lia
  subst e;exact .inl ⟨⟨xs,ys,q1,q2,by lia,Zh _,.inr rfl⟩,hd σ H p⟩
noncomputable def gM(rows:List Str)(i:Nat):List (List Str):=(List.range i).flatMap fun j=>ip (rows.getD j ⟨#[]⟩) (rows.getD (j+1) ⟨#[]⟩)
theorem ot(rows:List Str)(i:Nat):gM rows (i+1)=gM rows i++ip (rows.getD i ⟨#[]⟩) (rows.getD (i+1) ⟨#[]⟩):=by
 unfold gM;rw[range_succ,List.flatMap_append];simp
theorem rK(u r:Str):(ip u r).length<=u.length:=by
 unfold ip;refine Y8 (List.length_filterMap_le _ _) ?_;rw[length_zip];have:u.cps.toList.length=u.length:=by simp[Str.length]
 lia
theorem uL(h:k∈gM rows (rows.length-1)):∃a b,k=[sgn a,sgn b]/\zc rows a b:=by
 unfold gM at h;obtain⟨j,hj,hk⟩:=mem_flatMap.mp h;have gd:∀j (h:j<rows.length),rows.getD j ⟨#[]⟩=rows[j]:=fun j h=>by simp[Zb,h]
 have hj:=mem_range.mp hj;unfold ip at hk;obtain⟨⟨a,b⟩,hp,e⟩:=mem_filterMap.mp hk;unfold ni at e
 split at e
 ·rename_i h
  obtain⟨q,hq⟩:=X1 hp;rw[List.getElem?_zip_eq_some,gd j (by lia),gd (j+1) (by lia)]at hq;exact⟨a,b,(Z9 e).symm,h.1,h.2,j,q,rows[j],rows[j+1],Z4 _,Z4 _,by simpa using hq.1,by simpa using hq.2⟩
 ·cases e
theorem uM(hc:bW rows)(h:zc rows a b):Let rows a/\Let rows b:=by
 obtain⟨n1,n2,i,j,r,r',e1,e2,g1,g2⟩:=h;refine⟨⟨n1,r,Z7 e1,Z7 (i:=j) (by simpa using g1)⟩,fun e=>n1 (hc.fall i r r' e1 e2 j a b g1 g2 e),r',Z7 e2,Z7 (i:=j) (by simpa using g2)⟩
theorem uN(rows:List Str)(h:rows≠[]):lS (rows.map V.str) (some 1) none=(rows.drop 1).map V.str:=by
 unfold lS;have h1:1<=rows.length:=List.length_pos_iff.mpr h;rw[HT.sIx_none,show(some (1:Int))=some ((1:Nat):Int)from rfl,HT.sIx_nat,Z5,Nat.min_eq_left h1,<-map_drop,<-map_take]
 congr 1
 rw[Zm (by rw[Y9];exact Zh _)]
def zh:Sp:=fun vs H Q _=>∃rows:List Str,vs=[.str (Str.join nl rows)]/\bW rows/\uz rows/\∀l H' (ss:List (Addr×List Str)),ac H H'->H l=none->H' l=some (.lst (ss.map fun p=>V.ref p.1))->aT H' ss->ss.length<=14->
 (∀t∈ss,∃a b,t.2=[sgn a,sgn b]/\Let rows a/\Let rows b)->Q (.ref l) H'
theorem rL(T:Txt K mg):Cal P w K mg base 3 "meetings" ["text"] zh:=by
 refine T.d_meetings.cal dn (fun vs H Q E h=>?_) (fun f cdv A outer s H vs Q E hr h=>?_)
 ·obtain⟨rows,rfl,_⟩:=h;rfl
 ·obtain⟨rows,rfl,hcut,⟨mm,ml,mm0⟩,kk⟩:=h;obtain⟨wd,w1,w2,hwd⟩:=hcut.wide;have hp:1<=rows.length:=hcut.pos;have hi40:=hcut.high;have hne:rows≠[]:=List.length_pos_iff.mp hp;refine⟨_,(QSs.h (ae (aI 1 dn.nd rfl Z0 Z1 rfl (aD (jG T) hr rfl rfl rfl rfl (paE rfl (vn 0 rfl Z0 rfl rfl) ah)))
   (ae (aI 2 dn.nd rfl Z0 Z1 rfl (cz ah))
   (ae (cA PassesOwn.never rfl rfl (B7 (K:=K) rfl rfl T.b_zip rfl rfl (paE rfl (vn 1 rfl Z0 rfl rfl) (paE rfl (slE (K:=K) rfl (vn 1 rfl Z0 rfl rfl) (oY ap) noO) ah))) (eN (K:=K) rfl rfl rfl (gsE rfl (au 3 dn.nd rfl Z0 Z1) (gsE rfl (au 4 dn.nd rfl Z0 Z1) cu)))
   (am (bD rfl (bmE (K:=K) rfl plainAttrs_list PySem.F.slot_list_extend PySem.F.type_list_extend pd rfl rfl rfl rfl (vn 2 rfl Z0 rfl rfl) (paE rfl (aD (iq T) hr rfl rfl rfl rfl (paE rfl (vn 3 rfl Z0 rfl rfl) (paE rfl (vn 4 rfl Z0 rfl rfl) ah))) ah)))))
   (am (aK (cbE (m7 (P:=P) (w:=w) rfl rfl rfl) rfl T.b_sorted boot_sorted rfl rfl rfl (paE rfl (ctE (wJ (K:=K) (P:=P) (w:=w) rfl rfl rfl rfl hr) rfl T.b_set boot_set rfl rfl rfl (paE rfl (vn 2 rfl Z0 rfl rfl) ah)) ah)))))))),?_⟩
  show bg _ _ _ [some (.str (Str.join nl rows)),none,none,none,none] H;refine aj fun D1 k1 r1=>?_
  walk_at "rd";refine⟨rows,rfl,hcut,fun R H1 s1 f1 hR=>k1 _ _ (aj fun D2 k2 r2=>?_)⟩;walk_at "rd";refine⟨X0 _,fun L hL=>k2 _ _ (aj fun D3 k3 r3=>av fun Kont hK=>?_)⟩;have s2:=ac.upd (o:= .lst []) hL;have hR2:=s2 _ _ hR;have hLz:upd H1 L (.lst []) L=some (.lst []):=aa;have fL:H L=none:=s1.free hL;have s12:=s1.trans s2
  generalize upd H1 L (.lst [])=H2 at s2 hR2 hLz s12
  walk_at "rd";refine .inl ⟨_,SqL.of hR2,fun p hp=>?_⟩;rw[uN rows hne];have s3:=ac.upd (o:= .lst ((rows.drop 1).map V.str)) hp;have hR3:=s3 _ _ hR2;have hL3:=s3 _ _ hLz;have hP3:upd H2 p (.lst ((rows.drop 1).map V.str)) p=some (.lst ((rows.drop 1).map V.str)):=aa;have s13:=s12.trans s3;have hLR:L≠R:=fun e=>by rw[e,hR]at hL;cases hL
  have hpL:p≠L:=fun e=>by rw[e,hLz]at hp;cases hp
  generalize upd H2 p (.lst ((rows.drop 1).map V.str))=H3 at s3 hR3 hL3 hP3 s13
  refine⟨⟨_,SqL.of hR3⟩,⟨_,SqL.of hP3⟩,hK _ _ (xi (xs:=rows.map V.str) (ys:=(rows.drop 1).map V.str) (fun i σ H'=>(∃o3 o4,σ=[some (.str (Str.join nl rows)),some (.ref R),some (.ref L),o3,o4])/\ac H H'/\H' R=some (.lst (rows.map V.str))/\H' p=some (.lst ((rows.drop 1).map V.str))/\
   ∃ps:List (Addr×List Str),H' L=some (.lst (ps.map fun q=>V.ref q.1))/\aT H' ps/\ps.map (·.2)=gM rows i/\ps.length<=40*i) ⟨⟨none,none,rfl⟩,s13,hR3,hP3,[],hL3,gh _,rfl,X0 _⟩ (by rw[Z5,Z5,Y9];lia) (fun i σ H' _ q=>⟨SqL.of q.2.2.1,SqL.of q.2.2.2.1⟩) ?_ ?_)⟩
  ·rintro i x y TT σ H' hx hy ⟨⟨o3,o4,rfl⟩,sm,hR',hP',ps,hL',tps,hks,hlen⟩ hT;rw[Zk]at hx hy;obtain⟨u,hu,rfl⟩:=map_eq_some_iff.mp hx;obtain⟨r,hr',rfl⟩:=map_eq_some_iff.mp hy;rw[getElem?_drop,Nat.add_comm]at hr';have hil:i+1<rows.length:=(X6 hr').1;have ul:u.length=wd:=hwd u (Z7 hu);have rl:r.length=wd:=hwd r (Z7 hr');have smT:=ac.upd (o:= .tup [V.str u,V.str r]) hT;have hgT:upd H' TT (.tup [V.str u,V.str r]) TT=some (.tup [V.str u,V.str r]):=aa;have hRT:=smT _ _ hR';have hPT:=smT _ _ hP';have hLT:=smT _ _ hL';have tpsT:aT (upd H' TT (.tup [V.str u,V.str r])) ps:=aQ tps fun b z e=>smT _ _ e
   have smH:=sm.trans smT
   generalize upd H' TT (.tup [V.str u,V.str r])=HT at smT hgT hRT hPT hLT tpsT smH
   refine⟨_,SqT.of hgT,rfl,_,_,rfl,_,_,rfl,rfl,?_⟩;refine aB fun D4 k4 r4=>?_
   walk_at "rd";refine⟨.inl ⟨_,SqL.of hLT⟩,u,r,rfl,by lia,by lia,fun l4 H4 ps4 s4 f4 h4 tps4 e4=>?_⟩;have l4L:l4≠L:=fun e=>by rw[e,hLT]at f4;cases f4
   have len4:ps4.length<=40:=by
    have:(ps4.map (·.2)).length=(ip u r).length:=by rw[e4]
    rw[Z5]at this;have:=rK u r
    lia
   refine⟨_,rfl,_,s4 _ _ hLT,_,h4,by rw[Z5,Z5];exact bQ (by lia),k4 _ _ ?_⟩;have keepT:∀b z,H4 b=some (.tup z)->upd H4 L (.lst ((ps.map fun q=>V.ref q.1) ++ps4.map fun q=>V.ref q.1)) b=some (.tup z):=fun b z e=>by
    have:b≠L:=fun e2=>by rw[e2,s4 _ _ hLT]at e;cases e
    rw[ai this];exact e
   have hRL:R≠L:=Ne.symm hLR;refine⟨⟨_,_,rfl⟩,fun b u' e=>?_,by rw[ai hRL];exact s4 _ _ hRT,by rw[ai hpL];exact s4 _ _ hPT,ps++ps4,by rw[aa,Zc],aQ (qd (aQ tpsT fun b z e=>s4 _ _ e) tps4) keepT,?_,by rw[Z8];lia⟩
   ·rw[ai (aq e fL)];exact s4 _ _ (smH _ _ e)
   ·rw[Zc,hks,e4,ot];have g1:rows.getD i ⟨#[]⟩=u:=by rw[Zb,hu];rfl
    have g2:rows.getD (i+1) ⟨#[]⟩=r:=by rw[Zb,hr'];rfl
    rw[g1,g2]
  ·rintro σ H' ⟨⟨o3,o4,rfl⟩,sm,hR',hP',ps,hL',tps,hks,hlen⟩;rw[Z5,Y9]at hks;refine k3 _ _ ?_;walk_at "rd";have inU:∀q∈ps,∃a b,q.2=[sgn a,sgn b]/\zc rows a b:=fun q hq=>uL (by rw[<-hks];exact Xa ⟨q,hq,rfl⟩)
   have inM:∀q∈ps,q.2∈mm:=fun q hq=>by
    obtain⟨a,b,e,h⟩:=inU q hq;rw[e];exact mm0 a b h
   refine⟨ps,SqL.of hL',tps,⟨mm,by lia,inM⟩,fun l5 hl5=>?_⟩;have s5:=ac.upd (o:=jW P w l5 (aL ps)) hl5;have few:(aL ps).length<=14:=by
    have:=STab.nodup_sub (c8 ps) (m:=mm) fun k hk=>by
     obtain⟨q,hq,rfl⟩:=X9 hk;exact inM q (aZ ps q hq)
    rw[Z5]at this
    lia
   refine⟨aL ps,aa,fun q hq=>⟨(tps q (aZ ps q hq)).1,s5 _ _ (tps q (aZ ps q hq)).2⟩,2,fun q hq=>?_,by decide,by lia,fun l6 ss hl6 pm so=>?_⟩
   ·obtain⟨a,b,e,_⟩:=inU q (aZ ps q hq);rw[e];rfl
   have s6:=ac.upd (o:= .lst (ss.map fun q=>V.ref q.1)) hl6;refine kk l6 _ ss ((sm.trans s5).trans s6) ((sm.trans s5).free hl6) aa (fun q hq=>?_) (by rw[pm.length_eq];exact few) fun q hq=>?_
   ·have:=tps q (aZ ps q (pm.mem_iff.mp hq));exact⟨this.1,s6 _ _ (s5 _ _ this.2)⟩
   ·obtain⟨a,b,e,h⟩:=inU q (aZ ps q (pm.mem_iff.mp hq));exact⟨a,b,e,uM hcut h⟩
noncomputable def iZ(z:Str):Bool:=(decide (1<=(z.length:Int))&&decide ((z.length:Int)<=8))&&z.cps.toList.all fV
def rN:Sp:=fun vs H Q _=>∃z:Str,vs=[.str z]/\iZ z=true/\∀H',ac H H'->Q (.bl true) H'
def xj(K:PySem.W.Frag):Sp:=fun vs H Q _=>∃(z:Str) (p:Addr) (ts:List Str),vs=[.str z,.ref p]/\(SqL K H p (ts.map V.str)\/SqT K H p (ts.map V.str))/\Q (.bl (decide (z∈ts))) H
def rO:Sp:=fun vs H Q _=>∃i:Int,vs=[.int i]/\ -9999<=i/\i<=9999/\Q (.bl true) H
def no(ls:List Str)(vs:List V):Prop:=
 (∃w a b:Str,vs=[.str w,.str a,.str b]/\(w="later"\/w="same")/\a∈ls/\b∈ls/\a≠b)\/
 ∃(w a:Str) (y:Int),vs=[.str w,.str a,.int y]/\(w="since"\/w="by")/\a∈ls/\ -9999<=y/\y<=9999
def ou(K:PySem.W.Frag):Sp:=fun vs H Q _=>∃(t p:Addr) (xs:List V) (ls:List Str),vs=[.ref t,.ref p]/\H t=some (.tup xs)/\SqL K H p (ls.map V.str)/\no ls xs/\Q (.bl true) H
noncomputable def lnS(n z:Str):Str:=Str.empty++n++Str.ofString "."++z
def mw:Sp:=fun vs H Q _=>∃n z:Str,vs=[.str n,.str z]/\n.length<=100/\z.length<=100/\Q (.str (lnS n z)) H
theorem sH(z:Str)(ts:List Str):inV (V.str z) (ts.map V.str)=decide (z∈ts):=by
 unfold inV;rw[any_map]
 induction ts with
 | nil=>rfl
 | cons c r ih=>
   rw[Zv,ih];show((c==z)||_)=_;by_cases h:c=z
   ·subst h;simp
   ·have:z≠c:=fun e=>h e.symm
    simp[h,this]
theorem uO(ts:List Str):(ts.map V.str).all en=true:=by simp[en]
theorem uP(T:Txt K mg):Cal P w K mg base 1 "is_name" ["thing"] rN:=by
 refine T.d_is_name.cal rD (fun vs H Q E h=>?_) (fun f cdv A outer s H vs Q E hr h=>?_)
 ·obtain⟨x,rfl,_⟩:=h;rfl
 ·obtain⟨z,rfl,hn,k⟩:=h;refine⟨_,(QSs.h (ae (ifS (fS (ef (K:=K) rfl (fun _=>rfl) (cbE (fT (K:=K) rfl) rfl T.b_isinstance boot_isinstance rfl rfl rfl (paE rfl (vn 0 rfl Z0 rfl rfl) (paE rfl (blE (v:= .ty "str") rfl T.b_str boot_str rfl rfl rfl) ah)))))
   (am (aK eBl))
   aU)
   (am (aK (nM (qK tP tP rfl ap (cbE (bV (K:=K) rfl) rfl T.b_len PySem.boot_len rfl rfl rfl (paE rfl (vn 0 rfl Z0 rfl rfl) ah)) (gvE T.g_LONGEST_NAME rfl rfl)) (oZ (cbE (wn (K:=K) rfl rfl) rfl T.b_all boot_all rfl rfl rfl (paE rfl (fH (aE.of (show bT (af gH) ["thing"] _ ["sign"] []=true from by decide +kernel)) rfl rfl (cw (K:=K) rfl (vn 0 rfl Z0 rfl rfl)) (fun _ _ _=>(au 0 (show(["sign"]:List Str).Nodup from by decide +kernel) rfl Z0 Z1)) (fun _ _ _=>j8) (fun _ _ _=>(jo (qO (K:=K) rfl) rfl (vn 0 rfl Z0 rfl rfl) (gvE T.g_LETTERS rfl rfl)))) ah)))))))),?_⟩
  show bg _ _ _ [some (.str z)] H;have hn':=hn;unfold iZ at hn';rw[Zu,Zu]at hn';obtain⟨⟨h1,h8⟩,hall⟩:=hn';have hz:z.length<=8:=by have:=Zn h8;lia
  walk_at "rd";refine⟨.type "str",.str z,true,by rfl,?_⟩;walk_at "rd";refine⟨bQ (by lia),?_⟩;rw[if_pos h1,if_pos h8];refine aP fun Kont hK=>?_
  walk_at "rd";refine hK _ _ fun D hD=>?_
  refine bC (J:=Its z) (n:=z.cps.size) (D:=D) (fun i ys σ H'=>(∃o,σ=[o])/\ac H H'/\H' D=some (.lst ys)/\ys=(z.cps.toList.take i).map (fun c=>V.bl (fV c))) ⟨⟨none,rfl⟩,ac.upd hD,aa,rfl⟩
   (fun i _ _ _ hi _=>hi) (fun _ _ _ _=>Zh _) ?_ ?_
  ·rintro i ys σ H' hi ⟨⟨o,rfl⟩,sm,hl,hy⟩ x H2 ⟨e2,c,hc,rfl⟩;subst e2;walk_at "rd";have hlen:ys.length=i:=by
    rw[hy,Z5,Yd];have:z.cps.toList.length=z.cps.size:=by simp
    lia
   have hi8:i<1000:=by
    have:z.length=z.cps.size:=rfl
    lia
   refine CK.mk hi hl (by rw[hlen];exact aH (by lia)) ⟨⟨_,rfl⟩,ac.set sm hD,aa,?_⟩;rw[v9,hy,<-gJ z i c hc,Zc]
   all_goals rfl
  ·rintro ys σ H' ⟨_,sm,hl,hy⟩;refine⟨D,rfl,(z.cps.toList.map fV),?_,?_⟩
   ·have e:z.cps.toList.take z.cps.size=z.cps.toList:=by
     apply Zm;simp
    rw[e]at hy;have:(z.cps.toList.map fV).map V.bl=ys:=by rw[hy,Yj];rfl
    rw[this];exact SqL.of hl
   ·have e:(z.cps.toList.map fV).all id=true:=by
     rw[all_map];exact hall
    rw[e];exact k H' sm
theorem bR(T:Txt K mg):Cal P w K mg base 1 "is_text_among" ["thing","texts"] (xj K):=by
 refine T.d_is_text_among.cal jC (fun vs H Q E h=>?_) (fun f cdv A outer s H vs Q E hr h=>?_)
 ·obtain⟨z,p,ts,rfl,_⟩:=h;rfl
 ·obtain⟨z,p,ts,rfl,hp,k⟩:=h;refine⟨_,(QSs.h (am (aK (nM (cbE (fT (K:=K) rfl) rfl T.b_isinstance boot_isinstance rfl rfl rfl (paE rfl (vn 0 rfl Z0 rfl rfl) (paE rfl (blE (v:= .ty "str") rfl T.b_str boot_str rfl rfl rfl) ah))) (oZ (jo (qO (K:=K) rfl) rfl (vn 0 rfl Z0 rfl rfl) (vn 1 rfl Z0 rfl rfl))))))),?_⟩;show eM _ _ [some (.str z),some (.ref p)] H;walk_at "rd";refine⟨.type "str",.str z,true,by rfl,?_⟩;walk_at "rd";rw[<-sH]at k;exact⟨_,hp,rfl,uO ts,k⟩
theorem uQ(T:Txt K mg):Cal P w K mg base 1 "is_year" ["thing"] rO:=by
 refine T.d_is_year.cal rF (fun vs H Q E h=>?_) (fun f cdv A outer s H vs Q E hr h=>?_)
 ·obtain⟨i,rfl,_⟩:=h;rfl
 ·obtain⟨i,rfl,h1,h2,k⟩:=h;refine⟨_,(QSs.h (ae (ifS (wT (orW (fS (ef (K:=K) rfl (fun _=>rfl) (cbE (fT (K:=K) rfl) rfl T.b_isinstance boot_isinstance rfl rfl rfl (paE rfl (vn 0 rfl Z0 rfl rfl) (paE rfl (blE (v:= .ty "int") rfl T.b_int boot_int rfl rfl rfl) ah))))) (j7 (ef (K:=K) rfl (fun _=>rfl) (cbE (fT (K:=K) rfl) rfl T.b_isinstance boot_isinstance rfl rfl rfl (paE rfl (vn 0 rfl Z0 rfl rfl) (paE rfl (blE (v:= .ty "bool") rfl T.b_bool PyProof.Rows.boot_bool rfl rfl rfl) ah)))))))
   (am (aK eBl))
   aU)
   (am (aK (qK tP tP rfl (gvE T.g_FIRST_YEAR rfl rfl) (vn 0 rfl Z0 rfl rfl) (gvE T.g_LAST_YEAR rfl rfl)))))),?_⟩
  show bg _ _ _ [some (.int i)] H;walk_at "rd";refine⟨.type "int",.int i,true,by rfl,?_⟩;walk_at "rd";refine⟨.type "int",.int i,false,by rfl,?_⟩;walk_at "rd";rw[if_pos (Ze h1),Ze h2];exact k
theorem fB(T:Txt K mg):Cal P w K mg base 1 "layer_name" ["name","letter"] mw:=by
 refine T.d_layer_name.cal mr (fun vs H Q E h=>?_) (fun f cdv A outer s H vs Q E hr h=>?_)
 ·obtain⟨n,z,rfl,_⟩:=h;rfl
 ·obtain⟨n,z,rfl,hn,hz,k⟩:=h;refine⟨_,(QSs.h (am (aK (zJ (pjE (A0 (vn 0 rfl Z0 rfl rfl)) (pjE dh (pjE (A0 (vn 1 rfl Z0 rfl rfl)) zI))))))),?_⟩;show eM _ _ [some (.str n),some (.str z)] H;walk_at "rd";have e:∀a b:Str,(a++b).length=a.length+b.length:=fun a b=>size_append
  have e0:Str.empty.length=0:=rfl;have e1:(Str.ofString ".").length=1:=rfl;have le:∀k:Nat,k<=1000->k<=sizeLine:=fun k hk=>bQ (by lia)
  refine⟨le _ (by lia),le _ ?_,le _ ?_,le _ (by lia),le _ ?_,le _ ?_,k⟩<;> simp only[e,e0,e1]<;> lia
theorem qe(T:Txt K mg):Cal P w K mg base 2 "is_saying" ["thing","layers"] (ou K):=by
 refine T.d_is_saying.cal om (fun vs H Q E h=>?_) (fun f cdv A outer s H vs Q E hr h=>?_)
 ·obtain⟨t,p,xs,ls,rfl,_⟩:=h;rfl
 ·obtain⟨t,p,xs,ls,rfl,ht,hp,ok,k⟩:=h;refine⟨_,(QSs.h (ae (ifS (wT (orW (fS (ef (K:=K) rfl (fun _=>rfl) (cbE (fT (K:=K) rfl) rfl T.b_isinstance boot_isinstance rfl rfl rfl (paE rfl (vn 0 rfl Z0 rfl rfl) (paE rfl (blE (v:= .ty "tuple") rfl T.b_tuple boot_tuple rfl rfl rfl) ah))))) (j7 (bu eA rfl (cbE (bV (K:=K) rfl) rfl T.b_len PySem.boot_len rfl rfl rfl (paE rfl (vn 0 rfl Z0 rfl rfl) ah)) ap))))
   (am (aK eBl))
   aU)
   (ae (ifS (ef (K:=K) rfl (fun _=>rfl) (aD (bR T) hr rfl rfl rfl rfl (paE rfl (cn (K:=K) rfl (fun _ _=>rfl) (vn 0 rfl Z0 rfl rfl) ap) (paE rfl (B9 (K:=K) rfl T.t_LAYER_WORDS rfl rfl) ah))))
   (am (aK (nM (aD (bR T) hr rfl rfl rfl rfl (paE rfl (cn (K:=K) rfl (fun _ _=>rfl) (vn 0 rfl Z0 rfl rfl) ap) (paE rfl (vn 1 rfl Z0 rfl rfl) ah))) (nM (aD (bR T) hr rfl rfl rfl rfl (paE rfl (cn (K:=K) rfl (fun _ _=>rfl) (vn 0 rfl Z0 rfl rfl) ap) (paE rfl (vn 1 rfl Z0 rfl rfl) ah))) (oZ (jo eA rfl (cn (K:=K) rfl (fun _ _=>rfl) (vn 0 rfl Z0 rfl rfl) ap) (cn (K:=K) rfl (fun _ _=>rfl) (vn 0 rfl Z0 rfl rfl) ap)))))))
   aU)
   (ae (ifS (ef (K:=K) rfl (fun _=>rfl) (aD (bR T) hr rfl rfl rfl rfl (paE rfl (cn (K:=K) rfl (fun _ _=>rfl) (vn 0 rfl Z0 rfl rfl) ap) (paE rfl (B9 (K:=K) rfl T.t_YEAR_WORDS rfl rfl) ah))))
   (am (aK (nM (aD (bR T) hr rfl rfl rfl rfl (paE rfl (cn (K:=K) rfl (fun _ _=>rfl) (vn 0 rfl Z0 rfl rfl) ap) (paE rfl (vn 1 rfl Z0 rfl rfl) ah))) (oZ (aD (uQ T) hr rfl rfl rfl rfl (paE rfl (cn (K:=K) rfl (fun _ _=>rfl) (vn 0 rfl Z0 rfl rfl) ap) ah))))))
   aU)
   (am (aK eBl)))))),?_⟩
  show bg _ _ _ [some (.ref t),some (.ref p)] H;walk_at "rd";refine⟨.type "tuple",.tup ht,true,by rfl,?_⟩;have st:=SqT.of (K:=K) ht;rcases ok with⟨wd,a,b,rfl,hw,ha,hb,hab⟩|⟨wd,a,y,rfl,hw,ha,y1,y2⟩
  ·have e1:decide (wd∈([Str.ofString "later",Str.ofString "same"]:List Str))=true:=by rcases hw with rfl|rfl<;> decide
   walk_at "rd";refine⟨3,.inr ⟨_,st,rfl⟩,?_⟩;rw[if_neg (by decide)];refine⟨_,st,_,rfl,fun q hq=>⟨wd,q,[Str.ofString "later",Str.ofString "same"],rfl,.inr (hq H),_,rfl,?_⟩⟩;rw[e1];walk_at "rd";refine⟨_,st,_,rfl,a,p,ls,rfl,.inl hp,_,rfl,?_⟩;rw[Ze ha];walk_at "rd";refine⟨_,st,_,rfl,b,p,ls,rfl,.inl hp,_,rfl,?_⟩;rw[Ze hb];walk_at "rd";refine⟨_,st,_,rfl,_,st,_,rfl,rfl,?_⟩;rw[show(!decide (V.str a=V.str b))=true from by simp[hab]];exact k
  ·have e1:decide (wd∈([Str.ofString "later",Str.ofString "same"]:List Str))=false:=by rcases hw with rfl|rfl<;> decide
   have e2:decide (wd∈([Str.ofString "since",Str.ofString "by"]:List Str))=true:=by rcases hw with rfl|rfl<;> decide
   walk_at "rd";refine⟨3,.inr ⟨_,st,rfl⟩,?_⟩;rw[if_neg (by decide)];refine⟨_,st,_,rfl,fun q hq=>⟨wd,q,[Str.ofString "later",Str.ofString "same"],rfl,.inr (hq H),_,rfl,?_⟩⟩;rw[e1];walk_at "rd";refine⟨_,st,_,rfl,fun q hq=>⟨wd,q,[Str.ofString "since",Str.ofString "by"],rfl,.inr (hq H),_,rfl,?_⟩⟩;rw[e2];walk_at "rd";refine⟨_,st,_,rfl,a,p,ls,rfl,.inl hp,_,rfl,?_⟩;rw[Ze ha];walk_at "rd";exact⟨_,st,_,rfl,y,rfl,y1,y2,k⟩
def bG(H:Hp)(cs:List (Addr×Str×List Str)):Prop:=∀p∈cs,H p.1=some (.tup [.str p.2.1,.str (Str.join nl p.2.2)])/\iZ p.2.1=true/\bW p.2.2
theorem bG.up(h:bG H cs)(s:ac H H'):bG H' cs:=fun p hp=>⟨s _ _ (h p hp).1,(h p hp).2⟩
def uR:Sp:=fun vs H Q _=>∃rows:List Str,vs=[.str (Str.join nl rows)]/\bW rows/\∀H',ac H H'->Q (.bl true) H'
def xk:Sp:=fun vs H Q _=>∃p:Addr×Str×List Str,vs=[.ref p.1]/\bG H [p]/\∀H',ac H H'->Q (.bl true) H'
noncomputable def bU(cs:List (Addr×Str×List Str)):List V:=cs.map fun p=>V.ref p.1
def my:Sp:=fun vs H Q _=>∃(l:Addr) (cs:List (Addr×Str×List Str)),vs=[.ref l]/\H l=some (.lst (bU cs))/\bG H cs/\(cs.map fun p=>p.2.1).Nodup/\1<=cs.length/\cs.length<=8/\∀H',ac H H'->Q .non H'
def cr(H:Hp)(ls:List Str)(qs:List (Addr×List V)):Prop:=∀q∈qs,H q.1=some (.tup q.2)/\no ls q.2
theorem cr.up(h:cr H ls qs)(s:ac H H'):cr H' ls qs:=fun p hp=>⟨s _ _ (h p hp).1,(h p hp).2⟩
def jH(K:PySem.W.Frag):Sp:=fun vs H Q _=>∃(l r:Addr) (ls:List Str) (qs:List (Addr×List V)),vs=[.ref l,.ref r]/\H l=some (.lst (qs.map fun q=>V.ref q.1))/\H r=some (.lst (ls.map V.str))/\cr H ls qs/\qs.length<=60/\∀H',ac H H'->Q .non H'
theorem xn(T:Txt K mg):Cal P w K mg base 3 "is_cut" ["thing"] uR:=by
 refine T.d_is_cut.cal uC (fun vs H Q E h=>?_) (fun f cdv A outer s H vs Q E hr h=>?_)
 ·obtain⟨rows,rfl,_⟩:=h;rfl
 ·obtain⟨rows,rfl,hcut,k⟩:=h;refine⟨_,(QSs.h (ae (tryN (fun _ _ h=>h) (am (bD rfl (aD (jG T) hr rfl rfl rfl rfl (paE rfl (vn 0 rfl Z0 rfl rfl) ah)))))
   (am (aK eBl)))),?_⟩
  show bg _ _ _ [some (.str (Str.join nl rows))] H;walk_at "rd";exact⟨rows,rfl,hcut,fun l H1 s1 f1 h1=>k H1 s1⟩
theorem lH(T:Txt K mg):Cal P w K mg base 4 "is_named_cut" ["thing"] xk:=by
 refine T.d_is_named_cut.cal kg (fun vs H Q E h=>?_) (fun f cdv A outer s H vs Q E hr h=>?_)
 ·obtain⟨p,rfl,_⟩:=h;rfl
 ·obtain⟨p,rfl,hp,k⟩:=h;obtain⟨ht,hn,hcut⟩:=hp p (mem_singleton.mpr rfl);refine⟨_,(QSs.h (am (aK (nM (cbE (fT (K:=K) rfl) rfl T.b_isinstance boot_isinstance rfl rfl rfl (paE rfl (vn 0 rfl Z0 rfl rfl) (paE rfl (blE (v:= .ty "tuple") rfl T.b_tuple boot_tuple rfl rfl rfl) ah))) (nM (jo cL rfl (cbE (bV (K:=K) rfl) rfl T.b_len PySem.boot_len rfl rfl rfl (paE rfl (vn 0 rfl Z0 rfl rfl) ah)) ap) (nM (aD (uP T) hr rfl rfl rfl rfl (paE rfl (cn (K:=K) rfl (fun _ _=>rfl) (vn 0 rfl Z0 rfl rfl) ap) ah)) (oZ (aD (xn T) hr rfl rfl rfl rfl (paE rfl (cn (K:=K) rfl (fun _ _=>rfl) (vn 0 rfl Z0 rfl rfl) ap) ah))))))))),?_⟩;show eM _ _ [some (.ref p.1)] H;walk_at "rd";refine⟨.type "tuple",.tup ht,true,by rfl,?_⟩;have st:=SqT.of (K:=K) ht;walk_at "rd";refine⟨2,.inr ⟨_,st,rfl⟩,?_⟩;rw[if_pos (by decide)];refine⟨_,st,_,rfl,p.2.1,rfl,hn,fun H1 s1=>?_⟩;walk_at "rd";exact⟨_,SqT.of (s1 _ _ ht),_,rfl,p.2.2,rfl,hcut,fun H2 s2=>k H2 (s1.trans s2)⟩
theorem oz(T:Txt K mg):Cal P w K mg base 5 "check_cuts" ["cuts"] my:=by
 refine T.d_check_cuts.cal c9 (fun vs H Q E h=>?_) (fun f cdv A outer s H vs Q E hr h=>?_)
 ·obtain⟨l,cs,rfl,_⟩:=h;rfl
 ·obtain⟨l,cs,rfl,hl,hca,hnd,h1,h8,k⟩:=h;have hrl:(bU cs).length=cs.length:=Z5 _;refine⟨_,(QSs.h (ae (ifS (wT (orW (fS (ef (K:=K) rfl (fun _=>rfl) (cbE (fT (K:=K) rfl) rfl T.b_isinstance boot_isinstance rfl rfl rfl (paE rfl (vn 0 rfl Z0 rfl rfl) (paE rfl (blE (v:= .ty "list") rfl T.b_list boot_list rfl rfl rfl) ah))))) (j7 (bu cL rfl (cbE (bV (K:=K) rfl) rfl T.b_len PySem.boot_len rfl rfl rfl (paE rfl (vn 0 rfl Z0 rfl rfl) ah)) ap))))
   (am eY)
   aU)
   (ae (aI 1 c9.nd rfl Z0 Z1 rfl jT)
   (am (cA PassesOwn.never rfl rfl (sk (K:=K) rfl rfl T.b_enumerate rfl (paE rfl (vn 0 rfl Z0 rfl rfl) ah)) (eN (K:=K) rfl rfl rfl (gsE rfl (au 2 c9.nd rfl Z0 Z1) (gsE rfl (au 3 c9.nd rfl Z0 Z1) cu)))
   (ae (ifS (wT (orW (bu cL rfl (vn 2 rfl Z0 rfl rfl) (gvE T.g_MOST_CUTS rfl rfl)) (orW (fS (ef (K:=K) rfl (fun _=>rfl) (aD (lH T) hr rfl rfl rfl rfl (paE rfl (vn 3 rfl Z0 rfl rfl) ah)))) (j7 (A6 hr rfl (cn (K:=K) rfl (fun _ _=>rfl) (vn 3 rfl Z0 rfl rfl) ap) (vn 1 rfl Z0 rfl rfl))))))
    (am eY)
    aU)
    (am (iO hr rfl eBl (vn 1 rfl Z0 rfl rfl) (cn (K:=K) rfl (fun _ _=>rfl) (vn 3 rfl Z0 rfl rfl) ap))))))))),?_⟩
  show bg _ _ _ [some (.ref l),none,none,none] H;refine aj fun D1 k1 _=>?_
  walk_at "rd";refine⟨.type "list",.lst hl,true,by rfl,?_⟩;walk_at "rd";refine⟨cs.length,.inl ⟨_,SqL.of hl,hrl.symm⟩,?_⟩;rw[if_neg (by simp only[decide_eq_true_eq];lia)];refine k1 _ _ (aj fun D2 k2 _=>?_);walk_at "rd";refine fun d hd=>k2 _ _ (aB fun D3 k3 _=>av fun Kont hK=>?_)
  walk_at "rd";have hl':upd H d (.dK []) l=some (.lst (bU cs)):=ac.upd hd _ _ hl;refine⟨_,SqL.of hl',hK _ _ (iJ (fun i σ H'=>∃o2 o3 kvs,σ=[some (.ref l),some (.ref d),o2,o3]/\ac H H'/\H' d=some (.dK kvs)/\kvs.map (·.1)=(cs.take i).map fun p=>Sum.inr p.2.1) ⟨none,none,[],rfl,ac.upd hd,aa,rfl⟩ (fun i σ H' _ ⟨_,_,_,_,q,_⟩=>SqL.of (q _ _ hl)) ?_ ?_)⟩
  ·rintro i x TT σ H' hx ⟨o2,o3,kvs,rfl,sm,hdv,hks⟩ hT;have hi:i<cs.length:=by rw[<-hrl];exact(X6 hx).1
   obtain⟨q,hq,rfl⟩:∃q,cs[i]? =some q/\x=V.ref q.1:=by
    unfold bU at hx;rw[Zk,Z4 hi]at hx;exact⟨cs[i],Z4 hi,(Z9 hx).symm⟩
   have smT:ac H (upd H' TT (.tup [.int i,.ref q.1])):=sm.trans (ac.upd hT);have hgT:upd H' TT (.tup [.int i,.ref q.1]) TT=some (.tup [.int i,.ref q.1]):=aa;have hdT:=ac.upd (o:= .tup [.int i,.ref q.1]) hT _ _ hdv
   generalize upd H' TT (.tup [.int i,.ref q.1])=HT at smT hdT hgT
   have hqm:=Z7 hq;have hqa:=hca q hqm;refine⟨_,SqT.of hgT,rfl,_,_,rfl,_,_,rfl,rfl,?_⟩;show bg _ _ _ [some (.ref l),some (.ref d),some (.int i),some (.ref q.1)] HT;refine aj fun D4 k4 _=>?_
   walk_at "rd";rw[if_neg (by simp only[decide_eq_true_eq];lia)];refine⟨q,rfl,fun p hp=>by rw[X8 hp];exact⟨smT _ _ hqa.1,hqa.2⟩,fun H2 s2=>⟨true,rfl,?_⟩⟩;rw[if_neg (by decide)];have hnew:(Sum.inr q.2.1:Key)∉kvs.map (·.1):=by
    rw[hks];intro hm;obtain⟨q',hq',e⟩:=X9 hm;have e:q'.2.1=q.2.1:=Sum.inr.inj e;obtain⟨j,hj⟩:=X1 hq';have hji:j<i:=by
     have:=(X6 hj).1;rw[Yd]at this
     lia
    rw[Y5 hji]at hj;have n1:(cs.map fun p=>p.2.1)[j]? =some q.2.1:=by rw[Zk,hj,<-e];rfl
    have n2:(cs.map fun p=>p.2.1)[i]? =some q.2.1:=by rw[Zk,hq];rfl
    have:=kC hnd n1 n2
    lia
   refine⟨_,SqT.of (s2 _ _ (smT _ _ hqa.1)),_,rfl,_,cf.k (k:=Sum.inr q.2.1) (s2 _ _ hdT),?_⟩;have hv:bO kvs (Sum.inr q.2.1:Key)=none:=by
    cases e:bO kvs (Sum.inr q.2.1:Key)with
    | none=>rfl
    | some v=>exact absurd (yw e) hnew
   rw[hv,if_neg (by decide)];refine k4 _ _ (aB fun D5 k5 _=>?_);walk_at "rd";have hkl:kvs.length=i:=by
    have:=congrArg List.length hks;rw[Z5,Z5,Yd]at this
    lia
   refine⟨_,SqT.of (s2 _ _ (smT _ _ hqa.1)),_,rfl,_,jh.k (k:=Sum.inr q.2.1) (s2 _ _ hdT) (by rw[hkl];exact aH (by lia)),k5 _ _ ⟨_,_,_,rfl,ac.set (smT.trans s2) hd,aa,?_⟩⟩;rw[uk,if_neg hnew,hks,Yx,Zc,hq];rfl
  ·rintro σ H' ⟨o2,o3,kvs,rfl,sm,hdv,hks⟩;exact k3 _ _ (k H' sm)
theorem kh(T:Txt K mg):Cal P w K mg base 3 "check_sayings" ["sayings","layers"] (jH K):=by
 refine T.d_check_sayings.cal cU (fun vs H Q E h=>?_) (fun f cdv A outer s H vs Q E hr h=>?_)
 ·obtain⟨l,r,ls,qs,rfl,_⟩:=h;rfl
 ·obtain⟨l,r,ls,qs,rfl,hl,hrr,hsa,h60,k⟩:=h;refine⟨_,(QSs.h (ae (ifS (fS (ef (K:=K) rfl (fun _=>rfl) (cbE (fT (K:=K) rfl) rfl T.b_isinstance boot_isinstance rfl rfl rfl (paE rfl (vn 0 rfl Z0 rfl rfl) (paE rfl (blE (v:= .ty "list") rfl T.b_list boot_list rfl rfl rfl) ah)))))
   (am eY)
   aU)
   (am (cA PassesOwn.never rfl rfl (sk (K:=K) rfl rfl T.b_enumerate rfl (paE rfl (vn 0 rfl Z0 rfl rfl) ah)) (eN (K:=K) rfl rfl rfl (gsE rfl (au 2 cU.nd rfl Z0 Z1) (gsE rfl (au 3 cU.nd rfl Z0 Z1) cu)))
   (am (ifS (wT (orW (bu cL rfl (vn 2 rfl Z0 rfl rfl) (gvE T.g_MOST_SAYINGS rfl rfl)) (j7 (fS (ef (K:=K) rfl (fun _=>rfl) (aD (qe T) hr rfl rfl rfl rfl (paE rfl (vn 3 rfl Z0 rfl rfl) (paE rfl (vn 1 rfl Z0 rfl rfl) ah))))))))
    (am eY)
    aU)))))),?_⟩
  show bg _ _ _ [some (.ref l),some (.ref r),none,none] H;refine aj fun D1 k1 _=>?_
  walk_at "rd";refine⟨.type "list",.lst hl,true,by rfl,?_⟩;walk_at "rd";refine k1 _ _ (aB fun D3 k3 _=>av fun Kont hK=>?_);walk_at "rd";have hql:(qs.map fun q=>V.ref q.1).length=qs.length:=Z5 _;refine⟨_,SqL.of hl,hK _ _ (iJ (fun i σ H'=>∃o2 o3,σ=[some (.ref l),some (.ref r),o2,o3]/\ac H H') ⟨none,none,rfl,ac.refl H⟩ (fun i σ H' _ ⟨_,_,_,q⟩=>SqL.of (q _ _ hl)) ?_ ?_)⟩
  ·rintro i x TT σ H' hx ⟨o2,o3,rfl,sm⟩ hT;have hi:i<qs.length:=by rw[<-hql];exact(X6 hx).1
   obtain⟨q,hq,rfl⟩:∃q,qs[i]? =some q/\x=V.ref q.1:=by
    rw[Zk,Z4 hi]at hx;exact⟨qs[i],Z4 hi,(Z9 hx).symm⟩
   have smT:ac H (upd H' TT (.tup [.int i,.ref q.1])):=sm.trans (ac.upd hT);have hgT:upd H' TT (.tup [.int i,.ref q.1]) TT=some (.tup [.int i,.ref q.1]):=aa
   generalize upd H' TT (.tup [.int i,.ref q.1])=HT at smT hgT
   have hqm:=Z7 hq;have hqa:=hsa q hqm;refine⟨_,SqT.of hgT,rfl,_,_,rfl,_,_,rfl,rfl,?_⟩;show j2 _ _ _ _ [some (.ref l),some (.ref r),some (.int i),some (.ref q.1)] HT;refine aB fun D4 k4 _=>?_
   walk_at "rd";rw[if_neg (by simp only[decide_eq_true_eq];lia)];refine⟨q.1,r,q.2,ls,rfl,smT _ _ hqa.1,SqL.of (smT _ _ hrr),hqa.2,true,rfl,?_⟩;rw[if_neg (by decide)];exact k4 _ _ ⟨_,_,rfl,smT⟩
  ·rintro σ H' ⟨o2,o3,rfl,sm⟩;exact k3 _ _ (k H' sm)
noncomputable def lyr(p:Addr×Str×List Str):List Str:=(az ((bZ p.2.2).map sgn)).map (lnS p.2.1)
def oA:Sp:=fun vs H Q _=>∃(l:Addr) (cs:List (Addr×Str×List Str)),vs=[.ref l]/\H l=some (.lst (bU cs))/\bG H cs/\cs.length<=3/\(cs.flatMap lyr).length<=60/\∀r H' (ls:List Str),ac H H'->H r=none->H' r=some (.lst (ls.map V.str))->ls.Perm (cs.flatMap lyr)->ls.Pairwise (fun a b=>aR b a=false)->Q (.ref r) H'
def cv(ls:List Str)(k:List Str):Prop:=∃a b z,k=[a,b,z]/\a∈ls/\b∈ls
theorem cv.three(h:cv ls k):k.length=3:=by
 obtain⟨a,b,z,rfl,_⟩:=h;rfl
theorem cv.mono(h:cv ls k)(s:∀x∈ls,x∈ms):cv ms k:=by
 obtain⟨a,b,z,e,ha,hb⟩:=h;exact⟨a,b,z,e,s a ha,s b hb⟩
theorem sI(h:Let p.2.2 a):lnS p.2.1 (sgn a)∈lyr p:=
 Xa ⟨_,bn.mpr (Xa ⟨a,ju.mpr h,rfl⟩),rfl⟩
def oB:Sp:=fun vs H Q _=>∃(l:Addr) (cs:List (Addr×Str×List Str)),vs=[.ref l]/\H l=some (.lst (bU cs))/\bG H cs/\(∀p∈cs,uz p.2.2)/\cs.length<=3/\∀r H' (ts:List (Addr×List Str)),ac H H'->H r=none->H' r=some (.lst (ts.map fun t=>V.ref t.1))->aT H' ts->(∀t∈ts,cv (cs.flatMap lyr) t.2)->ts.length<=42->Q (.ref r) H'
def oC:Sp:=fun vs H Q _=>∃(l:Addr) (ls:List Str) (qs:List (Addr×List V)),vs=[.ref l]/\H l=some (.lst (qs.map fun q=>V.ref q.1))/\cr H ls qs/\qs.length<=60/\∀r H' (ts:List (Addr×List Str)),ac H H'->H r=none->H' r=some (.lst (ts.map fun t=>V.ref t.1))->aT H' ts->(∀t∈ts,cv ls t.2)->ts.length<=qs.length->Q (.ref r) H'
theorem lI{z:Str}(h:iZ z=true):z.length<=8:=by
 unfold iZ at h;rw[Zu,Zu]at h;have:=Zn h.1.2
 lia
theorem fC{cs:List Nat}{z:Str}(h:z∈az (cs.map sgn)):∃c∈cs,z=sgn c:=by
 have:z∈cs.map sgn:=bn.mp h;obtain⟨c,hc,rfl⟩:=X9 this;exact⟨c,hc,rfl⟩
theorem qf(T:Txt K mg):Cal P w K mg base 4 "layers_of" ["cuts"] oA:=by
 refine T.d_layers_of.cal dG (fun vs H Q E h=>?_) (fun f cdv A outer s H vs Q E hr h=>?_)
 ·obtain⟨l,cs,rfl,_⟩:=h;rfl
 ·obtain⟨l,cs,rfl,hl,hca,h8,h60,k⟩:=h;have hrl:(bU cs).length=cs.length:=Z5 _;refine⟨_,(QSs.h (ae (aI 1 dG.nd rfl Z0 Z1 rfl (cz ah))
   (ae (cA PassesOwn.never rfl rfl (cw (K:=K) rfl (vn 0 rfl Z0 rfl rfl)) (eN (K:=K) rfl rfl rfl (gsE rfl (au 2 dG.nd rfl Z1 Z0) (gsE rfl (au 3 dG.nd rfl Z0 Z1) cu)))
   (am (bD rfl (bmE (K:=K) rfl plainAttrs_list PySem.F.slot_list_extend PySem.F.type_list_extend pd rfl rfl rfl rfl (vn 1 rfl Z0 rfl rfl) (paE rfl (fH (aE.of (show bT (af eE) ["cuts","layers","name","text"] _ ["letter","name"] [(1,2)]=true from by decide +kernel)) rfl rfl (cw (K:=K) rfl (aD (uK T) hr rfl rfl rfl rfl (paE rfl (vn 3 rfl Z0 rfl rfl) ah))) (fun _ _ _=>(au 0 (show(["letter","name"]:List Str).Nodup from by decide +kernel) rfl Z0 Z1)) (fun _ _ _=>j8) (fun _ _ _=>(aD (fB T) hr rfl rfl rfl rfl (paE rfl (vn 1 rfl (Or.inr Z0) rfl rfl) (paE rfl (vn 0 rfl Z0 rfl rfl) ah))))) ah)))))
   (am (aK (cbE (m8 (K:=K) rfl) rfl T.b_sorted boot_sorted rfl rfl rfl (paE rfl (vn 1 rfl Z0 rfl rfl) ah))))))),?_⟩
  show bg _ _ _ [some (.ref l),none,none,none] H;refine aj fun D1 k1 _=>?_
  walk_at "rd";refine⟨X0 _,fun L hL=>k1 _ _ (aj fun D2 k2 _=>av fun Kont hK=>?_)⟩;walk_at "rd";refine .inl ⟨⟨_,SqL.of (ac.upd hL _ _ hl)⟩,hK _ _ (bd (fun i σ H'=>∃o2 o3,σ=[some (.ref l),some (.ref L),o2,o3]/\ac H H'/\∃ms:List Str,H' L=some (.lst (ms.map V.str))/\ms.Perm ((cs.take i).flatMap lyr)/\ms.length<=26*i)
   ⟨none,none,rfl,ac.upd hL,[],aa,List.Perm.refl _,X0 _⟩ (fun i σ H' _ ⟨_,_,_,q,_⟩=>SqL.of (q _ _ hl)) ?_ ?_)⟩
  ·rintro i x σ H' hx ⟨o2,o3,rfl,sm,ms,hm,hp,hml⟩;have hi:i<cs.length:=by rw[<-hrl];exact(X6 hx).1
   obtain⟨q,hq,rfl⟩:∃q,cs[i]? =some q/\x=V.ref q.1:=by
    unfold bU at hx;rw[Zk,Z4 hi]at hx;exact⟨cs[i],Z4 hi,(Z9 hx).symm⟩
   have hqa:=hca q (Z7 hq);refine⟨_,SqT.of (sm _ _ hqa.1),rfl,_,_,rfl,_,_,rfl,rfl,?_⟩;refine aB fun D3 k3 _=>?_
   show iz _ _ [some (.ref l),some (.ref L),some (.str q.2.1),some (.str (Str.join nl q.2.2))] H';walk_at "rd";refine⟨.inl ⟨_,SqL.of hm⟩,aP fun Kont hK=>?_⟩;walk_at "rd";refine⟨q.2.2,rfl,hqa.2.2,fun l2 H2 ss s2 f2 h2 p2 q2=>?_⟩;walk_at "rd";refine .inl ⟨⟨_,SqL.of h2⟩,hK _ _ fun F hF=>?_⟩;have few:ss.length<=26:=by rw[p2.length_eq];exact kW fun c hc=>mX hqa.2.2.sign c hc
   have one:∀z∈ss,z.length=1:=fun z hz=>by
    obtain⟨c,_,rfl⟩:=fC (p2.mem_iff.mp hz);rfl
   refine bC (J:=Itl K l2) (n:=ss.length) (D:=F) (fun j ts σ H'=>(∃o,σ=[o,some (.str q.2.1)])/\ac H2 H'/\H' F=some (.lst ts)/\ts=((ss.take j).map (lnS q.2.1)).map V.str)
    ⟨⟨none,rfl⟩,ac.upd hF,aa,rfl⟩
    (fun j _ _ H' hj ⟨_,sm,_⟩=>⟨_,V.str ss[j],SqL.of (sm _ _ h2),by simp[hj]⟩) (fun _ _ H' ⟨_,sm,_⟩=>⟨_,SqL.of (sm _ _ h2),by simp⟩) ?_ ?_
   ·rintro j ts σ H3 hj ⟨⟨o,rfl⟩,s3,hFv,ht⟩ x H4 ⟨e2,hx⟩;subst e2;have hxi:=hx _ (SqL.of (s3 _ _ h2));rw[Zk,Z4 hj]at hxi;obtain rfl:x=V.str ss[j]:=(Z9 hxi).symm;walk_at "rd";refine⟨_,_,rfl,by have:=lI hqa.2.1;lia,by rw[one _ (Y6 hj)];decide,?_⟩;refine CK.mk hj hFv (by rw[ht,Z5,Z5,Yd];exact aH (by lia)) ⟨⟨_,rfl⟩,ac.set s3 hF,aa,?_⟩;rw[ht,Yx,Zc,Zc,Z4 hj];rfl
   rintro ts σ H3 ⟨_,s3,hF3,ht⟩;rw[Zm (Zh _)]at ht;walk_at "rd";have sz:(ms.map V.str).length+ts.length<=sizeLine:=by rw[ht,Z5,Z5,Z5];exact bQ (by lia)
   refine⟨_,s3 _ _ (s2 _ _ hm),_,hF3,sz,k3 _ _ ⟨_,_,rfl,ac.set (sm.trans (s2.trans s3)) hL,ms++ss.map (lnS q.2.1),?_,?_,?_⟩⟩
   ·rw[aa,ht,Zc]
   ·rw[Yx,hq,List.flatMap_append];refine hp.append ?_;show List.Perm _ ([q].flatMap lyr);rw[List.flatMap_singleton];exact p2.map _
   ·rw[Z8,Z5]
    lia
  ·rintro σ H' ⟨o2,o3,rfl,sm,ms,hm,hp,hml⟩;refine k2 _ _ ?_;walk_at "rd";rw[hrl,Zm (Zh _)]at hp;exact⟨ms,SqL.of hm,by rw[hp.length_eq];lia,fun r ss hr' p' q'=>k r _ ss (sm.trans (ac.upd hr')) (sm.free hr') aa (p'.trans hp) q'⟩
theorem lJ(T:Txt K mg):Cal P w K mg base 4 "ties_of_cuts" ["cuts"] oB:=by
 refine T.d_ties_of_cuts.cal bA (fun vs H Q E h=>?_) (fun f cdv A outer s H vs Q E hr h=>?_)
 ·obtain⟨l,cs,rfl,_⟩:=h;rfl
 ·obtain⟨l,cs,rfl,hl,hca,hfe,h8,k⟩:=h;have hrl:(bU cs).length=cs.length:=Z5 _;refine⟨_,(QSs.h (ae (aI 1 bA.nd rfl Z0 Z1 rfl (cz ah))
   (ae (cA PassesOwn.never rfl rfl (cw (K:=K) rfl (vn 0 rfl Z0 rfl rfl)) (eN (K:=K) rfl rfl rfl (gsE rfl (au 2 bA.nd rfl Z0 Z1) (gsE rfl (au 3 bA.nd rfl Z0 Z1) cu)))
   (am (cA PassesOwn.never rfl rfl (cw (K:=K) rfl (aD (rL T) hr rfl rfl rfl rfl (paE rfl (vn 3 rfl Z0 rfl rfl) ah))) (eN (K:=K) rfl rfl rfl (gsE rfl (au 4 bA.nd rfl Z0 Z1) (gsE rfl (au 5 bA.nd rfl Z0 Z1) cu)))
    (am (bD rfl (bmE (K:=K) rfl plainAttrs_list PySem.F.slot_list_append PySem.F.type_list_append aV rfl rfl rfl rfl (vn 1 rfl Z0 rfl rfl) (paE rfl (gR (paE rfl (aD (fB T) hr rfl rfl rfl rfl (paE rfl (vn 2 rfl Z0 rfl rfl) (paE rfl (vn 4 rfl Z0 rfl rfl) ah))) (paE rfl (aD (fB T) hr rfl rfl rfl rfl (paE rfl (vn 2 rfl Z0 rfl rfl) (paE rfl (vn 5 rfl Z0 rfl rfl) ah))) (paE rfl (vn 2 rfl Z0 rfl rfl) ah)))) ah)))))))
   (am (aK (vn 1 rfl Z0 rfl rfl)))))),?_⟩
  show bg _ _ _ [some (.ref l),none,none,none,none,none] H;refine aj fun D1 k1 _=>?_
  walk_at "rd";refine⟨X0 _,fun L hL=>k1 _ _ (aj fun D2 k2 _=>av fun Kont hK=>?_)⟩;walk_at "rd";refine .inl ⟨⟨_,SqL.of (ac.upd hL _ _ hl)⟩,hK _ _ (bd (fun i σ H'=>∃o2 o3 o4 o5,σ=[some (.ref l),some (.ref L),o2,o3,o4,o5]/\ac H H'/\∃ts:List (Addr×List Str),H' L=some (.lst (ts.map fun t=>V.ref t.1))/\aT H' ts/\(∀t∈ts,cv (cs.flatMap lyr) t.2)/\ts.length<=14*i)
   ⟨none,none,none,none,rfl,ac.upd hL,[],aa,gh _,fun t ht=>(nomatch ht),X0 _⟩ (fun i σ H' _ ⟨_,_,_,_,_,q,_⟩=>SqL.of (q _ _ hl)) ?_ ?_)⟩
  ·rintro i x σ H' hx ⟨o2,o3,o4,o5,rfl,sm,ts,hm,hta,ht3,htl⟩;have hi:i<cs.length:=by rw[<-hrl];exact(X6 hx).1
   obtain⟨q,hq,rfl⟩:∃q,cs[i]? =some q/\x=V.ref q.1:=by
    unfold bU at hx;rw[Zk,Z4 hi]at hx;exact⟨cs[i],Z4 hi,(Z9 hx).symm⟩
   have hqa:=hca q (Z7 hq);refine⟨_,SqT.of (sm _ _ hqa.1),rfl,_,_,rfl,_,_,rfl,rfl,?_⟩;refine aB fun D3 k3 _=>?_
   show vv _ _ _ _ [some (.ref l),some (.ref L),some (.str q.2.1),some (.str (Str.join nl q.2.2)),o4,o5] H';refine av fun Kont hK=>?_
   walk_at "rd";have qm:=Z7 hq;refine⟨q.2.2,rfl,hqa.2.2,hfe q qm,?_⟩;intro l2 H2 ss s2 f2 h2 t2 few mem2;have nlen:=lI hqa.2.1;have hl2L:l2≠L:=fun e=>by rw[e,hm]at f2;cases f2
   have hsl:(ss.map fun p=>V.ref p.1).length=ss.length:=Z5 _;refine .inl ⟨l2,rfl,⟨_,SqL.of h2⟩,hK _ _ (bd (xs:=ss.map fun p=>V.ref p.1) (fun j σ H3=>∃o4 o5,σ=[some (.ref l),some (.ref L),some (.str q.2.1),some (.str (Str.join nl q.2.2)),o4,o5]/\ac H H3/\H3 l2=some (.lst (ss.map fun p=>V.ref p.1))/\aT H3 ss/\∃ts':List (Addr×List Str),H3 L=some (.lst (ts'.map fun t=>V.ref t.1))/\aT H3 ts'/\(∀t∈ts',cv (cs.flatMap lyr) t.2)/\ts'.length<=14*i+j)
    ⟨_,_,rfl,sm.trans s2,h2,t2,ts,s2 _ _ hm,aQ hta fun b z e=>s2 _ _ e,ht3,by lia⟩ (fun j σ H3 _ ⟨_,_,_,_,q,_⟩=>SqL.of q) ?_ ?_)⟩
   ·rintro j x σ H3 hx ⟨o4,o5,rfl,sm3,hl3,ht3',ts',hm3,hta3,h33,hlen3⟩;have hj:j<ss.length:=by rw[<-hsl];exact(X6 hx).1
    rw[Zk,Z4 hj]at hx;obtain rfl:x=V.ref ss[j].1:=(Z9 hx).symm;have hmem:=Y6 hj;obtain⟨a,b,eab,la,lb⟩:=mem2 _ hmem;have hta':=(ht3' _ hmem).2;rw[eab]at hta';refine⟨_,SqT.of hta',rfl,_,_,rfl,_,_,rfl,rfl,?_⟩;refine aB fun D4 k4 _=>?_
    show iz _ _ [some (.ref l),some (.ref L),some (.str q.2.1),some (.str (Str.join nl q.2.2)),some (.str (sgn a)),some (.str (sgn b))] H3;walk_at "rd";refine⟨.inl ⟨_,SqL.of hm3⟩,q.2.1,sgn a,rfl,by lia,(show 1<=100 by decide),?_⟩;walk_at "rd";refine⟨q.2.1,sgn b,rfl,by lia,(show 1<=100 by decide),?_⟩;walk_at "rd";refine⟨(show 3<=sizeLine by decide),fun p hp=>?_⟩;have sp:=ac.upd (o:= .tup [V.str (lnS q.2.1 (sgn a)),V.str (lnS q.2.1 (sgn b)),V.str q.2.1]) hp;have gp:upd H3 p (.tup [V.str (lnS q.2.1 (sgn a)),V.str (lnS q.2.1 (sgn b)),V.str q.2.1]) p=_:=aa
    generalize upd H3 p (.tup [V.str (lnS q.2.1 (sgn a)),V.str (lnS q.2.1 (sgn b)),V.str q.2.1])=H4 at sp gp
    have hm4:=sp _ _ hm3;have keepT:∀b z,H4 b=some (.tup z)->upd H4 L (.lst (ts'.map (fun t=>V.ref t.1) ++[V.ref p])) b=some (.tup z):=fun b z e=>by
     have:b≠L:=fun e2=>by rw[e2,hm4]at e;cases e
     rw[ai this];exact e
    refine⟨_,hm4,by rw[Z5];exact Nat.lt_of_le_of_lt (show ts'.length<=10000 by lia) (by decide),k4 _ _ ⟨_,_,rfl,ac.set (sm3.trans sp) hL,by rw[ai hl2L];exact sp _ _ hl3,aQ (aQ ht3' fun b z e=>sp _ _ e) keepT,ts'++[(p,[lnS q.2.1 (sgn a),lnS q.2.1 (sgn b),q.2.1])],?_,?_,?_,?_⟩⟩
    ·rw[aa,Zc];rfl
    ·exact aQ (gK (aQ hta3 fun b z e=>sp _ _ e) (by simp) gp) keepT
    ·intro t ht;rcases X7 ht with z|z
     ·exact h33 t z
     ·rw[X8 z];exact⟨_,_,_,rfl,mem_flatMap.mpr ⟨q,qm,sI la⟩,mem_flatMap.mpr ⟨q,qm,sI lb⟩⟩
    ·rw[Z8,Yc];lia
   ·rintro σ H3 ⟨o4,o5,rfl,sm3,hl3,ht3',ts',hm3,hta3,h33,hlen3⟩;rw[hsl]at hlen3;exact k3 _ _ ⟨_,_,_,_,rfl,sm3,ts',hm3,hta3,h33,by lia⟩
  ·rintro σ H' ⟨o2,o3,o4,o5,rfl,sm,ts,hm,hta,ht3,htl⟩;refine k2 _ _ ?_;walk_at "rd";rw[hrl]at htl;exact k L H' ts sm hL hm hta ht3 (by lia)
theorem i4(T:Txt K mg):Cal P w K mg base 1 "ties_of_sayings" ["sayings"] oC:=by
 refine T.d_ties_of_sayings.cal bL (fun vs H Q E h=>?_) (fun f cdv A outer s H vs Q E hr h=>?_)
 ·obtain⟨l,ls,qs,rfl,_⟩:=h;rfl
 ·obtain⟨l,ls,qs,rfl,hl,hsa,h60,k⟩:=h;have hql:(qs.map fun q=>V.ref q.1).length=qs.length:=Z5 _;refine⟨_,(QSs.h (ae (aI 1 bL.nd rfl Z0 Z1 rfl (cz ah))
   (ae (cA PassesOwn.never rfl rfl (sk (K:=K) rfl rfl T.b_enumerate rfl (paE rfl (vn 0 rfl Z0 rfl rfl) ah)) (eN (K:=K) rfl rfl rfl (gsE rfl (au 2 bL.nd rfl Z0 Z1) (gsE rfl (au 3 bL.nd rfl Z0 Z1) cu)))
   (am (ifS (bu cL rfl (cn (K:=K) rfl (fun _ _=>rfl) (vn 3 rfl Z0 rfl rfl) ap) dh)
    (am (bD rfl (bmE (K:=K) rfl plainAttrs_list PySem.F.slot_list_append PySem.F.type_list_append aV rfl rfl rfl rfl (vn 1 rfl Z0 rfl rfl) (paE rfl (gR (paE rfl (cn (K:=K) rfl (fun _ _=>rfl) (vn 3 rfl Z0 rfl rfl) ap) (paE rfl (cn (K:=K) rfl (fun _ _=>rfl) (vn 3 rfl Z0 rfl rfl) ap) (paE rfl (zJ (pjE dh (pjE (A0 (vn 2 rfl Z0 rfl rfl)) zI))) ah)))) ah))))
    aU)))
   (am (aK (vn 1 rfl Z0 rfl rfl)))))),?_⟩
  show bg _ _ _ [some (.ref l),none,none,none] H;refine aj fun D1 k1 _=>?_
  walk_at "rd";refine⟨X0 _,fun L hL=>k1 _ _ (aj fun D2 k2 _=>av fun Kont hK=>?_)⟩;walk_at "rd";refine⟨_,SqL.of (ac.upd hL _ _ hl),hK _ _ (iJ (fun i σ H'=>∃o2 o3,σ=[some (.ref l),some (.ref L),o2,o3]/\ac H H'/\∃ts:List (Addr×List Str),H' L=some (.lst (ts.map fun t=>V.ref t.1))/\aT H' ts/\(∀t∈ts,cv ls t.2)/\ts.length<=i)
   ⟨none,none,rfl,ac.upd hL,[],aa,gh _,fun t ht=>(nomatch ht),X0 _⟩ (fun i σ H' _ ⟨_,_,_,q,_⟩=>SqL.of (q _ _ hl)) ?_ ?_)⟩
  ·rintro i x TT σ H' hx ⟨o2,o3,rfl,sm,ts,hm,hta,ht3,htl⟩ hT;have hi:i<qs.length:=by rw[<-hql];exact(X6 hx).1
   obtain⟨q,hq,rfl⟩:∃q,qs[i]? =some q/\x=V.ref q.1:=by
    rw[Zk,Z4 hi]at hx;exact⟨qs[i],Z4 hi,(Z9 hx).symm⟩
   have s0:=ac.upd (o:= .tup [.int i,.ref q.1]) hT;have smT:ac H (upd H' TT (.tup [.int i,.ref q.1])):=sm.trans s0;have hgT:upd H' TT (.tup [.int i,.ref q.1]) TT=some (.tup [.int i,.ref q.1]):=aa;have hmT:=s0 _ _ hm;have htaT:=aQ hta fun b z e=>s0 _ _ e
   generalize upd H' TT (.tup [.int i,.ref q.1])=HT at smT hgT hmT htaT
   have hqa:=hsa q (Z7 hq);refine⟨_,SqT.of hgT,rfl,_,_,rfl,_,_,rfl,rfl,?_⟩;show j2 _ _ _ _ [some (.ref l),some (.ref L),some (.int i),some (.ref q.1)] HT;refine aB fun D4 k4 _=>?_
   walk_at "rd";have st:=SqT.of (K:=K) (smT _ _ hqa.1);have hlen:(Str.ofString (toString (i:Int))).length<=21:=by
    have e:=PySem.int_text_length_le10 (a:=(i:Int)) (k:=20) (by decide) (by have:(i:Int).natAbs=i:=rfl;lia);rw[PySem.ofString_length];lia
   have e1:(Str.empty++Str.ofString "#").length=1:=by decide +kernel
   have ea:∀a b:Str,(a++b).length=a.length+b.length:=fun a b=>size_append
   have add:∀a b:Str,a∈ls->b∈ls->∀p,HT p=none->∃x,upd HT p (.tup [.str a,.str b,V.str (Str.empty++Str.ofString "#"++Str.ofString (toString (i:Int)))]) L=some (.lst x)/\x.length<sizeLine/\D4.nx [some (.ref l),some (.ref L),some (.int i),some (.ref q.1)] (upd (upd HT p (.tup [.str a,.str b,V.str (Str.empty++Str.ofString "#"++Str.ofString (toString (i:Int)))])) L (.lst (x++[V.ref p]))):=by
    intro a b ma mb p hp
    generalize hz:Str.empty++Str.ofString "#"++Str.ofString (toString (i:Int))=z
    have sp:=ac.upd (o:= .tup [V.str a,V.str b,V.str z]) hp;have gp:upd HT p (.tup [V.str a,V.str b,V.str z]) p=_:=aa
    generalize upd HT p (.tup [V.str a,V.str b,V.str z])=H4 at sp gp
    have hm4:=sp _ _ hmT;have keepT:∀b z,H4 b=some (.tup z)->upd H4 L (.lst (ts.map (fun t=>V.ref t.1) ++[V.ref p])) b=some (.tup z):=fun b z e=>by
     have:b≠L:=fun e2=>by rw[e2,hm4]at e;cases e
     rw[ai this];exact e
    refine⟨_,hm4,by rw[Z5];exact aH (by lia),k4 _ _ ⟨_,_,rfl,ac.set (smT.trans sp) hL,ts++[(p,[a,b,z])],?_,?_,?_,?_⟩⟩
    ·rw[aa,Zc];rfl
    ·exact aQ (gK (aQ htaT fun b z e=>sp _ _ e) (by simp) gp) keepT
    ·intro t ht;rcases X7 ht with z|z
     ·exact ht3 t z
     ·rw[X8 z];exact⟨_,_,_,rfl,ma,mb⟩
    ·rw[Z8,Yc];lia
   rcases hqa.2 with⟨wd,a,b,e,hw,ma,mb,_⟩|⟨wd,a,y,e,hw,_⟩
   ·rw[e]at st;refine⟨_,st,_,rfl,rfl,bw (fun hw2=>?_) fun hw2=>?_⟩
    ·refine⟨.inl ⟨_,SqL.of hmT⟩,_,st,_,rfl,_,st,_,rfl,bQ (by lia),?_,bQ (by rw[ea];lia),bQ (by rw[ea];lia),(show 3<=sizeLine by decide),add a b ma mb⟩;have:(i:Int).natAbs=i:=rfl
     lia
    ·exact k4 _ _ ⟨_,_,rfl,smT,ts,hmT,htaT,ht3,by lia⟩
   ·rw[e]at st;refine⟨_,st,_,rfl,rfl,?_⟩;rw[if_neg (by rcases hw with rfl|rfl<;> decide)];exact k4 _ _ ⟨_,_,rfl,smT,ts,hmT,htaT,ht3,by lia⟩
  ·rintro σ H' ⟨o2,o3,rfl,sm,ts,hm,hta,ht3,htl⟩;refine k2 _ _ ?_;walk_at "rd";rw[hql]at htl;exact k L H' ts sm hL hm hta ht3 htl
structure GrF (mg:Str->Option Value) (H:Hp) (g c2 c3 c4:Addr) (qs:List (Addr×List V)) (ls:List Str) (ts:List (Addr×List Str)):Prop where
 at_:∃dx c1,H g=some (.ins (b8 mg "Ground") dx [("kept_cuts",.ref c1),("kept_sayings",.ref c2),("kept_layers",.ref c3),("kept_ties",.ref c4)])
 a2:H c2=some (.lst (qs.map fun q=>V.ref q.1))
 a3:H c3=some (.lst (ls.map V.str))
 a4:H c4=some (.lst (ts.map fun t=>V.ref t.1))
 sa:cr H ls qs
 tu:aT H ts
theorem GrF.up(h:GrF mg H g c2 c3 c4 qs ls ts)(s:ac H H'):GrF mg H' g c2 c3 c4 qs ls ts:=by
 obtain⟨dx,c1,h0⟩:=h.at_;exact⟨⟨dx,c1,s _ _ h0⟩,s _ _ h.a2,s _ _ h.a3,s _ _ h.a4,h.sa.up s,aQ h.tu fun b z e=>s _ _ e⟩
def uS(mg:Str->Option Value):Sp:=fun vs H Q _=>∃(g c2 c3 c4:Addr) (qs:List (Addr×List V)) (ls:List Str) (ts:List (Addr×List Str)),vs=[.ref g]/\GrF mg H g c2 c3 c4 qs ls ts/\∀l,H l=none->Q (.ref l) (upd H l (.lst (ls.map V.str)))
def rP(mg:Str->Option Value):Sp:=fun vs H Q _=>∃(g c2 c3 c4:Addr) (qs:List (Addr×List V)) (ls:List Str) (ts:List (Addr×List Str)),vs=[.ref g]/\GrF mg H g c2 c3 c4 qs ls ts/\∀l,H l=none->Q (.ref l) (upd H l (.lst (qs.map fun q=>V.ref q.1)))
def zi(mg:Str->Option Value):Sp:=fun vs H Q _=>∃(g c2 c3 c4:Addr) (qs:List (Addr×List V)) (ls:List Str) (ts:List (Addr×List Str)),vs=[.ref g]/\GrF mg H g c2 c3 c4 qs ls ts/\∀l,H l=none->Q (.ref l) (upd H l (.lst (ts.map fun t=>V.ref t.1)))
def sJ(mg:Str->Option Value):Sp:=fun vs H Q _=>∃(g l m dx:Addr) (cs:List (Addr×Str×List Str)) (qs:List (Addr×List V)),vs=[.ref g,.ref l,.ref m]/\H g=some (.ins (b8 mg "Ground") dx [])/\H l=some (.lst (bU cs))/\H m=some (.lst (qs.map fun q=>V.ref q.1))/\
 bG H cs/\(cs.map fun p=>p.2.1).Nodup/\1<=cs.length/\cs.length<=3/\(∀p∈cs,uz p.2.2)/\(cs.flatMap lyr).length<=60/\(∀ls:List Str,ls.Perm (cs.flatMap lyr)->cr H ls qs)/\qs.length<=20/\
 ∀H' ls ts c2 c3 c4,(∀b o,b≠g->H b=some o->H' b=some o)->GrF mg H' g c2 c3 c4 qs ls ts->(∀t∈ts,cv ls t.2)->ts.length<=62->ls.Perm (cs.flatMap lyr)->ls.Pairwise (fun a b=>aR b a=false)->Q .non H'
theorem xo(T:Txt K mg):A4 P w K mg base 6 "Ground" ["self","cuts","sayings"] (sJ mg):=by
 refine T.i_Ground.cal d6 (fun vs H Q E h=>?_) (fun f cdv A outer s H vs Q E hr h=>?_)
 ·obtain⟨g,l,m,dx,cs,qs,rfl,_⟩:=h;rfl
 ·obtain⟨g,l,m,dx,cs,qs,rfl,hg,hl,hm,hca,hnd,h1,h8,hfe,hly,hsa,h60,k⟩:=h;refine⟨_,(QSs.h (ae (bD rfl (aD (oz T) hr rfl rfl rfl rfl (paE rfl (vn 1 rfl Z0 rfl rfl) ah)))
   (ae (aI 3 d6.nd rfl Z0 Z1 rfl (aD (qf T) hr rfl rfl rfl rfl (paE rfl (vn 1 rfl Z0 rfl rfl) ah)))
   (ae (bD rfl (aD (kh T) hr rfl rfl rfl rfl (paE rfl (vn 2 rfl Z0 rfl rfl) (paE rfl (vn 3 rfl Z0 rfl rfl) ah))))
   (ae (yW (K:=K) rfl rfl (vn 0 rfl Z0 rfl rfl) (ctE (hZ (K:=K) rfl) rfl T.b_list boot_list rfl rfl rfl (paE rfl (vn 1 rfl Z0 rfl rfl) ah)))
   (ae (yW (K:=K) rfl rfl (vn 0 rfl Z0 rfl rfl) (ctE (hZ (K:=K) rfl) rfl T.b_list boot_list rfl rfl rfl (paE rfl (vn 2 rfl Z0 rfl rfl) ah)))
   (ae (yW (K:=K) rfl rfl (vn 0 rfl Z0 rfl rfl) (vn 3 rfl Z0 rfl rfl))
   (am (yW (K:=K) rfl rfl (vn 0 rfl Z0 rfl rfl) (cbE (uo (K:=K) rfl) rfl T.b_sorted boot_sorted rfl rfl rfl (paE rfl (opE hX (aD (lJ T) hr rfl rfl rfl rfl (paE rfl (vn 1 rfl Z0 rfl rfl) ah)) (aD (i4 T) hr rfl rfl rfl rfl (paE rfl (vn 2 rfl Z0 rfl rfl) ah))) ah))))))))))),?_⟩
  show bg _ _ _ [some (.ref g),some (.ref l),some (.ref m),none] H;refine aj fun D1 k1 _=>?_
  walk_at "rd";refine⟨l,cs,rfl,hl,hca,hnd,h1,by lia,fun H1 s1=>k1 _ _ (aj fun D2 k2 _=>?_)⟩;walk_at "rd";refine⟨l,cs,rfl,s1 _ _ hl,hca.up s1,h8,hly,fun r H2 ls s2 f2 h2 p2 q2=>k2 _ _ (aj fun D3 k3 _=>?_)⟩;have s12:=s1.trans s2;walk_at "rd";refine⟨m,r,ls,qs,rfl,s12 _ _ hm,h2,(hsa ls p2).up s12,by lia,fun H3 s3=>k3 _ _ (aj fun D4 k4 _=>?_)⟩;have s13:=s12.trans s3;have OC:=T.o_Ground.cls;have gl:l≠g:=fun e=>by rw[e,hg]at hl;cases hl
  have gm:m≠g:=fun e=>by rw[e,hg]at hm;cases hm
  have gr:r≠g:=fun e=>by rw[e,s1 _ _ hg]at f2;cases f2
  walk_at "rd";refine⟨_,.inl (SqL.of (s13 _ _ hl)),fun c1 hc1=>⟨_,_,_,ac.upd hc1 _ _ (s13 _ _ hg),OC,T.n_Ground_kept_cuts,(by show 0<1000;decide),k4 _ _ (aj fun D5 k5 _=>?_)⟩⟩;have c1g:c1≠g:=fun e=>by rw[e,s13 _ _ hg]at hc1;cases hc1
  have sc1:=ac.upd (o:= .lst (bU cs)) hc1;have b4:∀b o,b≠g->H3 b=some o->upd (upd H3 c1 (.lst (bU cs))) g (.ins (b8 mg "Ground") dx (cK (Str.ofString "kept_cuts") (V.ref c1) [])) b=some o:=fun b o hb e=>by rw[ai hb];exact sc1 _ _ e
  have g4:upd (upd H3 c1 (.lst (bU cs))) g (.ins (b8 mg "Ground") dx (cK (Str.ofString "kept_cuts") (V.ref c1) [])) g=some (.ins (b8 mg "Ground") dx [("kept_cuts",V.ref c1)]):=aa;have a4:upd (upd H3 c1 (.lst (bU cs))) g (.ins (b8 mg "Ground") dx (cK (Str.ofString "kept_cuts") (V.ref c1) [])) c1=some (.lst (bU cs)):=by rw[ai c1g];exact aa
  generalize upd (upd H3 c1 (.lst (bU cs))) g (.ins (b8 mg "Ground") dx (cK (Str.ofString "kept_cuts") (V.ref c1) []))=H4 at b4 g4 a4
  have n4:∀b,H4 b=none->b≠g:=fun b hb e=>by rw[e,g4]at hb;cases hb
  walk_at "rd";refine⟨_,.inl (SqL.of (b4 _ _ gm (s13 _ _ hm))),fun c2 hc2=>⟨_,_,_,ac.upd hc2 _ _ g4,OC,T.n_Ground_kept_sayings,(by show 1<1000;decide),k5 _ _ (aj fun D6 k6 _=>?_)⟩⟩;have c2g:=n4 c2 hc2;have sc2:=ac.upd (o:= .lst (qs.map fun q=>V.ref q.1)) hc2;have b5:∀b o,b≠g->H4 b=some o->upd (upd H4 c2 (.lst (qs.map fun q=>V.ref q.1))) g (.ins (b8 mg "Ground") dx (cK (Str.ofString "kept_sayings") (V.ref c2) [("kept_cuts",V.ref c1)])) b=some o:=fun b o hb e=>by rw[ai hb];exact sc2 _ _ e
  have g5:upd (upd H4 c2 (.lst (qs.map fun q=>V.ref q.1))) g (.ins (b8 mg "Ground") dx (cK (Str.ofString "kept_sayings") (V.ref c2) [("kept_cuts",V.ref c1)])) g=some (.ins (b8 mg "Ground") dx [("kept_cuts",V.ref c1),("kept_sayings",V.ref c2)]):=by rw[aa];rfl
  have a5:upd (upd H4 c2 (.lst (qs.map fun q=>V.ref q.1))) g (.ins (b8 mg "Ground") dx (cK (Str.ofString "kept_sayings") (V.ref c2) [("kept_cuts",V.ref c1)])) c2=some (.lst (qs.map fun q=>V.ref q.1)):=by rw[ai c2g];exact aa
  generalize upd (upd H4 c2 (.lst (qs.map fun q=>V.ref q.1))) g (.ins (b8 mg "Ground") dx (cK (Str.ofString "kept_sayings") (V.ref c2) [("kept_cuts",V.ref c1)]))=H5 at b5 g5 a5
  walk_at "rd";refine⟨_,_,_,g5,OC,T.n_Ground_kept_layers,(by show 2<1000;decide),k6 _ _ (aB fun D7 k7 _=>?_)⟩;have b6:∀b o,b≠g->H5 b=some o->upd H5 g (.ins (b8 mg "Ground") dx (cK (Str.ofString "kept_layers") (V.ref r) [("kept_cuts",V.ref c1),("kept_sayings",V.ref c2)])) b=some o:=fun b o hb e=>by rw[ai hb];exact e
  have g6:upd H5 g (.ins (b8 mg "Ground") dx (cK (Str.ofString "kept_layers") (V.ref r) [("kept_cuts",V.ref c1),("kept_sayings",V.ref c2)])) g=some (.ins (b8 mg "Ground") dx [("kept_cuts",V.ref c1),("kept_sayings",V.ref c2),("kept_layers",V.ref r)]):=by rw[aa];rfl
  generalize upd H5 g (.ins (b8 mg "Ground") dx (cK (Str.ofString "kept_layers") (V.ref r) [("kept_cuts",V.ref c1),("kept_sayings",V.ref c2)]))=H6 at b6 g6
  have b36:∀b o,b≠g->H3 b=some o->H6 b=some o:=fun b o hb e=>b6 b o hb (b5 b o hb (b4 b o hb e))
  have b06:∀b o,b≠g->H b=some o->H6 b=some o:=fun b o hb e=>b36 b o hb (s13 _ _ e)
  have hca6:bG H6 cs:=fun p hp=>⟨b06 _ _ (fun e=>by have:=(hca p hp).1;rw[e,hg]at this;cases this) (hca p hp).1,(hca p hp).2⟩
  have hsa6:cr H6 ls qs:=fun q hq=>⟨b06 _ _ (fun e=>by have:=(hsa ls p2 q hq).1;rw[e,hg]at this;cases this) (hsa ls p2 q hq).1,(hsa ls p2 q hq).2⟩
  walk_at "rd";refine⟨l,cs,rfl,b06 _ _ gl hl,hca6,hfe,h8,fun t1 H7 ts s7 f7 h7 ta7 ht3 htl=>?_⟩;walk_at "rd";refine⟨m,ls,qs,rfl,s7 _ _ (b06 _ _ gm hm),hsa6.up s7,by lia,fun t2 H8 us s8 f8 h8' ta8 hu3 hul=>?_⟩;walk_at "rd";have tall:aT H8 (ts++us):=qd (aQ ta7 fun b z e=>s8 _ _ e) ta8;have g8:=s8 _ _ (s7 _ _ g6);refine⟨_,s8 _ _ h7,_,h8',by rw[Z5,Z5,PySem.sizeLine_eq];lia,fun p hp=>⟨ts++us,by rw[Zc];exact SqL.of aa,aQ tall fun b z e=>ac.upd hp _ _ e,3,?_,by decide,by rw[Z8];lia,fun c4 ss hc4 pss qss=>⟨_,_,_,ac.upd hc4 _ _ (ac.upd hp _ _ g8),OC,T.n_Ground_kept_ties,(by show 3<1000;decide),k7 _ _ ?_⟩⟩⟩
  ·intro t ht;rcases X7 ht with z|z
   ·exact(ht3 t z).three
   ·exact(hu3 t z).three
  ·have c4g:c4≠g:=fun e=>by rw[e,ac.upd hp _ _ g8]at hc4;cases hc4
   have sp:=(ac.upd (o:= .lst (ts.map (fun p=>V.ref p.1) ++us.map fun p=>V.ref p.1)) hp).trans (ac.upd (o:= .lst (ss.map fun p=>V.ref p.1)) hc4);have b9:∀b o,b≠g->H8 b=some o->upd (upd (upd H8 p (.lst (ts.map (fun p=>V.ref p.1) ++us.map fun p=>V.ref p.1))) c4 (.lst (ss.map fun p=>V.ref p.1))) g (.ins (b8 mg "Ground") dx (cK (Str.ofString "kept_ties") (V.ref c4) [("kept_cuts",V.ref c1),("kept_sayings",V.ref c2),("kept_layers",V.ref r)])) b=some o:=fun b o hb e=>by rw[ai hb];exact sp _ _ e
   have b69:∀b o,b≠g->H6 b=some o->_:=fun b o hb e=>b9 b o hb (s8 _ _ (s7 _ _ e))
   have new:∀(c:Addr) (HH:Hp),(∀b o,b≠g->H b=some o->HH b=some o)->c≠g->HH c=none->H c=none:=fun c HH bb hc hn=>by
    cases e:H c with
    | none=>rfl
    | some o=>rw[bb c o hc e]at hn;cases hn
   refine k _ ls ss c2 r c4 (fun b o hb e=>b69 b o hb (b06 b o hb e)) ⟨⟨dx,c1,?_⟩,?_,?_,?_,?_,?_⟩ (fun t ht=>?_) (by rw[pss.length_eq,Z8];lia) p2 q2
   ·rw[aa];rfl
   ·exact b69 _ _ c2g (b6 _ _ c2g a5)
   ·exact b69 _ _ gr (b36 _ _ gr (s3 _ _ h2))
   ·rw[ai c4g];exact aa
   ·exact fun q hq=>⟨b69 _ _ (fun e=>by have:=(hsa6 q hq).1;rw[e,g6]at this;cases this) (hsa6 q hq).1,(hsa6 q hq).2⟩
   ·intro t ht;have:=tall t (pss.mem_iff.mp ht);exact⟨this.1,b9 _ _ (fun e=>by have q:=this.2;rw[e,g8]at q;cases q) this.2⟩
   ·rcases X7 (pss.mem_iff.mp ht)with z|z
    ·exact(ht3 t z).mono fun x=>p2.mem_iff.mpr
    ·exact hu3 t z
theorem dA(T:Txt K mg):wM P w K mg base 1 "Ground" "layers" ["self"] (uS mg):=by
 refine T.m_Ground_layers.cal jF (fun vs H Q E h=>?_) (fun f cdv A outer s H vs Q E hr h=>?_)
 ·obtain⟨g,c2,c3,c4,qs,ls,ts,rfl,_⟩:=h;rfl
 ·obtain⟨g,c2,c3,c4,qs,ls,ts,rfl,hg,k⟩:=h;obtain⟨dx,c1,h0⟩:=hg.at_;refine⟨_,(QSs.h (am (aK (ctE (hZ (K:=K) rfl) rfl T.b_list boot_list rfl rfl rfl (paE rfl (A5 (K:=K) rfl rfl (vn 0 rfl Z0 rfl rfl)) ah))))),?_⟩;show eM _ _ [some (.ref g)] H;walk_at "rd";refine⟨_,_,_,h0,T.o_Ground.cls,T.n_Ground_kept_layers,?_⟩;exact⟨_,rfl,_,rfl,_,.inl (SqL.of hg.a3),fun l hl=>k l hl⟩
theorem jI(T:Txt K mg):wM P w K mg base 1 "Ground" "sayings" ["self"] (rP mg):=by
 refine T.m_Ground_sayings.cal iW (fun vs H Q E h=>?_) (fun f cdv A outer s H vs Q E hr h=>?_)
 ·obtain⟨g,c2,c3,c4,qs,ls,ts,rfl,_⟩:=h;rfl
 ·obtain⟨g,c2,c3,c4,qs,ls,ts,rfl,hg,k⟩:=h;obtain⟨dx,c1,h0⟩:=hg.at_;refine⟨_,(QSs.h (am (aK (ctE (hZ (K:=K) rfl) rfl T.b_list boot_list rfl rfl rfl (paE rfl (A5 (K:=K) rfl rfl (vn 0 rfl Z0 rfl rfl)) ah))))),?_⟩;show eM _ _ [some (.ref g)] H;walk_at "rd";refine⟨_,_,_,h0,T.o_Ground.cls,T.n_Ground_kept_sayings,?_⟩;exact⟨_,rfl,_,rfl,_,.inl (SqL.of hg.a2),fun l hl=>k l hl⟩
theorem mz(T:Txt K mg):wM P w K mg base 1 "Ground" "ties" ["self"] (zi mg):=by
 refine T.m_Ground_ties.cal lD (fun vs H Q E h=>?_) (fun f cdv A outer s H vs Q E hr h=>?_)
 ·obtain⟨g,c2,c3,c4,qs,ls,ts,rfl,_⟩:=h;rfl
 ·obtain⟨g,c2,c3,c4,qs,ls,ts,rfl,hg,k⟩:=h;obtain⟨dx,c1,h0⟩:=hg.at_;refine⟨_,(QSs.h (am (aK (ctE (hZ (K:=K) rfl) rfl T.b_list boot_list rfl rfl rfl (paE rfl (A5 (K:=K) rfl rfl (vn 0 rfl Z0 rfl rfl)) ah))))),?_⟩;show eM _ _ [some (.ref g)] H;walk_at "rd";refine⟨_,_,_,h0,T.o_Ground.cls,T.n_Ground_kept_ties,?_⟩;exact⟨_,rfl,_,rfl,_,.inl (SqL.of hg.a4),fun l hl=>k l hl⟩
def cX(H:Hp)(ys:List (Addr×Str×Int)):Prop:=∀p∈ys,H p.1=some (.tup [.str p.2.1,.int p.2.2])/\0<=p.2.2/\p.2.2<=7
theorem cX.up(h:cX H ys)(s:ac H H'):cX H' ys:=fun p hp=>⟨s _ _ (h p hp).1,(h p hp).2⟩
def uT:Sp:=fun vs H Q _=>∃(one two:Int) (l:Addr) (ys:List (Addr×Str×Int)),vs=[.int one,.int two,.ref l]/\H l=some (.lst (ys.map fun p=>V.ref p.1))/\cX H ys/\1<=ys.length/\ys.length<=100/\0<=one/\0<=two/\
 ∀(t:Addr) H' (xs:List V),ac H H'->H t=none->H' t=some (.tup xs)->no (ys.map fun p=>p.2.1) xs->Q (.ref t) H'
theorem oE(T:Txt K mg):Cal P w K mg base 1 "_law_saying" ["_law_one","_law_two","_law_layers"] uT:=by
 refine T.d_law_saying.cal br (fun vs H Q E h=>?_) (fun f cdv A outer s H vs Q E hr h=>?_)
 ·obtain⟨one,two,l,ys,rfl,_⟩:=h;rfl
 ·obtain⟨one,two,l,ys,rfl,hl,hya,y1,y100,o0,t0,k⟩:=h;have get:∀n:Int,0<=n->∃q,atI (ys.map fun p=>V.ref p.1) (n%(ys.length:Int))=some (V.ref q.1)/\q∈ys:=fun n hn=>by
   have h0:=Int.emod_nonneg n (show(ys.length:Int)≠0 by lia);have h1:=Int.emod_lt_of_pos n (show(0:Int)<(ys.length:Int) by lia)
   generalize n%(ys.length:Int)=i at h0 h1
   obtain⟨j,rfl⟩:=X3 h0;have hj:j<ys.length:=by lia
   exact⟨ys[j],ci (by simp[hj]),Y6 hj⟩
  obtain⟨p,gp,mp⟩:=get one o0;obtain⟨q,gq,mq⟩:=get two t0;have hyl:(ys.map fun p=>V.ref p.1).length=ys.length:=Z5 _;have lpos:(0:Int)<(ys.length:Int):=by lia
  have pa:=hya p mp;have qa:=hya q mq;refine⟨_,(QSs.h (ae (yK rfl rfl rfl (dj (K:=K) rfl (fun _ _=>rfl) (vn 2 rfl Z0 rfl rfl) (opE bH (vn 0 rfl Z0 rfl rfl) (cbE (bV (K:=K) rfl) rfl T.b_len PySem.boot_len rfl rfl rfl (paE rfl (vn 2 rfl Z0 rfl rfl) ah)))) (eN (K:=K) rfl rfl rfl (gsE rfl (au 3 br.nd rfl Z0 Z1) (gsE rfl (au 4 br.nd rfl Z0 Z1) cu))))
   (ae (yK rfl rfl rfl (dj (K:=K) rfl (fun _ _=>rfl) (vn 2 rfl Z0 rfl rfl) (opE bH (vn 1 rfl Z0 rfl rfl) (cbE (bV (K:=K) rfl) rfl T.b_len PySem.boot_len rfl rfl rfl (paE rfl (vn 2 rfl Z0 rfl rfl) ah)))) (eN (K:=K) rfl rfl rfl (gsE rfl (au 5 br.nd rfl Z0 Z1) (gsE rfl (au 6 br.nd rfl Z0 Z1) cu))))
   (ae (aI 7 br.nd rfl Z0 Z1 rfl (opE bH (opE cB (vn 0 rfl Z0 rfl rfl) ap) ap))
   (ae (aI 8 br.nd rfl Z0 Z1 rfl (jo cL rfl (opE bH (opE cB (vn 1 rfl Z0 rfl rfl) ap) ap) ap))
   (ae (ifS (wT (kR (bu qN rfl (vn 7 rfl Z0 rfl rfl) ap) (kR (bu eA rfl (vn 3 rfl Z0 rfl rfl) (vn 5 rfl Z0 rfl rfl)) (iF (wT (orW (bu eA rfl (vn 4 rfl Z0 rfl rfl) (vn 6 rfl Z0 rfl rfl)) (j7 (ef (K:=K) rfl (fun _=>rfl) (vn 8 rfl Z0 rfl rfl)))))))))
   (ae (ifS (wT (kR (bu wl rfl (vn 4 rfl Z0 rfl rfl) (vn 6 rfl Z0 rfl rfl)) (iF (fS (ef (K:=K) rfl (fun _=>rfl) (vn 8 rfl Z0 rfl rfl))))))
    (am (aK (gR (paE rfl dh (paE rfl (vn 5 rfl Z0 rfl rfl) (paE rfl (vn 3 rfl Z0 rfl rfl) ah))))))
    aU)
    (am (aK (gR (paE rfl dh (paE rfl (vn 3 rfl Z0 rfl rfl) (paE rfl (vn 5 rfl Z0 rfl rfl) ah)))))))
   aU)
   (ae (ifS (wT (kR (bu (qO (K:=K) rfl) rfl (vn 7 rfl Z0 rfl rfl) (gR (paE rfl ap (paE rfl ap ah)))) (kR (bu eA rfl (vn 3 rfl Z0 rfl rfl) (vn 5 rfl Z0 rfl rfl)) (iF (wT (orW (bu cL rfl (vn 4 rfl Z0 rfl rfl) (vn 6 rfl Z0 rfl rfl)) (j7 (ef (K:=K) rfl (fun _=>rfl) (vn 8 rfl Z0 rfl rfl)))))))))
   (am (aK (gR (paE rfl dh (paE rfl (vn 3 rfl Z0 rfl rfl) (paE rfl (vn 5 rfl Z0 rfl rfl) ah))))))
   aU)
   (ae (aI 9 br.nd rfl Z0 Z1 rfl (opE ce (opE pc ap (opE eJ ap (vn 4 rfl Z0 rfl rfl))) (dj (K:=K) rfl (fun _ _=>rfl) (cz (paE rfl ap (paE rfl (qL ap) (paE rfl (qL ap) (paE rfl ap (paE rfl ap (paE rfl (qL ap) (paE rfl ap (paE rfl ap ah))))))))) (opE bH (vn 1 rfl Z0 rfl rfl) ap))))
   (am (aK (gR (paE rfl (dj (K:=K) rfl (fun _ _=>rfl) (cz (paE rfl dh (paE rfl dh ah))) (opE bH (vn 7 rfl Z0 rfl rfl) ap)) (paE rfl (vn 3 rfl Z0 rfl rfl) (paE rfl (vn 9 rfl Z0 rfl rfl) ah)))))))))))))),?_⟩
  show bg _ _ _ [some (.int one),some (.int two),some (.ref l),none,none,none,none,none,none,none] H;refine aj fun D1 k1 _=>?_
  walk_at "rd";refine⟨ys.length,.inl ⟨_,SqL.of hl,hyl.symm⟩,lpos,_,SqL.of hl,_,gp,_,rfl,_,SqT.of pa.1,rfl,_,_,rfl,_,_,rfl,rfl,k1 _ _ (aj fun D2 k2 _=>?_)⟩;walk_at "rd";refine⟨ys.length,.inl ⟨_,SqL.of hl,hyl.symm⟩,lpos,_,SqL.of hl,_,gq,_,rfl,_,SqT.of qa.1,rfl,_,_,rfl,_,_,rfl,rfl,k2 _ _ (aj fun D3 k3 _=>?_)⟩;walk_at "rd";refine⟨⟨by decide,by decide⟩,by decide,k3 _ _ (aj fun D4 k4 _=>?_)⟩;walk_at "rd";refine⟨⟨by decide,by decide⟩,by decide,k4 _ _ (aj fun D5 k5 r5=>?_)⟩;have b1:0<=one/64%8:=by lia
  have b2:one/64%8<8:=by lia
  generalize one/64%8=kind at b1 b2
  generalize decide (two/64%16=0)=odd
  obtain⟨pa0,pn,pi⟩:=p;obtain⟨qa0,qn,qi⟩:=q;dsimp only at pa qa gp gq;have mem:∀{r:Addr×Str×Int},r∈ys->r.2.1∈ys.map fun p=>p.2.1:=fun{r} hr=>Xa ⟨r,hr,rfl⟩
  have fin:∀(HH:Hp) (a b:Str),ac H HH->a∈(ys.map fun p=>p.2.1)->b∈(ys.map fun p=>p.2.1)->a≠b->∀w:Str,w="later"\/w="same"->∀t,HH t=none->Q (.ref t) (upd HH t (.tup [.str w,.str a,.str b])):=fun HH a b sh ha hb hab w hw t ht=>
   k t _ _ (sh.trans (ac.upd ht)) (sh.free ht) aa (.inl ⟨w,a,b,rfl,hw,ha,hb,hab⟩)
  have m1:pn∈ys.map fun p=>p.2.1:=mem mp
  have m2:qn∈ys.map fun p=>p.2.1:=mem mq
  have le3:3<=sizeLine:=by decide
  have rest:D5.nx [some (.int one),some (.int two),some (.ref l),some (.str pn),some (.int pi),some (.str qn),some (.int qi),some (.int kind),some (.bl odd),none] H:=by
   refine k5 _ _ (aj fun D6 k6 r6=>?_);have rest2:∀HH,ac H HH->D6.nx [some (.int one),some (.int two),some (.ref l),some (.str pn),some (.int pi),some (.str qn),some (.int qi),some (.int kind),some (.bl odd),none] HH:=by
    intro HH sh;refine k6 _ _ (aj fun D7 k7 _=>?_);walk_at "rd";refine⟨.inl ⟨by decide,by decide⟩,(show 8<=sizeLine by decide),fun p hp=>⟨by decide,_,SqL.of aa,?_⟩⟩;obtain⟨c,hc,hcm⟩:=iX [0,-20,-60,10,60,-200,110,0] (i:=two%8) (by lia) (by show two%8<8;lia);have hcb: -200<=c/\c<=110:=by
     simp only[Yn,Yu,or_false]at hcm
     lia
    refine⟨_,hc,c,rfl,k7 _ _ ?_⟩;walk_at "rd";obtain⟨wd,hwd,hw⟩:∃wd:Str,atI [V.str (Str.ofString "since"),V.str (Str.ofString "by")] (kind%2)=some (V.str wd)/\(wd="since"\/wd="by"):=by
     rcases(show kind%2=0\/kind%2=1 by lia)with e|e<;> rw[e]
     ·exact⟨_,rfl,.inl rfl⟩
     ·exact⟨_,rfl,.inr rfl⟩
    refine⟨(show 2<=sizeLine by decide),fun p1 hp1=>⟨by decide,_,SqL.of aa,_,hwd,le3,fun t ht=>?_⟩⟩;exact k t _ _ (sh.trans ((ac.upd hp).trans ((ac.upd hp1).trans (ac.upd ht)))) (sh.free ((ac.upd hp).free ((ac.upd hp1).free ht))) aa (.inr ⟨wd,pn,_,rfl,hw,m1,by lia,by lia⟩)
   walk_at "rd";refine⟨(show 2<=sizeLine by decide),fun p hp=>⟨_,.inr (SqT.of aa),rfl,rfl,?_⟩⟩;have sp:=ac.upd (o:= .tup [V.int 2,V.int 3]) hp
   generalize upd H p (.tup [V.int 2,V.int 3])=H6 at sp
   have R:=rest2 H6 sp;refine bw (fun _=>bw (fun hne=>?_) fun _=>R) fun _=>R
   have hne:pn≠qn:=by simpa using hne
   have L:3<=sizeLine/\∀p,H6 p=none->D6.rt (.ref p) (upd H6 p (.tup [V.str (Str.ofString "same"),V.str pn,V.str qn])):=⟨le3,fun t ht=>r6 _ _ (fin H6 pn qn sp m1 m2 hne _ (.inr rfl) t ht)⟩
   exact bw (fun _=>L) fun _=>bw (fun _=>L) fun _=>R
  walk_at "rd";refine bw (fun _=>bw (fun hne=>?_) fun _=>rest) fun _=>rest
  have hne:pn≠qn:=by simpa using hne
  have L1:3<=sizeLine/\∀p,H p=none->D5.rt (.ref p) (upd H p (.tup [V.str (Str.ofString "later"),V.str qn,V.str pn])):=⟨le3,fun t ht=>r5 _ _ (fin H qn pn (ac.refl H) m2 m1 (Ne.symm hne) _ (.inl rfl) t ht)⟩
  have L2:3<=sizeLine/\∀p,H p=none->D5.rt (.ref p) (upd H p (.tup [V.str (Str.ofString "later"),V.str pn,V.str qn])):=⟨le3,fun t ht=>r5 _ _ (fin H pn qn (ac.refl H) m1 m2 hne _ (.inl rfl) t ht)⟩
  exact bw (fun _=>bw (fun _=>bw (fun _=>L1) fun _=>L2) fun _=>L2) fun _=>bw (fun _=>bw (fun _=>bw (fun _=>L1) fun _=>L2) fun _=>L2) fun _=>rest
structure Drn where
 name:Str
 cols:List (List Int)
 hi:Nat
 sh:Int
 wd:Bool
noncomputable def Drn.rows(d:Drn):List Str:=drawn d.cols d.hi d.sh
def jY(d:Drn):Prop:=iZ d.name=true/\1<=d.hi/\d.hi<=6/\1<=d.cols.length/\d.cols.length<=5/\∀c∈d.cols,c.length=d.hi/\iT d.wd c
theorem jY.cut(h:jY d):bW d.rows:=pY h.2.1 (by have:=h.2.2.1;lia) h.2.2.2.1 (by have:=h.2.2.2.2.1;lia) h.2.2.2.2.2
noncomputable def fD(d:Drn):List (Str×Int):=(there d.cols).map fun a=>(cN d.name (sg a d.sh),a)
noncomputable def dcs(ds:List (Addr×Drn)):List (Addr×Str×List Str):=ds.map fun p=>(p.1,p.2.name,p.2.rows)
noncomputable def nmK(k:Int):Str:=if k=0 then "north" else if k=1 then "a" else if k=2 then "wallwest" else "zz"
def uU(K:PySem.W.Frag):Sp:=fun vs H Q _=>∃(a:Addr) (xs:List Int),vs=[.ref a]/\SqL K H a (xs.map V.int)/\(∀H',ac H H'->SqL K H' a (xs.map V.int))/\xs.length=43/\(∀x∈xs,0<=x/\x<9973)/\
 ∀(t l1 l2 l3:Addr) H' (ds:List (Addr×Drn)) (qs:List (Addr×List V)),ac H H'->H t=none->H l1=none->H l2=none->H l3=none->l1≠l2->l1≠l3->l2≠l3->
  H' t=some (.tup [.ref l1,.ref l2,.ref l3])->H' l1=some (.lst (bU (dcs ds)))->H' l2=some (.lst (qs.map fun q=>V.ref q.1))->H' l3=some (.lst ((ds.flatMap fun p=>(fD p.2).map (·.1)).map V.str))->
  1<=ds.length->ds.length<=3->(∀p∈ds,jY p.2)->(ds.map fun p=>p.2.name).Nodup->bG H' (dcs ds)->cr H' (ds.flatMap fun p=>(fD p.2).map (·.1)) qs->qs.length<=12->(∀p∈ds,∃k:Int,p.2.name=nmK k)->1<=(ds.flatMap fun p=>(fD p.2).map (·.1)).length/\(ds.flatMap fun p=>(fD p.2).map (·.1)).length<=24->Q (.ref t) H'
theorem i5(h:H M=some (.lst xs)):∀b z,H b=some (.tup z)->upd H M (.lst ys) b=some (.tup z):=fun b z e=>by
 rw[ai (fun e2=>by rw[e2,h]at e;cases e)];exact e
theorem cX.keep(h:cX H ys)(t:∀b z,H b=some (.tup z)->H' b=some (.tup z)):cX H' ys:=fun p hp=>⟨t _ _ (h p hp).1,(h p hp).2⟩
theorem bG.keep(h:bG H cs)(t:∀b z,H b=some (.tup z)->H' b=some (.tup z)):bG H' cs:=fun p hp=>⟨t _ _ (h p hp).1,(h p hp).2⟩
theorem cr.keep(h:cr H ls qs)(t:∀b z,H b=some (.tup z)->H' b=some (.tup z)):cr H' ls qs:=fun p hp=>⟨t _ _ (h p hp).1,(h p hp).2⟩
theorem bG.snoc(h:bG H cs)(hq:H q.1=some (.tup [.str q.2.1,.str (Str.join nl q.2.2)])/\iZ q.2.1=true/\bW q.2.2):bG H (cs++[q]):=fun p hp=>by
 rcases X7 hp with z|z
 ·exact h p z
 ·rw[X8 z];exact hq
theorem cX.snoc(h:cX H ys)(hq:H q.1=some (.tup [.str q.2.1,.int q.2.2])/\0<=q.2.2/\q.2.2<=7):cX H (ys++[q]):=fun p hp=>by
 rcases X7 hp with z|z
 ·exact h p z
 ·rw[X8 z];exact hq
theorem uV(n:Str)(c:Nat):n++Str.ofString "."++sgn c=cN n c:=by
 refine gC ?_;show(n.cps++ #[46] ++ #[c]).toList=(n.cps.toList++[46,c]).toArray.toList;simp
theorem Bp(k:Int):iZ (nmK k)=true:=by
 unfold nmK
 split
 ·decide +kernel
 ·split
  ·decide +kernel
  ·split<;> decide +kernel
theorem zj(j0:0<=j)(j4:j<4)(k0:0<=k)(k4:k<4)(h:nmK j=nmK k):j=k:=by
 have all:∀a b:Fin 4,nmK (a.1:Int)=nmK (b.1:Int)->a=b:=by decide +kernel
 obtain⟨a,rfl⟩:=X3 j0;obtain⟨b,rfl⟩:=X3 k0;have:=all ⟨a,by lia⟩ ⟨b,by lia⟩ h;have:=congrArg Fin.val this;dsimp only at this
 lia
theorem oF(T:Txt K mg):Cal P w K mg base 3 "_law_ground" ["_law_row_here"] (uU K):=by
 refine T.d_law_ground.cal aM (fun vs H Q E h=>?_) (fun f cdv A outer s H vs Q E hr h=>?_)
 ·obtain⟨a,xs,rfl,_⟩:=h;rfl
 ·obtain⟨a,xs,rfl,hs,keep,hx43,hb,kk⟩:=h;have get:∀i:Int,0<=i->i<43->∃c,atI (xs.map V.int) i=some (V.int c)/\0<=c/\c<9973:=fun i h0 h1=>by
   obtain⟨c,e,hm⟩:=iX xs h0 (by lia);exact⟨c,e,hb c hm⟩
  obtain⟨c0,g0,l0,u0⟩:=get 0 (by decide) (by decide);refine⟨_,(QSs.h (ae (aI 1 aM.nd rfl Z0 Z1 rfl (cz ah))
   (ae (aI 2 aM.nd rfl Z0 Z1 rfl (cz ah))
   (ae (cA PassesOwn.never rfl rfl (jS rfl T.b_range rfl (paE rfl (opE ce ap (opE bH (dj (K:=K) rfl (fun _ _=>rfl) (vn 0 rfl Z0 rfl rfl) ap) ap)) ah)) (au 3 aM.nd rfl Z0 Z1)
   (ae (aI 4 aM.nd rfl Z0 Z1 rfl (dj (K:=K) rfl (fun _ _=>rfl) (cz (paE rfl dh (paE rfl dh (paE rfl dh (paE rfl dh ah))))) (opE bH (opE ce (vn 3 rfl Z0 rfl rfl) (opE cB (dj (K:=K) rfl (fun _ _=>rfl) (vn 0 rfl Z0 rfl rfl) ap) ap)) ap)))
    (ae (aI 5 aM.nd rfl Z0 Z1 rfl (opE ce (opE cB (dj (K:=K) rfl (fun _ _=>rfl) (vn 0 rfl Z0 rfl rfl) ap) ap) (opE eJ ap (vn 3 rfl Z0 rfl rfl))))
    (ae (yK rfl rfl rfl (aD (uH T) hr rfl rfl rfl rfl (paE rfl (slE (K:=K) rfl (vn 0 rfl Z0 rfl rfl) (oY (opE ce ap (opE eJ ap (vn 3 rfl Z0 rfl rfl)))) (oY (opE ce ap (opE eJ ap (vn 3 rfl Z0 rfl rfl))))) (paE rfl (vn 5 rfl Z0 rfl rfl) ah))) (eN (K:=K) rfl rfl rfl (gsE rfl (au 6 aM.nd rfl Z0 Z1) (gsE rfl (au 7 aM.nd rfl Z0 Z1) cu))))
    (ae (bD rfl (bmE (K:=K) rfl plainAttrs_list PySem.F.slot_list_append PySem.F.type_list_append aV rfl rfl rfl rfl (vn 1 rfl Z0 rfl rfl) (paE rfl (gR (paE rfl (vn 4 rfl Z0 rfl rfl) (paE rfl (vn 6 rfl Z0 rfl rfl) ah))) ah)))
    (am (cA PassesOwn.never rfl rfl (cw (K:=K) rfl (vn 7 rfl Z0 rfl rfl)) (au 8 aM.nd rfl Z0 Z1)
    (am (bD rfl (bmE (K:=K) rfl plainAttrs_list PySem.F.slot_list_append PySem.F.type_list_append aV rfl rfl rfl rfl (vn 2 rfl Z0 rfl rfl) (paE rfl (gR (paE rfl (opE hX (opE hX (vn 4 rfl Z0 rfl rfl) dh) (aD (lE T) hr rfl rfl rfl rfl (paE rfl (vn 8 rfl Z0 rfl rfl) (paE rfl (vn 5 rfl Z0 rfl rfl) ah)))) (paE rfl (vn 8 rfl Z0 rfl rfl) ah))) ah)))))))))))
   (ae (aI 9 aM.nd rfl Z0 Z1 rfl (opE bH (opE cB (dj (K:=K) rfl (fun _ _=>rfl) (vn 0 rfl Z0 rfl rfl) ap) ap) ap))
   (ae (aI 10 aM.nd rfl Z0 Z1 rfl (cz ah))
   (ae (cA PassesOwn.never rfl rfl (jS rfl T.b_range rfl (paE rfl (vn 9 rfl Z0 rfl rfl) ah)) (au 3 aM.nd rfl Z0 Z1)
   (am (bD rfl (bmE (K:=K) rfl plainAttrs_list PySem.F.slot_list_append PySem.F.type_list_append aV rfl rfl rfl rfl (vn 10 rfl Z0 rfl rfl) (paE rfl (aD (oE T) hr rfl rfl rfl rfl (paE rfl (dj (K:=K) rfl (fun _ _=>rfl) (vn 0 rfl Z0 rfl rfl) (opE ce ap (opE eJ ap (vn 3 rfl Z0 rfl rfl)))) (paE rfl (dj (K:=K) rfl (fun _ _=>rfl) (vn 0 rfl Z0 rfl rfl) (opE ce ap (opE eJ ap (vn 3 rfl Z0 rfl rfl)))) (paE rfl (vn 2 rfl Z0 rfl rfl) ah)))) ah)))))
   (am (aK (gR (paE rfl (vn 1 rfl Z0 rfl rfl) (paE rfl (vn 10 rfl Z0 rfl rfl) (paE rfl (fH (aE.of (show bT (af dH) ["_law_row_here","_law_cuts","_law_layers","_law_k","_law_name","_law_shift","_law_text","_law_there","_law_at","_law_many","_law_sayings"] _ ["_law_layer","_law_at"] []=true from by decide +kernel)) rfl rfl (cw (K:=K) rfl (vn 2 rfl Z0 rfl rfl)) (fun _ _ _=>(eN (K:=K) rfl rfl rfl (gsE rfl (au 0 (show(["_law_layer","_law_at"]:List Str).Nodup from by decide +kernel) rfl Z0 Z1) (gsE rfl (au 1 (show(["_law_layer","_law_at"]:List Str).Nodup from by decide +kernel) rfl Z0 Z1) cu)))) (fun _ _ _=>j8) (fun _ _ _=>(vn 0 rfl Z0 rfl rfl))) ah))))))))))))),?_⟩
  show bg _ _ _ [some (.ref a),none,none,none,none,none,none,none,none,none,none] H;refine aj fun D1 k1 _=>?_
  walk_at "rd";refine⟨X0 _,fun L1 hL1=>k1 _ _ (aj fun D2 k2 _=>?_)⟩;have s1:=ac.upd (o:= .lst []) hL1;walk_at "rd";refine⟨X0 _,fun L3 hL3=>k2 _ _ (aj fun D3 k3 _=>av fun Kont hK=>?_)⟩;have s2:=s1.trans (ac.upd (o:= .lst []) hL3);have h13:L1≠L3:=fun e=>by rw[<-e,aa]at hL3;cases hL3
  walk_at "rd";refine⟨_,keep _ s2,_,g0,c0,rfl,by decide,?_⟩;refine⟨by lia,by lia,hK _ _ (cP (fun i σ H'=>∃o3 o4 o5 o6 o7 o8,σ=[some (.ref a),some (.ref L1),some (.ref L3),o3,o4,o5,o6,o7,o8,none,none]/\ac H H'/\∃(ds:List (Addr×Drn)) (ys:List (Addr×Str×Int)),ds.length=i/\H' L1=some (.lst (bU (dcs ds)))/\H' L3=some (.lst (ys.map fun p=>V.ref p.1))/\cX H' ys/\(ys.map (·.2))=(ds.flatMap fun p=>fD p.2)/\
   bG H' (dcs ds)/\(∀p∈ds,jY p.2)/\ds.map (fun p=>p.2.name)=(List.range i).map fun k:Nat=>nmK (((k:Int) +c0/3)%4))
   ⟨_,_,_,_,_,_,rfl,s2,[],[],rfl,by rw[ai h13];exact aa,aa,fun p hp=>(nomatch hp),rfl,fun p hp=>(nomatch hp),fun p hp=>(nomatch hp),rfl⟩ ?_ ?_)⟩
  ·rintro i σ H3 hi ⟨o3,o4,o5,o6,o7,o8,rfl,s3,ds,ys,hdl,h3L1,h3L3,hya,hyl,hca,hdo,hnm⟩;have hi3:i<3:=by lia
   show bg _ _ _ [some (.ref a),some (.ref L1),some (.ref L3),some (.int (0+i)),o4,o5,o6,o7,o8,none,none] H3;rw[Int.zero_add];refine aj fun D4 k4 _=>?_
   walk_at "rd";obtain⟨nm,hnmE,enm⟩:∃nm:Str,atI [V.str (Str.ofString "north"),V.str (Str.ofString "a"),V.str (Str.ofString "wallwest"),V.str (Str.ofString "zz")] (((i:Int) +c0/3)%4)=some (V.str nm)/\nm=nmK (((i:Int) +c0/3)%4):=by
    rcases(show((i:Int) +c0/3)%4=0\/((i:Int) +c0/3)%4=1\/((i:Int) +c0/3)%4=2\/((i:Int) +c0/3)%4=3 by lia)with e|e|e|e<;> rw[e]<;> exact⟨_,rfl,rfl⟩
   have nok:iZ nm=true:=by rw[enm];exact Bp _
   refine⟨(show 4<=sizeLine by decide),fun p hp=>⟨_,keep _ (s3.trans (ac.upd hp)),_,g0,c0,rfl,⟨by decide,by decide⟩,by decide,_,SqL.of aa,_,hnmE,k4 _ _ (aj fun D5 k5 _=>?_)⟩⟩;have sp:=ac.upd (o:= .lst [V.str (Str.ofString "north"),V.str (Str.ofString "a"),V.str (Str.ofString "wallwest"),V.str (Str.ofString "zz")]) hp
   generalize upd H3 p (.lst [V.str (Str.ofString "north"),V.str (Str.ofString "a"),V.str (Str.ofString "wallwest"),V.str (Str.ofString "zz")])=H4 at sp
   have s4:=s3.trans sp;walk_at "rd";refine⟨_,keep _ s4,_,g0,c0,rfl,⟨by decide,by decide⟩,.inl ⟨by decide,by decide⟩,k5 _ _ (aj fun D6 k6 _=>?_)⟩;have sh0:0<=c0/12+3*(i:Int):=by lia
   generalize c0/12+3*(i:Int)=sh at sh0
   walk_at "rd";refine⟨.inl ⟨by decide,by decide⟩,.inl ⟨by decide,by decide⟩,.inl ⟨_,keep _ s4,fun p2 hp2=>?_⟩⟩;rw[qb xs (by lia) (by lia) (by lia)];have hws:((xs.drop (1+6*(i:Int)).toNat).take ((7+6*(i:Int)).toNat-(1+6*(i:Int)).toNat)).length=6:=by
    rw[Yd,Y9,hx43];exact(by decide:∀i:Nat,i<3->min ((7+6*(i:Int)).toNat-(1+6*(i:Int)).toNat) (43-(1+6*(i:Int)).toNat)=6) i (by lia)
   have hwb:∀x∈(xs.drop (1+6*(i:Int)).toNat).take ((7+6*(i:Int)).toNat-(1+6*(i:Int)).toNat),0<=x/\x<9973:=fun x hx=>hb x (List.mem_of_mem_drop (Yo hx))
   generalize (xs.drop (1+6*(i:Int)).toNat).take ((7+6*(i:Int)).toNat-(1+6*(i:Int)).toNat)=ws at hws hwb
   refine⟨p2,ws,sh,rfl,SqL.of aa,fun H' sm=>SqL.of (sm _ _ aa),hws,hwb,sh0,fun T5 th H5 cols hi5 wd5 s5 f5 f5' n5 hT5 hth hh1 hh6 hw1 hw5 hcols=>⟨T5,rfl,_,SqT.of hT5,rfl,_,_,rfl,_,_,rfl,rfl,k6 _ _ (aj fun D7 k7 _=>?_)⟩⟩;have s45:ac H3 H5:=sp.trans ((ac.upd hp2).trans s5);have hdrn:jY ⟨nm,cols,hi5,sh,wd5⟩:=⟨nok,hh1,hh6,hw1,hw5,hcols⟩
   have hthn:H3 th=none:=sp.free ((ac.upd hp2).free f5');have th1:th≠L1:=fun e=>by rw[e,h3L1]at hthn;cases hthn
   have th3:th≠L3:=fun e=>by rw[e,h3L3]at hthn;cases hthn
   walk_at "rd";refine⟨.inl ⟨_,SqL.of (s45 _ _ h3L1)⟩,(show 2<=sizeLine by decide),fun p6 hp6=>?_⟩;have s6:=ac.upd (o:= .tup [V.str nm,V.str (nl.join (drawn cols hi5 sh))]) hp6;have g6:upd H5 p6 (.tup [V.str nm,V.str (nl.join (drawn cols hi5 sh))]) p6=_:=aa;have hL5:=s6 _ _ (s45 _ _ h3L1)
   generalize upd H5 p6 (.tup [V.str nm,V.str (nl.join (drawn cols hi5 sh))])=H6 at s6 g6 hL5
   have s36:=s45.trans s6;refine⟨_,hL5,by rw[show(bU (dcs ds)).length=ds.length by unfold bU dcs;rw[Z5,Z5],hdl];exact aH (by lia),k7 _ _ (aB fun D8 k8 _=>av fun Kont hK=>?_)⟩;have tk:=i5 (ys:=bU (dcs ds) ++[V.ref p6]) hL5;have sm7:ac H (upd H6 L1 (.lst (bU (dcs ds) ++[V.ref p6]))):=ac.set (s3.trans s36) hL1;have l17:upd H6 L1 (.lst (bU (dcs ds) ++[V.ref p6])) L1=some (.lst (bU (dcs (ds++[(p6,⟨nm,cols,hi5,sh,wd5⟩)])))):=by
    rw[aa];unfold bU dcs;rw[Zc,Zc];rfl
   have l37:upd H6 L1 (.lst (bU (dcs ds) ++[V.ref p6])) L3=some (.lst (ys.map fun p=>V.ref p.1)):=by rw[ai (Ne.symm h13)];exact s36 _ _ h3L3
   have th7:upd H6 L1 (.lst (bU (dcs ds) ++[V.ref p6])) th=some (.lst ((there cols).map V.int)):=by rw[ai th1];exact s6 _ _ hth
   have ca7:bG (upd H6 L1 (.lst (bU (dcs ds) ++[V.ref p6]))) (dcs (ds++[(p6,⟨nm,cols,hi5,sh,wd5⟩)])):=by
    rw[show dcs (ds++[(p6,⟨nm,cols,hi5,sh,wd5⟩)])=dcs ds++[(p6,nm,drawn cols hi5 sh)] by unfold dcs;rw[Zc];rfl];exact((hca.up s36).snoc ⟨g6,nok,hdrn.cut⟩).keep tk
   have ya7:cX (upd H6 L1 (.lst (bU (dcs ds) ++[V.ref p6]))) ys:=(hya.up s36).keep tk
   generalize upd H6 L1 (.lst (bU (dcs ds) ++[V.ref p6]))=H7 at sm7 l17 l37 th7 ca7 ya7
   have ylen:ys.length<=8*i:=by
    have e:=congrArg List.length hyl;rw[Z5,List.length_flatMap]at e;have:=nR (f:=fun p:Addr×Drn=>(fD p.2).length) (B:=8) (xs:=ds) fun p _=>by
     unfold fD;rw[Z5];exact jw _
    lia
   walk_at "rd";refine .inl ⟨⟨_,SqL.of th7⟩,hK _ _ (bd (xs:=(there cols).map V.int) (fun j σ H'=>∃o8,σ=[some (.ref a),some (.ref L1),some (.ref L3),some (.int i),some (.str nm),some (.int sh),some (.str (nl.join (drawn cols hi5 sh))),some (.ref th),o8,none,none]/\ac H H'/\H' L1=some (.lst (bU (dcs (ds++[(p6,⟨nm,cols,hi5,sh,wd5⟩)]))))/\H' th=some (.lst ((there cols).map V.int))/\bG H' (dcs (ds++[(p6,⟨nm,cols,hi5,sh,wd5⟩)]))/\
    ∃zs:List (Addr×Str×Int),H' L3=some (.lst ((ys++zs).map fun p=>V.ref p.1))/\cX H' (ys++zs)/\zs.map (·.2)=((there cols).take j).map fun a=>(cN nm (sg a sh),a))
    ⟨_,rfl,sm7,l17,th7,ca7,[],by rw[Zw];exact l37,by rw[Zw];exact ya7,rfl⟩ (fun j σ H' _ ⟨_,_,_,_,q,_⟩=>SqL.of q) ?_ ?_)⟩
   ·rintro j x σ H8 hx ⟨o8,rfl,s8,h8L1,h8th,ca8,zs,h8L3,ya8,hzs⟩;have hj:j<(there cols).length:=by have:=(X6 hx).1;rwa[Z5]at this
    rw[Zk,Z4 hj]at hx;obtain rfl:x=V.int (there cols)[j]:=(Z9 hx).symm;have hat:=dL.mp (Y6 hj);show iz _ _ [some (.ref a),some (.ref L1),some (.ref L3),some (.int i),some (.str nm),some (.int sh),some (.str (nl.join (drawn cols hi5 sh))),some (.ref th),some (.int (there cols)[j]),none,none] H8;refine aB fun D9 k9 _=>?_
    walk_at "rd";have nlen:=lI nok;have ea:∀a b:Str,(a++b).length=a.length+b.length:=fun a b=>size_append
    have e1:(Str.ofString ".").length=1:=rfl;have zl:zs.length<=j:=by
     have:=congrArg List.length hzs;rw[Z5,Z5,Yd]at this
     lia
    have tl:=jw cols;refine⟨.inl ⟨_,SqL.of h8L3⟩,bQ (by lia),_,_,rfl,sh0,_,rfl,bQ (by rw[ea,show(sgn (sg (there cols)[j] sh)).length=1 from rfl];lia),(show 2<=sizeLine by decide),fun p hp=>?_⟩;rw[uV];have s9:=ac.upd (o:= .tup [V.str (cN nm (sg (there cols)[j] sh)),V.int (there cols)[j]]) hp;have g9:upd H8 p (.tup [V.str (cN nm (sg (there cols)[j] sh)),V.int (there cols)[j]]) p=_:=aa
    generalize upd H8 p (.tup [V.str (cN nm (sg (there cols)[j] sh)),V.int (there cols)[j]])=H9 at s9 g9
    have hL9:=s9 _ _ h8L3;have tk9:=i5 (ys:=(ys++zs).map (fun p=>V.ref p.1) ++[V.ref p]) hL9;refine⟨_,hL9,by rw[Z5,Z8];exact aH (by lia),k9 _ _ ⟨_,rfl,ac.set (s8.trans s9) (s1.free hL3),by rw[ai h13];exact s9 _ _ h8L1,by rw[ai th3];exact s9 _ _ h8th,(ca8.up s9).keep tk9,zs++[(p,cN nm (sg (there cols)[j] sh),(there cols)[j])],?_,?_,?_⟩⟩
    ·rw[aa,<-Zd,Zc (l₂:=[(p,cN nm (sg (there cols)[j] sh),(there cols)[j])])];rfl
    ·rw[<-Zd];exact((ya8.up s9).snoc ⟨g9,hat.1,hat.2.1⟩).keep tk9
    ·rw[Zc,hzs,Yx,Z4 hj,Zc];rfl
   ·rintro σ H8 ⟨o8,rfl,s8,h8L1,h8th,ca8,zs,h8L3,ya8,hzs⟩;rw[Z5,Zm (Zh _)]at hzs;refine k8 _ _ ⟨_,_,_,_,_,_,rfl,s8,ds++[(p6,⟨nm,cols,hi5,sh,wd5⟩)],ys++zs,by rw[Z8,hdl];rfl,h8L1,h8L3,ya8,?_,ca8,fun p hp=>?_,?_⟩
    ·rw[Zc,hyl,hzs,List.flatMap_append]
     congr 1
     rw[List.flatMap_singleton];rfl
    ·rcases X7 hp with z|z
     ·exact hdo p z
     ·rw[X8 z];exact hdrn
    ·rw[Zc,hnm,range_succ,Zc];rw[enm];rfl
  ·rintro σ H3 ⟨o3,o4,o5,o6,o7,o8,rfl,s3,ds,ys,hdl,h3L1,h3L3,hya,hyl,hca,hdo,hnm⟩;refine k3 _ _ (aj fun D4 k4 _=>?_);walk_at "rd";refine⟨_,keep _ s3,_,g0,c0,rfl,⟨by decide,by decide⟩,by decide,k4 _ _ (aj fun D5 k5 _=>?_)⟩;have m0:0<=c0/100%13:=by lia
   have m12:c0/100%13<=12:=by lia
   generalize c0/100%13=many at m0 m12
   walk_at "rd";refine⟨X0 _,fun L2 hL2=>k5 _ _ (aj fun D6 k6 _=>av fun Kont hK=>?_)⟩;have h21:L2≠L1:=fun e=>by rw[e,h3L1]at hL2;cases hL2
   have h23:L2≠L3:=fun e=>by rw[e,h3L3]at hL2;cases hL2
   have sL2:=ac.upd (o:= .lst []) hL2;have hd1:1<=ds.length:=by lia
   have hd3:ds.length<=3:=by lia
   have ylen:ys.length<=24/\1<=ys.length:=by
    have e:=congrArg List.length hyl;rw[Z5,List.length_flatMap]at e;have:=nR (f:=fun p:Addr×Drn=>(fD p.2).length) (B:=8) (xs:=ds) fun p _=>by
     unfold fD;rw[Z5];exact jw _
    refine⟨by lia,Nat.pos_of_ne_zero fun z=>?_⟩;have hy0:ys=[]:=length_eq_zero_iff.mp z;rw[hy0]at hyl;have hpd:0<ds.length:=by lia
    have hq:=hdo ds[0] (Y6 hpd);have hne:=xa hq.2.1 hq.2.2.2.1 hq.2.2.2.2.2;obtain⟨a',ha'⟩:=List.exists_mem_of_ne_nil _ hne;have:(cN ds[0].2.name (sg a' ds[0].2.sh),a')∈ds.flatMap fun p=>fD p.2:=mem_flatMap.mpr ⟨ds[0],Y6 hpd,Xa ⟨a',ha',rfl⟩⟩
    rw[<-hyl]at this;cases this
   have hnames:(ys.map fun p=>p.2.1)=ds.flatMap fun p=>(fD p.2).map (·.1):=by
    have e:=congrArg (List.map (·.1)) hyl;rw[Yj,List.map_flatMap]at e;exact e
   walk_at "rd";refine⟨by lia,by lia,hK _ _ (cP (fun i σ H'=>∃o3,σ=[some (.ref a),some (.ref L1),some (.ref L3),o3,o4,o5,o6,o7,o8,some (.int many),some (.ref L2)]/\ac H3 H'/\∃qs:List (Addr×List V),H' L2=some (.lst (qs.map fun q=>V.ref q.1))/\qs.length=i/\cr H' (ys.map fun p=>p.2.1) qs)
    ⟨_,rfl,sL2,[],aa,rfl,fun q hq=>(nomatch hq)⟩ ?_ ?_)⟩
   ·rintro i σ H4 hi4 ⟨o3,rfl,s4,qs,h4L2,hql,hsa⟩;show iz _ _ [some (.ref a),some (.ref L1),some (.ref L3),some (.int (0+i)),o4,o5,o6,o7,o8,some (.int many),some (.ref L2)] H4;rw[Int.zero_add];obtain⟨x1,gx1,lx1,ux1⟩:=get (19+2*(i:Int)) (by lia) (by lia);obtain⟨x2,gx2,lx2,ux2⟩:=get (20+2*(i:Int)) (by lia) (by lia);refine aB fun D7 k7 _=>?_
    walk_at "rd";refine⟨.inl ⟨_,SqL.of h4L2⟩,.inl ⟨by decide,by decide⟩,_,keep _ (s3.trans s4),_,gx1,.inl ⟨by decide,by decide⟩,_,keep _ (s3.trans s4),_,gx2,?_⟩;refine⟨x1,x2,L3,ys,rfl,s4 _ _ h3L3,hya.up s4,ylen.2,by lia,lx1,lx2,fun t H5 xs' s5 f5 h5 ok5=>?_⟩;have hL5:=s5 _ _ h4L2;have tk5:=i5 (ys:=qs.map (fun q=>V.ref q.1) ++[V.ref t]) hL5;walk_at "rd";refine⟨_,hL5,by rw[Z5];exact aH (by lia),k7 _ _ ⟨_,rfl,ac.set (s4.trans s5) hL2,qs++[(t,xs')],by rw[aa,Zc];rfl,by rw[Z8,hql];rfl,fun q hq=>?_⟩⟩;rcases X7 hq with z|z
    ·exact(((hsa.up s5).keep tk5) q z)
    ·rw[X8 z];exact⟨tk5 _ _ h5,ok5⟩
   ·rintro σ H4 ⟨o3,rfl,s4,qs,h4L2,hql,hsa⟩;refine k6 _ _ ?_;walk_at "rd";refine aP fun Kont hK=>?_
    walk_at "rd";have h4L3:=s4 _ _ h3L3;refine .inl ⟨⟨_,SqL.of h4L3⟩,hK _ _ fun N hN=>?_⟩;refine bC (J:=Itl K L3) (n:=ys.length) (D:=N) (fun j ts σ H'=>(∃o1 o2,σ=[o1,o2])/\ac H4 H'/\H' N=some (.lst ts)/\ts=((ys.take j).map fun p=>p.2.1).map V.str)
     ⟨⟨none,none,rfl⟩,ac.upd hN,aa,rfl⟩
     (fun j _ _ H' hj ⟨_,sm,_⟩=>⟨_,V.ref ys[j].1,SqL.of (sm _ _ h4L3),by simp[hj]⟩) (fun _ _ H' ⟨_,sm,_⟩=>⟨_,SqL.of (sm _ _ h4L3),by simp⟩) ?_ ?_
    ·rintro j ts σ H5 hj ⟨⟨o1,o2,rfl⟩,s5,hNv,ht⟩ x H6 ⟨e2,hx⟩;subst e2;have hxi:=hx _ (SqL.of (s5 _ _ h4L3));rw[Zk,Z4 hj]at hxi;obtain rfl:x=V.ref ys[j].1:=(Z9 hxi).symm;have hyj:=(hya ys[j] (Y6 hj)).1;refine⟨_,SqT.of (s5 _ _ (s4 _ _ hyj)),rfl,_,_,rfl,_,_,rfl,rfl,?_⟩;show v6 [some (.str ys[j].2.1),some (.int ys[j].2.2)] _ _;walk_at "rd";refine CK.mk hj hNv (by rw[ht,Z5,Z5,Yd];exact aH (by lia)) ⟨⟨_,_,rfl⟩,ac.set s5 hN,aa,?_⟩;rw[ht,Yx,Zc,Zc,Z4 hj];rfl
    rintro ts σ H5 ⟨_,s5,hN5,ht⟩;rw[Zm (Zh _),hnames]at ht;refine⟨(show 3<=sizeLine by decide),fun t htn=>?_⟩;have st:=ac.upd (o:= .tup [V.ref L1,V.ref L2,V.ref N]) htn;have sAll:=s3.trans (s4.trans (s5.trans st));rw[hnames]at hsa;have h4L1:=s4 _ _ h3L1;refine kk t L1 L2 N _ ds qs sAll ((s3.trans (s4.trans s5)).free htn) hL1 (s3.free hL2) ((s3.trans s4).free hN) (Ne.symm h21) (fun e=>by rw[<-e,h4L1]at hN;cases hN) (fun e=>by rw[<-e,h4L2]at hN;cases hN) aa (st _ _ (s5 _ _ h4L1)) (st _ _ (s5 _ _ h4L2)) ?_ hd1 hd3 hdo ?_ (hca.up (s4.trans (s5.trans st))) (hsa.up (s5.trans st)) (by lia) (fun p hp=>?_) (by rw[<-hnames,Z5];exact⟨ylen.2,ylen.1⟩)
    ·rw[st _ _ hN5,ht]
    ·rw[hnm,Yr,Yw];refine X2 (fun{x y} hx hy hne he=>?_) (nodup_iff_pairwise_ne.mp (nodup_range (n:=(1+c0%3).toNat)));rw[mem_range]at hx hy;have:=zj (by lia) (by lia) (by lia) (by lia) he
     lia
    ·have:p.2.name∈ds.map fun p=>p.2.name:=Xa ⟨p,hp,rfl⟩
     rw[hnm]at this;obtain⟨k,_,e⟩:=X9 this;exact⟨_,e.symm⟩
noncomputable def NmD(ls:List Str)(f:Str->Str):List (Key×V):=ls.map fun z=>(Sum.inr z,V.str (f z))
theorem jJ:∀{ls:List Str},z∈ls->bO (NmD ls f) (Sum.inr z)=some (.str (f z))
 |[],h=>(nomatch h)
 | x::ls,h=>by
   by_cases e:x=z
   ·subst e;exact dO rfl
   ·rw[show NmD (x::ls) f=(Sum.inr x,V.str (f x))::NmD ls f from rfl,cx (fun q=>e (Sum.inr.inj q))];exact jJ (by rcases mem_cons.mp h with q|q;exact(e q.symm).elim;exact q)
theorem xp:((NmD ls f).any fun kv=>decide (kv.1=(Sum.inr z:Key)))=true↔z∈ls:=by
 rw[any_eq_true];unfold NmD
 constructor
 ·rintro⟨kv,h1,h2⟩;obtain⟨x,hx,rfl⟩:=X9 h1;have:=Sum.inr.inj (Zn h2);rw[<-this];exact hx
 ·intro h;exact⟨_,Xa ⟨z,h,rfl⟩,Ze rfl⟩
theorem xq(h:z∈ls):dg (NmD ls f) (Sum.inr z) (.str v)=NmD ls (fun x=>if x=z then v else f x):=by
 unfold dg;rw[if_pos (xp.mpr h)];unfold NmD;rw[Yj];refine Yh fun x _=>?_
 show(if(Sum.inr x:Key)=Sum.inr z then((Sum.inr x:Key),V.str v)else(Sum.inr x,V.str (f x)))=(Sum.inr x,V.str (if x=z then v else f x))
 by_cases e:x=z
 ·rw[if_pos (congrArg _ e),if_pos e]
 ·rw[if_neg (fun q=>e (Sum.inr.inj q)),if_neg e]
theorem Bq(h:z∉ls):dg (NmD ls id) (Sum.inr z) (.str z)=NmD (ls++[z]) id:=by
 unfold dg;rw[if_neg (fun q=>h (xp.mp q))];unfold NmD;rw[Zc];rfl
noncomputable def xt(ls:List Str)(z:Str):Nat:=eT (ls.map fun u=>[u]) [z]
theorem xu(hx:x∈ls)(h:aR x y=true):xt ls x<xt ls y:=by
 have:=iN (ks:=ls.map fun u=>[u]) (x:=[x]) (y:=[y]) (Xa ⟨x,hx,rfl⟩);rw[lv,h]at this;exact Zn this.symm
def be(qs:List (Addr×List V))(a b:Str):Prop:=∃q∈qs,q.2=[.str "same",.str a,.str b]
theorem gN{S R:Str->Str->Prop}(F:bo ls f r S)(h:∀a b,S a b↔R a b):bo ls f r R:=by
 rw[show R=S from funext fun a=>funext fun b=>(propext (h a b)).symm];exact F
def Br:Sp:=fun vs H Q _=>∃(d:Addr) (z:Str) (ls:List Str) (f r:Str->Str) (S:Str->Str->Prop),vs=[.ref d,.str z]/\H d=some (.dK (NmD ls f))/\bo ls f r S/\z∈ls/\Q (.str (r z)) H
def zk:Sp:=fun vs H Q _=>∃(d:Addr) (a b:Str) (ls:List Str) (f r:Str->Str) (S:Str->Str->Prop),vs=[.ref d,.str a,.str b]/\H d=some (.dK (NmD ls f))/\bo ls f r S/\a∈ls/\b∈ls/\ls.length<=5000/\
 ∀f' r',bo ls f' r' (fun x y=>S x y\/(x=a/\y=b))->Q .non (upd H d (.dK (NmD ls f')))
theorem d8(T:Txt K mg):Cal P w K mg base 1 "least_pointed_to" ["names","layer"] Br:=by
 refine T.d_least_pointed_to.cal dC (fun vs H Q E h=>?_) (fun f cdv A outer s H vs Q E hr h=>?_)
 ·obtain⟨d,z,ls,f,r,S,rfl,_⟩:=h;rfl
 ·obtain⟨d,z,ls,p,r,S,rfl,hd,F,hz,kk⟩:=h;refine⟨_,(QSs.h (ae (lw PassesOwn.never (bu eA rfl (dk hr (fun _ _=>rfl) (vn 0 rfl Z0 rfl rfl) (vn 1 rfl Z0 rfl rfl)) (vn 1 rfl Z0 rfl rfl))
   (am (aI 1 dC.nd rfl Z0 Z1 rfl (dk hr (fun _ _=>rfl) (vn 0 rfl Z0 rfl rfl) (vn 1 rfl Z0 rfl rfl)))))
   (am (aK (vn 1 rfl Z0 rfl rfl))))),?_⟩
  show bg _ _ _ [some (.ref d),some (.str z)] H;refine aj fun D1 k1 _=>?_
  refine⟨fun m σ H'=>∃y,σ=[some (.ref d),some (.str y)]/\H'=H/\y∈ls/\r y=r z/\m=xt ls y,⟨_,z,rfl,rfl,hz,rfl,rfl⟩,?_⟩;rintro m σ H' ⟨y,rfl,rfl,hy,hry,rfl⟩;walk_at "rd";have g1:cf H' d (.str y) (some (.str (p y))):=by
   have:=cf.k (k:=Sum.inr y) hd;rw[jJ hy]at this;exact this
  refine⟨_,g1,rfl,bw (fun h=>?_) fun h=>?_⟩
  ·have h:p y≠y:=by simpa using h
   refine⟨fun σ' H2=>σ'=[some (.ref d),some (.str (p y))]/\H2=H',?_,_,g1,rfl,rfl⟩;rintro σ' H2 ⟨rfl,rfl⟩;exact⟨_,xu (F.fin y hy) (F.dec y hy h),p y,rfl,rfl,F.fin y hy,(F.rf y hy).trans hry,rfl⟩
  ·have h:p y=y:=by simpa using h
   refine k1 _ _ ?_;walk_at "rd";rw[<-hry,F.fix y hy h]at kk;exact kk
theorem ki(T:Txt K mg):Cal P w K mg base 2 "join_deposits" ["names","one","other"] zk:=by
 refine T.d_join_deposits.cal cS (fun vs H Q E h=>?_) (fun f cdv A outer s H vs Q E hr h=>?_)
 ·obtain⟨d,a,b,ls,f,r,S,rfl,_⟩:=h;rfl
 ·obtain⟨d,a,b,ls,p,r,S,rfl,hd,F,ha,hb,hll,kk⟩:=h;refine⟨_,(QSs.h (ae (aI 3 cS.nd rfl Z0 Z1 rfl (aD (d8 T) hr rfl rfl rfl rfl (paE rfl (vn 0 rfl Z0 rfl rfl) (paE rfl (vn 1 rfl Z0 rfl rfl) ah))))
   (ae (aI 4 cS.nd rfl Z0 Z1 rfl (aD (d8 T) hr rfl rfl rfl rfl (paE rfl (vn 0 rfl Z0 rfl rfl) (paE rfl (vn 2 rfl Z0 rfl rfl) ah))))
   (am (iO hr rfl (cbE (A8 rfl) rfl T.b_min boot_min rfl rfl rfl (paE rfl (vn 3 rfl Z0 rfl rfl) (paE rfl (vn 4 rfl Z0 rfl rfl) ah))) (vn 0 rfl Z0 rfl rfl) (cbE (A7 rfl) rfl T.b_max boot_max rfl rfl rfl (paE rfl (vn 3 rfl Z0 rfl rfl) (paE rfl (vn 4 rfl Z0 rfl rfl) ah)))))))),?_⟩
  show bg _ _ _ [some (.ref d),some (.str a),some (.str b),none,none] H;refine aj fun D1 k1 _=>?_
  walk_at "rd";refine⟨d,a,ls,p,r,S,rfl,hd,F,ha,k1 _ _ (aj fun D2 k2 _=>?_)⟩;walk_at "rd";refine⟨d,b,ls,p,r,S,rfl,hd,F,hb,k2 _ _ (aB fun D3 k3 _=>?_)⟩;walk_at "rd";have J:=F.join ha hb rfl rfl;have Mi:(if aR (r a) (r b)=true then r b else r a)∈ls:=by
   split
   ·exact F.rin b hb
   ·exact F.rin a ha
  generalize (if aR (r a) (r b)=true then r b else r a)=M at J Mi
  generalize (if aR (r b) (r a)=true then r b else r a)=m at J
  refine⟨_,jh.k (k:=Sum.inr M) hd (by unfold NmD;rw[Z5,PySem.sizeLine_eq];lia),k3 _ _ ?_⟩;rw[xq Mi];exact kk _ _ J
theorem rQ{qs:List (Addr×List V)}{q:Addr×List V}(hq:qs[i]? =some q)(a b:Str):be (qs.take (i+1)) a b↔be (qs.take i) a b\/q.2=[.str "same",.str a,.str b]:=by
 unfold be;rw[Yx,hq]
 constructor
 ·rintro⟨p,hp,e⟩;rcases X7 hp with h|h
  ·exact .inl ⟨p,h,e⟩
  ·rw[show p=q from X8 h]at e;exact .inr e
 ·rintro(⟨p,hp,e⟩|e)
  ·exact⟨p,Yl _ hp,e⟩
  ·exact⟨q,Ym _ (mem_singleton.mpr rfl),e⟩
theorem fE{ls:List Str}(so:ls.Pairwise (fun a b=>aR b a=false)){i:Nat}{z w:Str}(hz:ls[i]? =some z)(hw:w∈ls)(h:aR w z=true):w∈ls.take i:=by
 rw[<-Yy i ls]at hw;rcases X7 hw with e|e
 ·exact e
 ·exfalso;obtain⟨hi,ez⟩:=X6 hz;obtain⟨j,hj,rfl⟩:=List.getElem_of_mem e;rw[List.getElem_drop]at h;rw[Y9]at hj;by_cases e0:j=0
  ·subst e0;rw[<-ez]at h;simp only[add_zero]at h;rw[eB]at h;cases h
  ·have:=List.pairwise_iff_getElem.mp so i (i+j) hi (by lia) (by lia);rw[ez,h]at this;cases this
def xv(mg:Str->Option Value):Sp:=fun vs H Q _=>∃(g c2 c3 c4:Addr) (qs:List (Addr×List V)) (ls:List Str) (ts:List (Addr×List Str)),vs=[.ref g]/\GrF mg H g c2 c3 c4 qs ls ts/\ls.Nodup/\ls.Pairwise (fun a b=>aR b a=false)/\ls.length<=5000/\
 ∀d H' r,ac H H'->H d=none->H' d=some (.dK (NmD ls r))->(∀z∈ls,r z∈ls/\bE (be qs) z (r z))->Q (.ref d) H'
theorem lK{H:Hp}{g c2 c3 c4:Addr}{qs:List (Addr×List V)}{ls:List Str}{ts:List (Addr×List Str)}{m:Str}{R:Prop}(h:GrF mg H g c2 c3 c4 qs ls ts)(hm:m="layers"\/m="sayings"\/m="ties")(k:R):∃dx fs,H g=some (.ins (b8 mg "Ground") dx fs)/\List.lookup m fs=none/\R:=by
 obtain⟨dx,c1,h0⟩:=h.at_;exact⟨dx,_,h0,by rcases hm with rfl|rfl|rfl<;> rfl,k⟩
theorem cY(T:Txt K mg):Cal P w K mg base 3 "names_by_layer" ["ground"] (xv mg):=by
 refine T.d_names_by_layer.cal aX (fun vs H Q E h=>?_) (fun f cdv A outer s H vs Q E hr h=>?_)
 ·obtain⟨g,c2,c3,c4,qs,ls,ts,rfl,_⟩:=h;rfl
 ·obtain⟨g,c2,c3,c4,qs,ls,ts,rfl,hg,nd,so,hll,kk⟩:=h;have lm:(ls.map V.str).length=ls.length:=Z5 _;have qm:(qs.map fun q=>V.ref q.1).length=qs.length:=Z5 _;refine⟨_,(QSs.h (ae (aI 1 aX.nd rfl Z0 Z1 rfl jT)
   (ae (cA PassesOwn.never rfl rfl (cw (K:=K) rfl (lu (dA T) T.o_Ground hr rfl rfl (vn 0 rfl Z0 rfl rfl))) (au 2 aX.nd rfl Z0 Z1)
   (am (iO hr rfl (vn 2 rfl Z0 rfl rfl) (vn 1 rfl Z0 rfl rfl) (vn 2 rfl Z0 rfl rfl))))
   (ae (cA PassesOwn.never rfl rfl (cw (K:=K) rfl (lu (jI T) T.o_Ground hr rfl rfl (vn 0 rfl Z0 rfl rfl))) (eN (K:=K) rfl rfl rfl (gsE rfl (au 3 aX.nd rfl Z0 Z1) (gsE rfl (au 4 aX.nd rfl Z0 Z1) (gsE rfl (au 5 aX.nd rfl Z0 Z1) cu))))
   (am (ifS (bu cL rfl (vn 3 rfl Z0 rfl rfl) dh)
    (am (bD rfl (aD (ki T) hr rfl rfl rfl rfl (paE rfl (vn 1 rfl Z0 rfl rfl) (paE rfl (vn 4 rfl Z0 rfl rfl) (paE rfl (vn 5 rfl Z0 rfl rfl) ah))))))
    aU)))
   (ae (cA PassesOwn.never rfl rfl (cw (K:=K) rfl (lu (dA T) T.o_Ground hr rfl rfl (vn 0 rfl Z0 rfl rfl))) (au 2 aX.nd rfl Z0 Z1)
   (am (iO hr rfl (dk hr (fun _ _=>rfl) (vn 1 rfl Z0 rfl rfl) (dk hr (fun _ _=>rfl) (vn 1 rfl Z0 rfl rfl) (vn 2 rfl Z0 rfl rfl))) (vn 1 rfl Z0 rfl rfl) (vn 2 rfl Z0 rfl rfl))))
   (am (aK (vn 1 rfl Z0 rfl rfl)))))))),?_⟩
  show bg _ _ _ [some (.ref g),none,none,none,none,none] H;refine aj fun D1 k1 _=>?_
  walk_at "rd";intro d hd;refine k1 _ _ (aj fun D2 k2 _=>av fun Kont hK=>?_);have s1:=ac.upd (o:= .dK []) hd;have gd:upd H d (.dK []) d=some (.dK (NmD (ls.take 0) id)):=aa
  generalize upd H d (.dK [])=H1 at s1 gd
  walk_at "rd";have hg1:=hg.up s1;refine lK hg1 (.inl rfl) ⟨g,c2,c3,c4,qs,ls,ts,rfl,hg1,fun l1 fl1=> .inl ⟨l1,rfl,⟨_,SqL.of aa⟩,hK _ _ ?_⟩⟩;have s2:=ac.upd (o:= .lst (ls.map V.str)) fl1;have gl1:upd H1 l1 (.lst (ls.map V.str)) l1=_:=aa;have n1:l1≠d:=fun e=>by rw[e,gd]at fl1;cases fl1
  have gd:=s2 _ _ gd
  generalize upd H1 l1 (.lst (ls.map V.str))=H2 at s2 gl1 gd
  refine bd (xs:=ls.map V.str) (fun i σ H'=>(∃o2 o3 o4 o5,σ=[some (.ref g),some (.ref d),o2,o3,o4,o5])/\ac H H'/\H' l1=some (.lst (ls.map V.str))/\H' d=some (.dK (NmD (ls.take i) id)))
   ⟨⟨_,_,_,_,rfl⟩,s1.trans s2,gl1,gd⟩ (fun i σ H' _ h=>SqL.of h.2.2.1) ?_ ?_
  ·rintro i x σ H' hx ⟨⟨o2,o3,o4,o5,rfl⟩,sm,hl,hdv⟩;rw[Zk]at hx;obtain⟨z,hz,rfl⟩:=map_eq_some_iff.mp hx;show kL _ _ _ _ [some (.ref g),some (.ref d),some (.str z),o3,o4,o5] H';refine aB fun D3 k3 _=>?_
   walk_at "rd";have zn:z∉ls.take i:=fun hm=>by
    have h:=nd;rw[<-Yy i ls,Yq]at h;exact h.2.2 z hm z (Z7 (i:=0) (by rw[getElem?_drop];exact hz)) rfl
   refine⟨_,jh.k (k:=Sum.inr z) hdv (by unfold NmD;rw[Z5,Yd,PySem.sizeLine_eq];lia),k3 _ _ ⟨⟨_,_,_,_,rfl⟩,ac.set sm hd,(ai n1).trans hl,?_⟩⟩;rw[aa,Bq zn,Yx,hz];rfl
  rintro σ H3 ⟨⟨o2,o3,o4,o5,rfl⟩,sm,hl,hdv⟩;rw[lm,Zm (Zh _)]at hdv;refine k2 _ _ (aj fun D4 k4 _=>av fun Kont hK=>?_);walk_at "rd";have hg3:=hg.up sm;refine lK hg3 (.inr (.inl rfl)) ⟨g,c2,c3,c4,qs,ls,ts,rfl,hg3,fun l2 fl2=> .inl ⟨l2,rfl,⟨_,SqL.of aa⟩,hK _ _ ?_⟩⟩;have s4:=ac.upd (o:= .lst (qs.map fun q=>V.ref q.1)) fl2;have gl2:upd H3 l2 (.lst (qs.map fun q=>V.ref q.1)) l2=_:=aa;have n2:l2≠d:=fun e=>by rw[e,hdv]at fl2;cases fl2
  have hdv:=s4 _ _ hdv;have sm4:=sm.trans s4
  generalize upd H3 l2 (.lst (qs.map fun q=>V.ref q.1))=H4 at s4 gl2 hdv sm4
  refine bd (xs:=qs.map fun q=>V.ref q.1) (fun i σ H'=>(∃o2 o3 o4 o5,σ=[some (.ref g),some (.ref d),o2,o3,o4,o5])/\ac H H'/\H' l2=some (.lst (qs.map fun q=>V.ref q.1))/\∃f r,H' d=some (.dK (NmD ls f))/\bo ls f r (be (qs.take i)))
   ⟨⟨_,_,_,_,rfl⟩,sm4,gl2,id,id,hdv,gN (bo.start ls) fun a b=>⟨fun h=>h.elim,fun⟨q,hq,_⟩=>(nomatch hq)⟩⟩ (fun i σ H' _ h=>SqL.of h.2.2.1) ?_ ?_
  ·rintro i x σ H' hx ⟨⟨o2,o3,o4,o5,rfl⟩,sm,hl,f,r,hdv,F⟩;rw[Zk]at hx;obtain⟨q,hq,rfl⟩:=map_eq_some_iff.mp hx;obtain⟨q1,q2⟩:=hg.sa q (Z7 hq);have st:=sm _ _ q1;have stp:=rQ hq;rcases q2 with⟨wd,a,b,e,hw,ha,hb,_⟩|⟨wd,a,y,e,hw,_⟩
   ·rw[e]at st stp;refine⟨_,SqT.of st,rfl,_,_,rfl,_,_,rfl,_,_,rfl,rfl,?_⟩;show j2 _ _ _ _ [some (.ref g),some (.ref d),o2,some (.str wd),some (.str a),some (.str b)] H';refine aB fun D5 k5 _=>?_
    walk_at "rd";refine bw (fun h=>?_) fun h=>?_
    ·have h:wd=Str.ofString "same":=by simpa using h
     refine⟨d,a,b,ls,f,r,_,rfl,hdv,F,ha,hb,hll,fun f' r' F'=>k5 _ _ ⟨⟨_,_,_,_,rfl⟩,ac.set sm hd,(ai n2).trans hl,f',r',aa,gN F' fun x y=>?_⟩⟩;rw[stp,h];refine or_congr Iff.rfl ⟨fun⟨e1,e2⟩=>by rw[e1,e2],fun e=>?_⟩;simp only[List.cons.injEq,V.str.injEq,and_true,true_and]at e;exact⟨e.1.symm,e.2.symm⟩
    ·have h:wd≠Str.ofString "same":=by simpa using h
     refine k5 _ _ ⟨⟨_,_,_,_,rfl⟩,sm,hl,f,r,hdv,gN F fun x y=>?_⟩;rw[stp];refine⟨.inl,fun e=>e.resolve_right fun e=>h ?_⟩;simp only[List.cons.injEq,V.str.injEq]at e;exact e.1
   ·rw[e]at st stp;refine⟨_,SqT.of st,rfl,_,_,rfl,_,_,rfl,_,_,rfl,rfl,?_⟩;show j2 _ _ _ _ [some (.ref g),some (.ref d),o2,some (.str wd),some (.str a),some (.int y)] H';refine aB fun D5 k5 _=>?_
    walk_at "rd";rw[if_neg (by rcases hw with rfl|rfl<;> decide)];refine k5 _ _ ⟨⟨_,_,_,_,rfl⟩,sm,hl,f,r,hdv,gN F fun x z=>?_⟩;rw[stp];refine⟨.inl,fun e=>e.resolve_right fun e=>?_⟩;simp at e
  rintro σ H5 ⟨⟨o2,o3,o4,o5,rfl⟩,sm,hl,f,r,hdv,F⟩;rw[qm,Zm (Zh _)]at F;refine k4 _ _ (aj fun D6 k6 _=>av fun Kont hK=>?_);walk_at "rd";have hg5:=hg.up sm;refine lK hg5 (.inl rfl) ⟨g,c2,c3,c4,qs,ls,ts,rfl,hg5,fun l3 fl3=> .inl ⟨l3,rfl,⟨_,SqL.of aa⟩,hK _ _ ?_⟩⟩;have s6:=ac.upd (o:= .lst (ls.map V.str)) fl3;have gl3:upd H5 l3 (.lst (ls.map V.str)) l3=_:=aa;have n3:l3≠d:=fun e=>by rw[e,hdv]at fl3;cases fl3
  have hdv:=s6 _ _ hdv;have sm6:=sm.trans s6
  generalize upd H5 l3 (.lst (ls.map V.str))=H6 at s6 gl3 hdv sm6
  refine bd (xs:=ls.map V.str) (fun i σ H'=>(∃o2 o3 o4 o5,σ=[some (.ref g),some (.ref d),o2,o3,o4,o5])/\ac H H'/\H' l3=some (.lst (ls.map V.str))/\∃f,H' d=some (.dK (NmD ls f))/\bo ls f r (be qs)/\∀z∈ls.take i,f z=r z)
   ⟨⟨_,_,_,_,rfl⟩,sm6,gl3,f,hdv,F,fun z hz=>(nomatch hz)⟩ (fun i σ H' _ h=>SqL.of h.2.2.1) ?_ ?_
  ·rintro i x σ H' hx ⟨⟨o2,o3,o4,o5,rfl⟩,sm,hl,f,hdv,F,hdn⟩;rw[Zk]at hx;obtain⟨z,hz,rfl⟩:=map_eq_some_iff.mp hx;have zm:=Z7 hz;show kL _ _ _ _ [some (.ref g),some (.ref d),some (.str z),o3,o4,o5] H';refine aB fun D7 k7 _=>?_
   walk_at "rd";have get:∀y∈ls,cf H' d (.str y) (some (.str (f y))):=fun y hy=>by
    have:=cf.k (k:=Sum.inr y) hdv;rw[jJ hy]at this;exact this
   refine⟨_,get z zm,_,get _ (F.fin z zm),_,jh.k (k:=Sum.inr z) hdv (by unfold NmD;rw[Z5,PySem.sizeLine_eq];lia),k7 _ _ ⟨⟨_,_,_,_,rfl⟩,ac.set sm hd,(ai n3).trans hl,_,?_,F.short zm,fun y hy=>?_⟩⟩
   ·rw[aa,xq zm]
   ·rw[Yx,hz]at hy;by_cases e:y=z
    ·rw[if_pos e,e];exact F.done zm fun w hw h=>hdn w (fE so hz hw h)
    ·rw[if_neg e];rcases X7 hy with h|h
     ·exact hdn y h
     ·exact(e (X8 h)).elim
  rintro σ H7 ⟨⟨o2,o3,o4,o5,rfl⟩,sm,hl,f,hdv,F,hdn⟩;rw[lm,Zm (Zh _)]at hdn;refine k6 _ _ ?_;walk_at "rd";refine kk d H7 r sm hd ?_ fun z hz=>⟨F.rin z hz,F.least hz⟩
  rw[hdv];unfold NmD;rw[Yh fun z hz=>by rw[hdn z hz]]
theorem Ce{X:Cx}{K:PySem.W.Frag}{T id:String}(h:X.K=K)(pa:PlainAttrs T)(slot:Slot T name id)(hty:typeOf (.builtin id)=pure (.type "method_descriptor"))(hm:MtQ X id r)
 (hbase:attributeBase o name X.env (eval o X.env)=eval o X.env) (hfew:(e::es).any bj=false) (h30:Nat.blt (e::es).length 30=true) (hline:(apos.endLine==cpos.line)=true) (ho:QE X o to) (ha:QA X (e::es) t):
 QE X (.Call (.Attribute o name apos) (e::es) [] cpos) (tBM K T r to t):=by
 have he:=hfew;rw[Zv,Yv]at he;refine⟨we h pa slot hty hm.h ho.h ha.h hbase ?_ hline (ay he.1) (eX he.2)⟩;rw[nL hfew];have h30':(e::es).length<30:=Nat.blt_eq.mp h30;have:decide ((e::es).length+([]:List Keyword).length+(if([]:List Keyword).isEmpty then 0 else 1)<30)=true:=Ze (by simpa using h30');rw[this];rfl
noncomputable def grp(r:Str->Str)(xs:List Str):List (Str×List Str):=(xs.filter fun z=>decide (r z=z)).map fun z=>(z,xs.filter fun x=>decide (r x=z))
theorem uW(h:∀z∈xs,r z=r' z):grp r xs=grp r' xs:=by
 unfold grp;rw[List.filter_congr fun z hz=>by rw[h z hz]];refine Yh fun z hz=>?_
 rw[List.filter_congr fun x hx=>by rw[h x hx]]
theorem zo(hz:r z=z)(zn:z∉xs)(hc:∀x∈xs,r x∈xs):grp r (xs++[z])=grp r xs++[(z,[z])]:=by
 unfold grp;rw[Zz,Zc];refine congr (congrArg _ (Yh fun w hw=>?_)) ?_
 ·have:w≠z:=fun e=>zn (by rw[<-e];exact(List.mem_filter.mp hw).1)
  rw[Zz,Y0 (by rw[hz];simpa using this.symm),Y2,Zw]
 ·rw[Y1 (by rw[hz];simp),Y2];show [(z,_)]=_;rw[Zz,Y1 (by rw[hz];simp),Y2,List.filter_eq_nil_iff.mpr fun x hx=>?_]
  ·rfl
  ·intro e;exact zn (by rw[<-Zn e];exact hc x hx)
theorem zq(hz:r z≠z):grp r (xs++[z])=(grp r xs).map fun p=>if p.1=r z then(p.1,p.2++[z])else p:=by
 unfold grp;rw[Zz,Y0 (by simpa using hz),Y2,Zw,Yj];refine Yh fun w hw=>?_
 show(w,_)=if w=r z then(w,_)else(w,_)
 rw[Zz];by_cases e:w=r z
 ·rw[if_pos e,Y1 (by simpa using e.symm),Y2]
 ·rw[if_neg e,Y0 (by simpa using fun q=>e q.symm),Y2,Zw]
theorem gO:y∈(grp r xs).map (·.1)↔y∈xs/\r y=y:=by
 unfold grp;rw[Yj,mem_map]
 constructor
 ·rintro⟨z,hz,rfl⟩;have:=List.mem_filter.mp hz;exact⟨this.1,Zn this.2⟩
 ·rintro⟨h1,h2⟩;exact⟨y,List.mem_filter.mpr ⟨h1,Ze h2⟩,rfl⟩
theorem gP(h:xs.Nodup):((grp r xs).map (·.1)).Nodup:=by
 unfold grp;rw[Yj,show((fun x:Str×List Str=>x.1) ∘ fun z=>(z,List.filter (fun x=>decide (r x=z)) xs))=id from rfl,map_id];exact h.filter _
def sK(S:Str->Str->Prop)(ls:List Str)(ds:List (List Str)):Prop:=∃r:Str->Str,(∀z∈ls,r z∈ls/\bE S z (r z))/\ds=(grp r ls).map (·.2)
theorem sK.one{S:Str->Str->Prop}(h:sK S ls ds)(g:sK S ls es):ds=es:=by
 obtain⟨r,h1,rfl⟩:=h;obtain⟨r',g1,rfl⟩:=g;rw[uW fun z hz=>(h1 z hz).2.one (g1 z hz).2]
noncomputable abbrev Gs(α:Type):=List (Str×Addr×List α)
noncomputable def gD{α:Type}(gs:Gs α):List (Key×V):=gs.map fun g=>(Sum.inr g.1,V.ref g.2.1)
theorem sL:∀{gs:Gs α},y∉gs.map (·.1)->bO (gD gs) (Sum.inr y)=none
 |[],_=>rfl
 | g::gs,h=>by
   rw[Yi,Yn,not_or]at h;rw[show gD (g::gs)=(Sum.inr g.1,V.ref g.2.1)::gD gs from rfl,cx (fun q=>h.1 (Sum.inr.inj q).symm)];exact sL h.2
theorem fF:∀{gs:Gs α},bO (gD gs) (Sum.inr y)=some v->∃g∈gs,g.1=y/\v= .ref g.2.1
 |[],h=>(nomatch h)
 | g::gs,h=>by
   rw[show gD (g::gs)=(Sum.inr g.1,V.ref g.2.1)::gD gs from rfl]at h;by_cases e:g.1=y
   ·rw[dO (congrArg Sum.inr e)]at h;exact⟨g,Zl,e,(Z9 h).symm⟩
   ·rw[cx (fun q=>e (Sum.inr.inj q))]at h;obtain⟨g',h1,h2⟩:=fF h;exact⟨g',Zj _ h1,h2⟩
theorem ir:∀{gs:Gs α},g∈gs->bO (gD gs) (Sum.inr g.1)≠none
 | x::gs,h,c=>by
   rw[show gD (x::gs)=(Sum.inr x.1,V.ref x.2.1)::gD gs from rfl]at c;by_cases e:x.1=g.1
   ·rw[dO (congrArg Sum.inr e)]at c;cases c
   ·rw[cx (fun q=>e (Sum.inr.inj q))]at c;rcases mem_cons.mp h with q|q
    ·exact e (by rw[q])
    ·exact ir q c
def kx(H:Hp)(gs:List (Addr×List Str)):Prop:=∀g∈gs,H g.1=some (.lst (g.2.map V.str))
theorem kx.up{H H':Hp}{gs:List (Addr×List Str)}(h:kx H gs)(s:ac H H'):kx H' gs:=fun g hg=>s _ _ (h g hg)
structure gi {α:Type} (f:α->V) (H0 H:Hp) (d:Addr) (gs:Gs α):Prop where
 at_:H d=some (.dK (gD gs))
 la:∀g∈gs,H0 g.2.1=none/\H g.2.1=some (.lst (g.2.2.map f))
 nd:(gs.map (·.2.1)).Nodup
theorem sM{α:Type}{gs:Gs α}(hk:(gs.map (·.1)).Nodup){g h:Str×Addr×List α}(hg:g∈gs)(hh:h∈gs)(e:g.1=h.1):g=h:=by
 induction gs with
 | nil=>cases hg
 | cons x xs ih=>
   rw[Yi,nodup_cons]at hk;rcases mem_cons.mp hg with e1|e1<;> rcases mem_cons.mp hh with e2|e2
   ·rw[e1,e2]
   ·exact(hk.1 (by rw[<-e1,e];exact Xa ⟨_,e2,rfl⟩)).elim
   ·exact(hk.1 (by rw[<-e2,<-e];exact Xa ⟨_,e1,rfl⟩)).elim
   ·exact ih hk.2 e1 e2
theorem xw{α:Type}{gs:Gs α}(hk:(gs.map (·.2.1)).Nodup){g h:Str×Addr×List α}(hg:g∈gs)(hh:h∈gs)(e:g.2.1=h.2.1):g=h:=by
 induction gs with
 | nil=>cases hg
 | cons x xs ih=>
   rw[Yi,nodup_cons]at hk;rcases mem_cons.mp hg with e1|e1<;> rcases mem_cons.mp hh with e2|e2
   ·rw[e1,e2]
   ·exact(hk.1 (by rw[<-e1,e];exact Xa ⟨_,e2,rfl⟩)).elim
   ·exact(hk.1 (by rw[<-e2,<-e];exact Xa ⟨_,e1,rfl⟩)).elim
   ·exact ih hk.2 e1 e2
noncomputable def mB{α:Type}(y:Str)(z:α)(gs:Gs α):Gs α:=gs.map fun g=>if g.1=y then(g.1,g.2.1,g.2.2++[z])else g
theorem Bs(y:Str)(z:α)(gs:Gs α):gD (mB y z gs)=gD gs:=by
 unfold mB gD;rw[Yj];refine Yh fun g _=>?_
 show(Sum.inr (if g.1=y then(g.1,g.2.1,g.2.2++[z])else g).1,V.ref (if g.1=y then(g.1,g.2.1,g.2.2++[z])else g).2.1)=_
 split<;> rfl
theorem Bt(y:Str)(z:α)(gs:Gs α):(mB y z gs).map (·.2.1)=gs.map (·.2.1):=by
 unfold mB;rw[Yj];refine Yh fun g _=>?_
 show(if g.1=y then(g.1,g.2.1,g.2.2++[z])else g).2.1=_
 split<;> rfl
theorem Bu(y:Str)(z:α)(gs:Gs α):(mB y z gs).map (fun g=>(g.1,g.2.2))=(gs.map fun g=>(g.1,g.2.2)).map fun p=>if p.1=y then(p.1,p.2++[z])else p:=by
 unfold mB;rw[Yj,Yj];refine Yh fun g _=>?_
 show((if g.1=y then(g.1,g.2.1,g.2.2++[z])else g).1,(if g.1=y then(g.1,g.2.1,g.2.2++[z])else g).2.2)=if g.1=y then(g.1,g.2.2++[z])else(g.1,g.2.2)
 split<;> rfl
theorem gi.up{α:Type}{f:α->V}{H0 H H':Hp}{d:Addr}{gs:Gs α}(h:gi f H0 H d gs)(s:ac H H'):gi f H0 H' d gs:=⟨s _ _ h.at_,fun g hg=>⟨(h.la g hg).1,s _ _ (h.la g hg).2⟩,h.nd⟩
theorem gi.add{α:Type}{f:α->V}{H0 H:Hp}{d:Addr}{gs:Gs α}(h:gi f H0 H d gs)(hk:(gs.map (·.1)).Nodup){g:Str×Addr×List α}(hg:g∈gs)(z:α):gi f H0 (upd H g.2.1 (.lst (g.2.2.map f++[f z]))) d (mB g.1 z gs):=by
 refine⟨?_,fun g' hg'=>?_,by rw[Bt];exact h.nd⟩
 ·rw[Bs,ai (fun e=>by have:=(h.la g hg).2;rw[<-e,h.at_]at this;cases this)];exact h.at_
 ·obtain⟨g0,h0,rfl⟩:=X9 hg';by_cases e:g0.1=g.1
  ·rw[if_pos e];obtain rfl:=sM hk h0 hg e;refine⟨(h.la _ hg).1,?_⟩;rw[aa,Zc];rfl
  ·rw[if_neg e];refine⟨(h.la _ h0).1,?_⟩;rw[ai (fun q=>e (by rw[xw h.nd h0 hg q]))];exact(h.la _ h0).2
theorem gi.new{gs:Gs α}(h:gi f H0 H d gs)(s:ac H0 H)(he:H e=none)(y:Str)(z:α)(zn:y∉gs.map (·.1)):gi f H0 (upd (upd (upd H e (.lst [])) d (.dK (dg (gD gs) (Sum.inr y) (.ref e)))) e (.lst [f z])) d (gs++[(y,e,[z])]):=by
 have de:d≠e:=fun q=>by rw[<-q,h.at_]at he;cases he
 refine⟨?_,fun g hg=>?_,?_⟩
 ·rw[ai de,aa,fQ _ (sL zn)];unfold gD;rw[Zc];rfl
 ·rcases X7 hg with hg|hg
  ·refine⟨(h.la g hg).1,?_⟩;have q:=(h.la g hg).2;rw[ai (fun c=>by rw[c,he]at q;cases q),ai (fun c=>by rw[c,h.at_]at q;cases q),ai (fun c=>by rw[c,he]at q;cases q)];exact q
  ·rw[X8 hg];exact⟨s.free he,aa⟩
 ·rw[Zc,Yq];refine⟨h.nd,by simp,fun a ha b hb c=>?_⟩;obtain⟨g,hg,rfl⟩:=X9 ha;have q:=(h.la g hg).2;rw[show b=e from X8 hb]at c;rw[show g.2.1=e from c,he]at q;cases q
def zt(mg:Str->Option Value):Sp:=fun vs H Q _=>∃(g c2 c3 c4:Addr) (qs:List (Addr×List V)) (ls:List Str) (ts:List (Addr×List Str)),vs=[.ref g]/\GrF mg H g c2 c3 c4 qs ls ts/\ls.Nodup/\ls.Pairwise (fun a b=>aR b a=false)/\ls.length<=5000/\
 ∀l H' (ss:List (Addr×List Str)),ac H H'->H l=none->H' l=some (.lst (ss.map fun t=>V.ref t.1))->kx H' ss->(∀s∈ss,H s.1=none)->sK (be qs) ls (ss.map (·.2))->ss.length<=5000->Q (.ref l) H'
def Bv(mg:Str->Option Value):Sp:=fun vs H Q _=>∃(g c2 c3 c4:Addr) (qs:List (Addr×List V)) (ls:List Str) (ts:List (Addr×List Str)) (z:Str),vs=[.ref g,.str z]/\GrF mg H g c2 c3 c4 qs ls ts/\ls.Nodup/\ls.Pairwise (fun a b=>aR b a=false)/\ls.length<=5000/\z∈ls/\
 ∀H' m,ac H H'->bE (be qs) z m->Q (.str m) H'
theorem cc(T:Txt K mg):Cal P w K mg base 4 "deposit_of" ["ground","layer"] (Bv mg):=by
 refine T.d_deposit_of.cal md (fun vs H Q E h=>?_) (fun f cdv A outer s H vs Q E hr h=>?_)
 ·obtain⟨g,c2,c3,c4,qs,ls,ts,z,rfl,_⟩:=h;rfl
 ·obtain⟨g,c2,c3,c4,qs,ls,ts,z,rfl,hg,nd,so,hll,hz,kk⟩:=h;refine⟨_,(QSs.h (am (aK (dk hr (fun _ _=>rfl) (aD (cY T) hr rfl rfl rfl rfl (paE rfl (vn 0 rfl Z0 rfl rfl) ah)) (vn 1 rfl Z0 rfl rfl))))),?_⟩;show eM _ _ [some (.ref g),some (.str z)] H;walk_at "rd";refine⟨g,c2,c3,c4,qs,ls,ts,rfl,hg,nd,so,hll,fun d H1 r s1 fd hd hr=>?_⟩;have:=cf.k (k:=Sum.inr z) hd;rw[jJ hz]at this;exact⟨d,rfl,_,this,kk H1 (r z) s1 (hr z hz).2⟩
theorem lL(T:Txt K mg):Cal P w K mg base 4 "deposits" ["ground"] (zt mg):=by
 refine T.d_deposits.cal eC (fun vs H Q E h=>?_) (fun f cdv A outer s H vs Q E hr h=>?_)
 ·obtain⟨g,c2,c3,c4,qs,ls,ts,rfl,_⟩:=h;rfl
 ·obtain⟨g,c2,c3,c4,qs,ls,ts,rfl,hg,nd,so,hll,kk⟩:=h;have lm:(ls.map V.str).length=ls.length:=Z5 _;refine⟨_,(QSs.h (ae (aI 1 eC.nd rfl Z0 Z1 rfl (aD (cY T) hr rfl rfl rfl rfl (paE rfl (vn 0 rfl Z0 rfl rfl) ah)))
   (ae (aI 2 eC.nd rfl Z0 Z1 rfl jT)
   (ae (cA PassesOwn.never rfl rfl (cw (K:=K) rfl (lu (dA T) T.o_Ground hr rfl rfl (vn 0 rfl Z0 rfl rfl))) (au 3 eC.nd rfl Z0 Z1)
   (am (bD rfl (Ce (K:=K) rfl plainAttrs_list PySem.F.slot_list_append PySem.F.type_list_append aV rfl rfl rfl rfl (bmE (K:=K) rfl plainAttrs_dict PySem.F.slot_dict_setdefault PySem.F.type_dict_setdefault iR rfl rfl rfl rfl (vn 2 rfl Z0 rfl rfl) (paE rfl (dk hr (fun _ _=>rfl) (vn 1 rfl Z0 rfl rfl) (vn 3 rfl Z0 rfl rfl)) (paE rfl (cz ah) ah))) (paE rfl (vn 3 rfl Z0 rfl rfl) ah)))))
   (am (aK (ctE (y4 rfl) rfl T.b_list boot_list rfl rfl rfl (paE rfl (B2 (K:=K) rfl plainAttrs_dict PySem.F.slot_dict_values PySem.F.type_dict_values wS rfl rfl (vn 2 rfl Z0 rfl rfl)) ah)))))))),?_⟩
  show bg _ _ _ [some (.ref g),none,none,none] H;refine aj fun D1 k1 _=>?_
  walk_at "rd";refine⟨g,c2,c3,c4,qs,ls,ts,rfl,hg,nd,so,hll,fun d H1 r s1 fd hd hr=>k1 _ _ (aj fun D2 k2 _=>?_)⟩;walk_at "rd";intro e fe;refine k2 _ _ (aj fun D3 k3 _=>av fun Kont hK=>?_);have nde:d≠e:=fun c=>by rw[c,fe]at hd;cases hd
  have s2:=ac.upd (o:= .dK []) fe;have ge:upd H1 e (.dK []) e=some (.dK (gD ([]:Gs Str))):=aa;have hd:=s2 _ _ hd;have fe:=s1.free fe;have s12:=s1.trans s2
  generalize upd H1 e (.dK [])=H2 at s2 ge hd s12
  walk_at "rd";have hg2:=hg.up s12;refine lK hg2 (.inl rfl) ⟨g,c2,c3,c4,qs,ls,ts,rfl,hg2,fun l1 fl1=> .inl ⟨l1,rfl,⟨_,SqL.of aa⟩,hK _ _ ?_⟩⟩;have s3:=ac.upd (o:= .lst (ls.map V.str)) fl1;have gl1:upd H2 l1 (.lst (ls.map V.str)) l1=_:=aa;have hd:=s3 _ _ hd;have ge:=s3 _ _ ge;have s13:=s12.trans s3
  generalize upd H2 l1 (.lst (ls.map V.str))=H3 at s3 gl1 hd ge s13
  have r2:∀z∈ls,r (r z)=r z:=fun z hz=>by
   have h:=(hr z hz)
   have h2:=(hr _ h.1).2;exact h2.one ⟨.refl _,fun y c=>h.2.2 y (h.2.1.trans c)⟩
  have rle:∀z∈ls,r z≠z->aR (r z) z=true:=fun z hz h=>dJ ((hr z hz).2.2 z (.refl _)) h.symm
  obtain⟨H0,h0e,hd0,gl0,s00,s0⟩:∃H0:Hp,H0 e=none/\H0 d=some (.dK (NmD ls r))/\H0 l1=some (.lst (ls.map V.str))/\ac H H0/\ac H0 H3:=by
   refine⟨fun a=>if a=e then none else H3 a,if_pos rfl,?_,?_,fun a o h=>?_,fun a o h=>?_⟩
   ·exact(if_neg (fun c=>nde c)).trans hd
   ·exact(if_neg (fun c=>by rw[c,ge]at gl1;cases gl1)).trans gl1
   ·exact(if_neg (fun c=>by rw[c,fe]at h;cases h)).trans (s13 _ _ h)
   ·have h:(if a=e then none else H3 a)=some o:=h
    split at h
    ·cases h
    ·exact h
  refine bd (xs:=ls.map V.str) (fun i σ H'=>(∃o3,σ=[some (.ref g),some (.ref d),some (.ref e),o3])/\ac H0 H'/\∃gs,gi V.str H0 H' e gs/\gs.map (fun g=>(g.1,g.2.2))=grp r (ls.take i))
   ⟨⟨_,rfl⟩,s0,[],⟨ge,fun g hg=>(nomatch hg),Ys⟩,rfl⟩ (fun i σ H' _ h=>SqL.of (h.2.1 _ _ gl0)) ?_ ?_
  ·rintro i x σ H' hx ⟨⟨o3,rfl⟩,sm,gs,hgs,hgr⟩;rw[Zk]at hx;obtain⟨z,hz,rfl⟩:=map_eq_some_iff.mp hx;have zm:=Z7 hz;have i1:i<ls.length:=(X6 hz).1;show iz _ _ [some (.ref g),some (.ref d),some (.ref e),some (.str z)] H';refine aB fun D4 k4 _=>?_
   walk_at "rd";have get:=cf.k (k:=Sum.inr z) (sm _ _ hd0);rw[jJ zm]at get;have gk:gs.map (·.1)=(grp r (ls.take i)).map (·.1):=by rw[<-hgr,Yj];rfl
   have gkn:(gs.map (·.1)).Nodup:=by rw[gk];exact gP (nd.sublist (List.take_sublist _ _))
   have gl:gs.length<=ls.length:=by
    have:=STab.nodup_sub gkn (m:=ls) fun y hy=>by rw[gk,gO]at hy;exact Yo hy.1
    rw[Z5]at this;exact this
   have zn:z∉ls.take i:=fun hm=>by
    have h:=nd;rw[<-Yy i ls,Yq]at h;exact h.2.2 z hm z (Z7 (i:=0) (by rw[getElem?_drop];exact hz)) rfl
   have tk:ls.take (i+1)=ls.take i++[z]:=by rw[Yx,hz];rfl
   refine⟨.inr (.inr (.inl (.inl ⟨_,hgs.at_⟩))),_,get,(show 0<=sizeLine by decide),fun p hp=>⟨Sum.inr (r z),rfl,gD gs,?_,?_,fun v hv=>?_,fun hv=>?_⟩⟩
   ·rw[ai (fun c=>by rw[<-c,hgs.at_]at hp;cases hp)];exact hgs.at_
   ·unfold gD;rw[Z5];exact aH (by lia)
   ·obtain⟨q,hq,e1,rfl⟩:=fF hv;have hq1:q.1∈gs.map (·.1):=Xa ⟨q,hq,rfl⟩;have hq2:=hq1;rw[gk,gO,e1]at hq2;have rn:r z≠z:=fun c=>zn (by rw[<-c];exact hq2.1)
    have sp:=ac.upd (o:= .lst []) hp;have hl:=sp _ _ (hgs.la q hq).2;have G:=(hgs.up sp).add gkn hq z;have ml:q.2.2.length<=ls.length:=by
     have:(q.1,q.2.2)∈grp r (ls.take i):=by rw[<-hgr];exact Xa ⟨q,hq,rfl⟩
     obtain⟨y,hy,c⟩:=X9 this;rw[<-(Prod.mk.inj c).2];exact Y8 (Ya _ _) (by rw[Yd];lia)
    refine⟨.inl ⟨_,SqL.of hl⟩,_,rfl,_,hl,by rw[Z5];exact aH (by lia),k4 _ _ ⟨⟨_,rfl⟩,ac.set (sm.trans sp) (hgs.la q hq).1,_,G,?_⟩⟩;rw[Bu,hgr,tk,zq rn,e1]
   ·have nk:r z∉gs.map (·.1):=fun h=>by
     obtain⟨q,hq,c⟩:=X9 h;have:=ir hq;rw[c,hv]at this;exact this rfl
    have rz:r z=z:=Decidable.byContradiction fun c=>nk (by rw[gk,gO];exact⟨fE so hz (hr z zm).1 (rle z zm c),r2 z zm⟩)
    have de:e≠p:=fun q=>by rw[<-q,hgs.at_]at hp;cases hp
    rw[rz]at hv nk ⊢;have gp:upd (upd H' p (.lst [])) e (.dK (dg (gD gs) (Sum.inr z) (.ref p))) p=some (.lst []):=by rw[ai de.symm,aa]
    refine⟨.inl ⟨_,SqL.of gp⟩,[],gp,(show 0<sizeLine by decide),k4 _ _ ⟨⟨_,rfl⟩,ac.set (ac.set (sm.trans (ac.upd hp)) h0e) (sm.free hp),_,hgs.new sm hp z z nk,?_⟩⟩;rw[Zc,hgr,tk,zo rz zn fun x hx=>?_]
    ·rfl
    ·obtain⟨j,hj⟩:=List.mem_iff_getElem?.mp hx;have xm:=Yo hx;by_cases c:r x=x
     ·rw[c];exact hx
     ·have ji:j<i:=by have:=(X6 hj).1;rw[Yd]at this;lia
      rw[Y5 ji]at hj;exact List.take_subset_take_left _ (le_of_lt ji) (fE so hj (hr x xm).1 (rle x xm c))
  rintro σ H' ⟨⟨o3,rfl⟩,sm,gs,hgs,hgr⟩;rw[lm,Zm (Zh _)]at hgr;refine k3 _ _ ?_;walk_at "rd";have gk:gs.map (·.1)=(grp r ls).map (·.1):=by rw[<-hgr,Yj];rfl
  have gl:gs.length<=ls.length:=by
   have:=STab.nodup_sub (l:=gs.map (·.1)) (by rw[gk];exact gP nd) (m:=ls) fun y hy=>by rw[gk,gO]at hy;exact hy.1
   rw[Z5]at this;exact this
  refine⟨.inr (.inr (.inl (.inl ⟨_,hgs.at_⟩))),⟨_,hgs.at_⟩,fun v fv=>⟨e,aa,_,ac.upd fv _ _ hgs.at_,fun l fl=>?_⟩⟩;have sv:=ac.upd (o:=lz v e) fv
  generalize upd H' v (lz v e)=H4 at sv fl ⊢
  have sl:=ac.upd (o:= .lst ((gD gs).map (·.2))) fl;have s0l:=sm.trans (sv.trans sl);refine kk l _ (gs.map (·.2)) (s00.trans s0l) ((s00.trans (sm.trans sv)).free fl) ?_ (fun s hs=>?_) (fun s hs=>?_) ⟨r,hr,?_⟩ (by rw[Z5];lia)
  ·rw[aa];unfold gD;rw[Yj,Yj];rfl
  ·obtain⟨q,hq,rfl⟩:=X9 hs;exact sl _ _ (sv _ _ (hgs.la q hq).2)
  ·obtain⟨q,hq,rfl⟩:=X9 hs;exact s00.free (hgs.la q hq).1
  ·rw[<-hgr,Yj,Yj];rfl
structure cI (S:Str->Str->Prop) (ks0 ks:List (List Str)):Prop where
 nd:ks.Nodup
 so:ks.Pairwise (fun a b=>cC b a=false)
 mem:∀k,k∈ks↔∃a b z a' b',[a,b,z]∈ks0/\bE S a a'/\bE S b b'/\k=[a',b',z]
theorem cI.one{S:Str->Str->Prop}(h:cI S ks0 ks)(g:cI S ks0 ms):ks=ms:=
 ic cC (fun _ _ a b=>jt a b) h.so g.so h.nd g.nd fun x=>(h.mem x).trans (g.mem x).symm
noncomputable def rR(r:Str->Str):List Str->List Str
 |[a,b,z]=>[r a,r b,z]
 | k=>k
theorem rS{S:Str->Str->Prop}{ks0:List (List Str)}{ls:List Str}{r:Str->Str}(h3:∀k∈ks0,cv ls k)(hr:∀z∈ls,bE S z (r z))(k:List Str):k∈ks0.map (rR r)↔∃a b z a' b',[a,b,z]∈ks0/\bE S a a'/\bE S b b'/\k=[a',b',z]:=by
 rw[mem_map]
 constructor
 ·rintro⟨t,ht,rfl⟩;obtain⟨a,b,z,rfl,ha,hb⟩:=h3 t ht;exact⟨a,b,z,r a,r b,ht,hr a ha,hr b hb,rfl⟩
 ·rintro⟨a,b,z,a',b',ht,h1,h2,rfl⟩;obtain⟨x,y,u,e,ha,hb⟩:=h3 _ ht;simp only[List.cons.injEq,and_true]at e;obtain⟨rfl,rfl,rfl⟩:=e;exact⟨_,ht,by rw[<-(hr a ha).one h1,<-(hr b hb).one h2];rfl⟩
def xx(mg:Str->Option Value):Sp:=fun vs H Q _=>∃(g c2 c3 c4:Addr) (qs:List (Addr×List V)) (ls:List Str) (ts:List (Addr×List Str)),vs=[.ref g]/\GrF mg H g c2 c3 c4 qs ls ts/\ls.Nodup/\ls.Pairwise (fun a b=>aR b a=false)/\ls.length<=5000/\ts.length<=62/\(∀k∈ts.map (·.2),cv ls k)/\
 ∀l H' (ss:List (Addr×List Str)),ac H H'->H l=none->H' l=some (.lst (ss.map fun t=>V.ref t.1))->aT H' ss->cI (be qs) (ts.map (·.2)) (ss.map (·.2))->ss.length<=62->Q (.ref l) H'
theorem kA(T:Txt K mg):Cal P w K mg base 4 "links" ["ground"] (xx mg):=by
 refine T.d_links.cal p8 (fun vs H Q E h=>?_) (fun f cdv A outer s H vs Q E hr h=>?_)
 ·obtain⟨g,c2,c3,c4,qs,ls,ts,rfl,_⟩:=h;rfl
 ·obtain⟨g,c2,c3,c4,qs,ls,ts,rfl,hg,nd,so,hll,htl,h3,kk⟩:=h;have tm:(ts.map fun t=>V.ref t.1).length=ts.length:=Z5 _;refine⟨_,(QSs.h (ae (aI 1 p8.nd rfl Z1 Z0 rfl (aD (cY T) hr rfl rfl rfl rfl (paE rfl (vn 0 rfl Z0 rfl rfl) ah)))
   (am (aK (cbE (m7 (P:=P) (w:=w) rfl rfl rfl) rfl T.b_sorted boot_sorted rfl rfl rfl (paE rfl (ctE (wJ (K:=K) (P:=P) (w:=w) rfl rfl rfl rfl hr) rfl T.b_set boot_set rfl rfl rfl (paE rfl (fH (aE.of (show bT (af kr) ["ground","names"] _ ["later","earlier","source","names"] [(3,1)]=true from by decide +kernel)) rfl rfl (cw (K:=K) rfl (lu (mz T) T.o_Ground hr rfl rfl (vn 0 rfl Z0 rfl rfl))) (fun _ _ _=>(eN (K:=K) rfl rfl rfl (gsE rfl (au 0 (show(["later","earlier","source","names"]:List Str).Nodup from by decide +kernel) rfl Z0 Z1) (gsE rfl (au 1 (show(["later","earlier","source","names"]:List Str).Nodup from by decide +kernel) rfl Z0 Z1) (gsE rfl (au 2 (show(["later","earlier","source","names"]:List Str).Nodup from by decide +kernel) rfl Z0 Z1) cu))))) (fun _ _ _=>j8) (fun _ _ _=>(gR (paE rfl (dk hr (fun _ _=>rfl) (vn 3 rfl (Or.inr Z0) rfl rfl) (vn 0 rfl Z0 rfl rfl)) (paE rfl (dk hr (fun _ _=>rfl) (vn 3 rfl (Or.inr Z0) rfl rfl) (vn 1 rfl Z0 rfl rfl)) (paE rfl (vn 2 rfl Z0 rfl rfl) ah)))))) ah)) ah)))))),?_⟩
  show bg _ _ _ [some (.ref g),none] H;refine aj fun D1 k1 _=>?_
  walk_at "rd";refine⟨g,c2,c3,c4,qs,ls,ts,rfl,hg,nd,so,hll,fun d H1 r s1 fd hd hr=>k1 _ _ ?_⟩;walk_at "rd";refine aP fun Kont hK=>?_
  walk_at "rd";have hg1:=hg.up s1;refine lK hg1 (.inr (.inr rfl)) ⟨g,c2,c3,c4,qs,ls,ts,rfl,hg1,fun l1 fl1=> .inl ⟨l1,rfl,⟨_,SqL.of aa⟩,hK _ _ fun F hF=>?_⟩⟩;have s2:=ac.upd (o:= .lst (ts.map fun t=>V.ref t.1)) fl1;have gl1:upd H1 l1 (.lst (ts.map fun t=>V.ref t.1)) l1=_:=aa
  generalize upd H1 l1 (.lst (ts.map fun t=>V.ref t.1))=H2 at s2 gl1 hF
  have gd2:=s2 _ _ hd;have ht2:=(hg1.up s2).tu;refine bC (J:=Itl K l1) (n:=ts.length) (D:=F) (fun j vs σ H'=>(∃o1 o2 o3,σ=[o1,o2,o3,some (.ref d)])/\ac H2 H'/\H' F=some (.lst vs)/\∃ps:List (Addr×List Str),vs=ps.map (fun p=>V.ref p.1)/\aT H' ps/\ps.map (·.2)=((ts.take j).map (·.2)).map (rR r))
   ⟨⟨none,none,none,rfl⟩,ac.upd hF,aa,[],rfl,gh _,rfl⟩ (fun j _ _ H' hj ⟨_,sm,_⟩=>⟨_,V.ref ts[j].1,SqL.of (sm _ _ gl1),by simp[hj]⟩) (fun _ _ H' ⟨_,sm,_⟩=>⟨_,SqL.of (sm _ _ gl1),by simp⟩) ?_ ?_
  ·rintro j vs σ H3 hj ⟨⟨o1,o2,o3,rfl⟩,s3,hFv,ps,hv,tps,hps⟩ x H4 ⟨e2,hx⟩;subst e2;have hxi:=hx _ (SqL.of (s3 _ _ gl1));rw[Zk,Z4 hj]at hxi;obtain rfl:x=V.ref ts[j].1:=(Z9 hxi).symm;have tj:=Y6 hj;obtain⟨a,b,z,e,ha,hb⟩:=h3 _ (Xa ⟨_,tj,rfl⟩);have st:=s3 _ _ (ht2 _ tj).2;rw[e]at st;have get:∀y∈ls,cf H4 d (.str y) (some (.str (r y))):=fun y hy=>by
    have:=cf.k (k:=Sum.inr y) (s3 _ _ gd2);rw[jJ hy]at this;exact this
   refine⟨_,SqT.of st,rfl,_,_,rfl,_,_,rfl,_,_,rfl,rfl,?_⟩;show v6 [some (.str a),some (.str b),some (.str z),some (.ref d)] _ _;walk_at "rd";refine⟨_,get a ha,_,get b hb,(show 3<=sizeLine by decide),fun p hp=>?_⟩;have sp:=ac.upd (o:= .tup [V.str (r a),V.str (r b),V.str z]) hp;have gp:upd H4 p (.tup [V.str (r a),V.str (r b),V.str z]) p=_:=aa
   generalize upd H4 p (.tup [V.str (r a),V.str (r b),V.str z])=H5 at sp gp ⊢
   have keep:=i5 (ys:=vs++[V.ref p]) (sp _ _ hFv);have pl:=congrArg List.length hps;rw[Z5,Z5,Z5,Yd]at pl;refine CK.mk hj (sp _ _ hFv) (by rw[hv,Z5];exact aH (by lia)) ⟨⟨_,_,_,rfl⟩,ac.set (s3.trans sp) hF,aa,ps++[(p,[r a,r b,z])],by rw[hv,Zc];rfl,aQ (gK (aQ tps fun b z e=>sp _ _ e) (by simp) gp) keep,?_⟩;rw[Zc,hps,Yx,Z4 hj,Zc,Zc];show _++[_]=_++[rR r ts[j].2];rw[e];rfl
  rintro vs σ H3 ⟨_,s3,hF3,ps,hv,tps,hps⟩;rw[Zm (Zh _)]at hps;have pl:=congrArg List.length hps;rw[Z5,Z5,Z5]at pl;have p3:∀q∈ps,q.2.length=3:=fun q hq=>by
   have:q.2∈ps.map (·.2):=Xa ⟨q,hq,rfl⟩;rw[hps]at this;obtain⟨k,hk,e⟩:=X9 this;obtain⟨a,b,z,rfl,_⟩:=h3 k hk;rw[<-e];rfl
  refine⟨F,rfl,ps,by rw[<-hv];exact SqL.of hF3,tps,⟨ps.map (·.2),by rw[Z5];lia,fun q hq=>Xa ⟨q,hq,rfl⟩⟩,fun l5 hl5=>?_⟩;have s5:=ac.upd (o:=jW P w l5 (aL ps)) hl5;have few:(aL ps).length<=62:=by
   have:=STab.nodup_sub (c8 ps) (m:=ps.map (·.2)) fun k hk=>by
    obtain⟨q,hq,rfl⟩:=X9 hk;exact Xa ⟨q,aZ ps q hq,rfl⟩
   rw[Z5,Z5]at this
   lia
  refine⟨aL ps,aa,fun q hq=>⟨(tps q (aZ ps q hq)).1,s5 _ _ (tps q (aZ ps q hq)).2⟩,3,fun q hq=>p3 q (aZ ps q hq),by decide,by lia,fun l6 ss hl6 pm so'=>?_⟩;have s6:=ac.upd (o:= .lst (ss.map fun q=>V.ref q.1)) hl6;have s05:=s1.trans (s2.trans (s3.trans s5));have pk:(ss.map (·.2)).Perm ((aL ps).map (·.2)):=pm.map _;refine kk l6 _ ss (s05.trans s6) (s05.free hl6) aa (fun q hq=>?_) ⟨pk.nodup_iff.mpr (c8 ps),by rw[Yw];exact so',fun k=>?_⟩ (by rw[pm.length_eq];exact few)
  ·have hq':=pm.mem_iff.mp hq;have:=tps q (aZ ps q hq');exact⟨this.1,s6 _ _ (s5 _ _ this.2)⟩
  ·rw[pk.mem_iff,iM,hps];exact rS h3 (fun z hz=>(hr z hz).2) k
theorem qg{S:Str->Str->Prop}(so:ls.Pairwise (fun a b=>aR b a=false))(hr:∀z∈ls,r z∈ls/\bE S z (r z))(hp:p∈grp r ls):p.2[0]? =some p.1:=by
 unfold grp at hp;obtain⟨z,hz,rfl⟩:=X9 hp;obtain⟨zl,zr⟩:=List.mem_filter.mp hz;have zm:z∈ls.filter (fun x=>decide (r x=z)):=List.mem_filter.mpr ⟨zl,zr⟩;have so:=so.sublist (List.filter_sublist (p:=fun x=>decide (r x=z)));have all:∀x∈ls.filter (fun x=>decide (r x=z)),aR x z=false:=fun x hx=>by
  obtain⟨xl,xr⟩:=List.mem_filter.mp hx;rw[<-Zn xr];exact(hr x xl).2.2 x (.refl _)
 show(ls.filter fun x=>decide (r x=z))[0]? =some z
 generalize ls.filter (fun x=>decide (r x=z))=g at all zm so
 cases g with
 | nil=>cases zm
 | cons y g=>
   rw[List.getElem?_cons_zero];rcases mem_cons.mp zm with e|e
   ·rw[e]
   ·have a:=(List.pairwise_cons.mp so).1 z e;by_cases q:y=z
    ·rw[q]
    ·have:=dJ (all y Zl) q;rw[a]at this;cases this
structure xy (S:Str->Str->Prop) (ls ns:List Str):Prop where
 nd:ns.Nodup
 mem:∀x,x∈ns↔x∈ls/\bE S x x
def uX(mg:Str->Option Value):Sp:=fun vs H Q _=>∃(g c2 c3 c4:Addr) (qs:List (Addr×List V)) (ls:List Str) (ts:List (Addr×List Str)),vs=[.ref g]/\GrF mg H g c2 c3 c4 qs ls ts/\ls.Nodup/\ls.Pairwise (fun a b=>aR b a=false)/\ls.length<=5000/\
 ∀l H' (ns:List Str),ac H H'->H l=none->H' l=some (.lst (ns.map V.str))->xy (be qs) ls ns->Q (.ref l) H'
theorem dB(T:Txt K mg):Cal P w K mg base 5 "deposit_names" ["ground"] (uX mg):=by
 refine T.d_deposit_names.cal jy (fun vs H Q E h=>?_) (fun f cdv A outer s H vs Q E hr h=>?_)
 ·obtain⟨g,c2,c3,c4,qs,ls,ts,rfl,_⟩:=h;rfl
 ·obtain⟨g,c2,c3,c4,qs,ls,ts,rfl,hg,nd,so,hll,kk⟩:=h;refine⟨_,(QSs.h (am (aK (fH (aE.of (show bT (af ck) ["ground"] _ ["group"] []=true from by decide +kernel)) rfl rfl (cw (K:=K) rfl (aD (lL T) hr rfl rfl rfl rfl (paE rfl (vn 0 rfl Z0 rfl rfl) ah))) (fun _ _ _=>(au 0 (show(["group"]:List Str).Nodup from by decide +kernel) rfl Z0 Z1)) (fun _ _ _=>j8) (fun _ _ _=>(dj (K:=K) rfl (fun _ _=>rfl) (vn 0 rfl Z0 rfl rfl) ap)))))),?_⟩;show eM _ _ [some (.ref g)] H;walk_at "rd";refine aP fun Kont hK=>?_
  walk_at "rd";refine⟨g,c2,c3,c4,qs,ls,ts,rfl,hg,nd,so,hll,fun l1 H1 ss s1 f1 h1 la _ ⟨r,hr,ed⟩ hsl=> .inl ⟨l1,rfl,⟨_,SqL.of h1⟩,hK _ _ fun F hF=>?_⟩⟩;have sg:ss.length=(grp r ls).length:=by
   have:=congrArg List.length ed;rwa[Z5,Z5]at this
  refine bC (J:=Itl K l1) (n:=ss.length) (D:=F) (fun j vs σ H'=>(∃o1,σ=[o1])/\ac H1 H'/\H' F=some (.lst vs)/\vs=(((grp r ls).take j).map (·.1)).map V.str)
   ⟨⟨none,rfl⟩,ac.upd hF,aa,rfl⟩ (fun j _ _ H' hj ⟨_,sm,_⟩=>⟨_,V.ref ss[j].1,SqL.of (sm _ _ h1),by simp[hj]⟩) (fun _ _ H' ⟨_,sm,_⟩=>⟨_,SqL.of (sm _ _ h1),by simp⟩) ?_ ?_
  ·rintro j vs σ H3 hj ⟨⟨o1,rfl⟩,s3,hFv,hv⟩ x H4 ⟨e2,hx⟩;subst e2;have hxi:=hx _ (SqL.of (s3 _ _ h1));rw[Zk,Z4 hj]at hxi;obtain rfl:x=V.ref ss[j].1:=(Z9 hxi).symm;have jg:j<(grp r ls).length:=by lia
   have e2:ss[j].2=(grp r ls)[j].2:=by
    have:=congrArg (fun z=>z[j]?) ed;simpa [hj,jg]using this
   have hd:=qg so hr (Y6 jg);walk_at "rd";refine⟨_,SqL.of (s3 _ _ (la _ (Y6 hj))),_,(show atI (ss[j].2.map V.str) ((0:Nat):Int)=some (.str (grp r ls)[j].1)from ci (by rw[Zk,e2,hd];rfl)),?_⟩;refine CK.mk hj hFv (by rw[hv,Z5,Z5,Yd];exact aH (by lia)) ⟨⟨_,rfl⟩,ac.set s3 hF,aa,?_⟩;rw[hv,Yx,Z4 jg,Zc,Zc];rfl
  rintro vs σ H3 ⟨_,s3,hF3,hv⟩;rw[Zm (by lia)]at hv;rw[hv]at hF3;refine kk F H3 _ (s1.trans s3) (s1.free hF) hF3 ⟨gP nd,fun x=>?_⟩;rw[gO];refine⟨fun h=>⟨h.1,by have:=(hr x h.1).2;rwa[h.2]at this⟩,fun h=>⟨h.1,(hr x h.1).2.one h.2⟩⟩
def GrB(H:Hp)(d:Addr)(ss:List (Addr×List Str))(i:Nat):Prop:=∃kvs,H d=some (.dK kvs)/\∀n:Str,(∃l,bO kvs (Sum.inr n)=some (.ref l)/\H l=some (.lst ((ss.filter fun t=>decide (t.2[i]? =some n)).map fun t=>V.ref t.1)))\/(bO kvs (Sum.inr n)=none/\∀t∈ss,t.2[i]? ≠some n)
theorem GrB.up(h:GrB H d ss i)(s:ac H H'):GrB H' d ss i:=by
 obtain⟨kvs,h1,h2⟩:=h;exact⟨kvs,s _ _ h1,fun n=>(h2 n).imp_left fun⟨l,a,b⟩=>⟨l,a,s _ _ b⟩⟩
def cJ(H:Hp)(ns:List Str)(ss:List (Addr×List Str)):Prop:=∀t∈ss,H t.1=some (.tup (t.2.map V.str))/\cv ns t.2
theorem cJ.up(h:cJ H ns ss)(s:ac H H'):cJ H' ns ss:=fun t ht=>⟨s _ _ (h t ht).1,(h t ht).2⟩
theorem Bw(h:cv ns k)(hi:i<2):∃n,k[i]? =some n/\n∈ns:=by
 obtain⟨a,b,z,rfl,ha,hb⟩:=h
 match i,hi with
 | 0,_=>exact⟨a,rfl,ha⟩
 | 1,_=>exact⟨b,rfl,hb⟩
def rT:Sp:=fun vs H Q _=>∃(l:Addr) (i:Nat) (ns:List Str) (ss:List (Addr×List Str)),vs=[.ref l,.int i]/\i<2/\H l=some (.lst (ss.map fun t=>V.ref t.1))/\cJ H ns ss/\ss.length<=99/\∀d H',ac H H'->H d=none->GrB H' d ss i->Q (.ref d) H'
def zN(i:Nat):Sp:=fun vs H Q _=>∃(l:Addr) (ns:List Str) (ss:List (Addr×List Str)),vs=[.ref l]/\H l=some (.lst (ss.map fun t=>V.ref t.1))/\cJ H ns ss/\ss.length<=99/\∀d H',ac H H'->H d=none->GrB H' d ss i->Q (.ref d) H'
theorem np(T:Txt K mg):Cal P w K mg base 1 "grouped" ["found","side"] rT:=by
 refine T.d_grouped.cal ii (fun vs H Q E h=>?_) (fun f cdv A outer s H vs Q E hr h=>?_)
 ·obtain⟨l,i,ns,ss,rfl,_⟩:=h;rfl
 ·obtain⟨l,i,ns,ss,rfl,hi,hl,hss,hsl,kk⟩:=h;have sm':(ss.map fun t=>V.ref t.1).length=ss.length:=Z5 _;refine⟨_,(QSs.h (ae (aI 2 ii.nd rfl Z0 Z1 rfl jT)
   (ae (cA PassesOwn.never rfl rfl (cw (K:=K) rfl (vn 0 rfl Z0 rfl rfl)) (au 3 ii.nd rfl Z0 Z1)
   (am (bD rfl (Ce (K:=K) rfl plainAttrs_list PySem.F.slot_list_append PySem.F.type_list_append aV rfl rfl rfl rfl (bmE (K:=K) rfl plainAttrs_dict PySem.F.slot_dict_setdefault PySem.F.type_dict_setdefault iR rfl rfl rfl rfl (vn 2 rfl Z0 rfl rfl) (paE rfl (cn (K:=K) rfl (fun _ _=>rfl) (vn 3 rfl Z0 rfl rfl) (vn 1 rfl Z0 rfl rfl)) (paE rfl (cz ah) ah))) (paE rfl (vn 3 rfl Z0 rfl rfl) ah)))))
   (am (aK (vn 2 rfl Z0 rfl rfl)))))),?_⟩
  show bg _ _ _ [some (.ref l),some (.int i),none,none] H;refine aj fun D1 k1 _=>?_
  walk_at "rd";intro e fe;refine k1 _ _ (aj fun D2 k2 _=>av fun Kont hK=>?_);walk_at "rd";have se:=ac.upd (o:= .dK []) fe;refine .inl ⟨⟨_,SqL.of (se _ _ hl)⟩,hK _ _ ?_⟩;refine bd (xs:=ss.map fun t=>V.ref t.1) (fun j σ H'=>(∃o3,σ=[some (.ref l),some (.int i),some (.ref e),o3])/\ac H H'/\∃gs,gi (fun t:Addr×List Str=>V.ref t.1) H H' e gs/\(gs.map (·.1)).Nodup/\(∀g∈gs,g.2.2=(ss.take j).filter fun t=>decide (t.2[i]? =some g.1))/\∀n,n∈gs.map (·.1)↔∃t∈ss.take j,t.2[i]? =some n)
   ⟨⟨_,rfl⟩,se,[],⟨aa,fun g hg=>(nomatch hg),Ys⟩,Ys,fun g hg=>(nomatch hg),by simp⟩ (fun j σ H' _ h=>SqL.of (h.2.1 _ _ hl)) ?_ ?_
  ·rintro j x σ H' hx ⟨⟨o3,rfl⟩,sm,gs,hgs,gn,gf,gk⟩;rw[Zk]at hx;obtain⟨t,ht,rfl⟩:=map_eq_some_iff.mp hx;have tm:=Z7 ht;have j1:j<ss.length:=(X6 ht).1;obtain⟨n,hn,_⟩:=Bw (hss t tm).2 hi;have tk:ss.take (j+1)=ss.take j++[t]:=by rw[Yx,ht];rfl
   show iz _ _ [some (.ref l),some (.int i),some (.ref e),some (.ref t.1)] H';refine aB fun D4 k4 _=>?_
   walk_at "rd";have gl:gs.length<=ss.length:=by
    have:gs.map (·.1) ⊆ ss.filterMap fun t=>t.2[i]? :=fun y hy=>by
     obtain⟨t,ht,e⟩:=(gk y).mp hy;exact mem_filterMap.mpr ⟨t,Yo ht,e⟩
    have:=STab.nodup_sub gn fun x hx=>this hx
    rw[Z5]at this;exact Y8 this (List.length_filterMap_le _ _)
   have st:=sm _ _ (hss t tm).1;have keys:∀(gs':Gs (Addr×List Str)),(∀y,y∈gs'.map (·.1)↔y∈gs.map (·.1)\/y=n)->∀y,y∈gs'.map (·.1)↔∃t∈ss.take (j+1),t.2[i]? =some y:=fun gs' h y=>by
    rw[h,gk,tk]
    constructor
    ·rintro(⟨t',h1,h2⟩|rfl)
     ·exact⟨t',Yl _ h1,h2⟩
     ·exact⟨t,Ym _ Zl,hn⟩
    ·rintro⟨t',h1,h2⟩;rcases X7 h1 with q|q
     ·exact .inl ⟨t',q,h2⟩
     ·rw[X8 q,hn]at h2;exact .inr (Z9 h2).symm
   refine⟨.inr (.inr (.inl (.inl ⟨_,hgs.at_⟩))),_,SqT.of st,_,ci (show(t.2.map V.str)[i]? =some (.str n) by rw[Zk,hn];rfl),(show 0<=sizeLine by decide),fun p hp=>⟨Sum.inr n,rfl,gD gs,?_,?_,fun v hv=>?_,fun hv=>?_⟩⟩
   ·rw[ai (fun c=>by rw[<-c,hgs.at_]at hp;cases hp)];exact hgs.at_
   ·unfold gD;rw[Z5];exact aH (by lia)
   ·obtain⟨q,hq,e1,rfl⟩:=fF hv;have sp:=ac.upd (o:= .lst []) hp;have hl:=sp _ _ (hgs.la q hq).2;have G:=(hgs.up sp).add gn hq t;have ml:q.2.2.length<=ss.length:=by
     rw[gf q hq];exact Y8 (Ya _ _) (by rw[Yd];lia)
    have ka:(mB q.1 t gs).map (·.1)=gs.map (·.1):=by
     unfold mB;rw[Yj];refine Yh fun g _=>?_
     show(if g.1=q.1 then(g.1,g.2.1,g.2.2++[t])else g).1=_
     split<;> rfl
    refine⟨.inl ⟨_,SqL.of hl⟩,_,rfl,_,hl,by rw[Z5];exact aH (by lia),k4 _ _ ⟨⟨_,rfl⟩,ac.set (sm.trans sp) (hgs.la q hq).1,_,G,by rw[ka];exact gn,fun g hg=>?_,keys _ fun y=>?_⟩⟩
    ·unfold mB at hg;obtain⟨g0,h0,rfl⟩:=X9 hg;rw[tk,Zz];by_cases c:g0.1=q.1
     ·rw[if_pos c];show g0.2.2++[t]=_++List.filter (fun t=>decide (t.2[i]? =some g0.1)) [t];rw[gf g0 h0,Y1 (by rw[hn,c,e1];simp),Y2]
     ·rw[if_neg c,gf g0 h0,Y0 (by rw[hn,<-e1];simpa using fun z=>c z.symm),Y2,Zw]
    ·rw[ka];exact⟨.inl,fun h=>h.elim id fun h=>by rw[h,<-e1];exact Xa ⟨q,hq,rfl⟩⟩
   ·have nk:n∉gs.map (·.1):=fun h=>by
     obtain⟨q,hq,c⟩:=X9 h;have:=ir hq;rw[c,hv]at this;exact this rfl
    have de:e≠p:=fun q=>by rw[<-q,hgs.at_]at hp;cases hp
    have gp:upd (upd H' p (.lst [])) e (.dK (dg (gD gs) (Sum.inr n) (.ref p))) p=some (.lst []):=by rw[ai de.symm,aa]
    refine⟨.inl ⟨_,SqL.of gp⟩,[],gp,(show 0<sizeLine by decide),k4 _ _ ⟨⟨_,rfl⟩,ac.set (ac.set (sm.trans (ac.upd hp)) fe) (sm.free hp),_,hgs.new sm hp n t nk,?_,fun g hg=>?_,keys _ fun y=>?_⟩⟩
    ·rw[Zc,Yq];exact⟨gn,by simp,fun a ha b hb c=>nk (by rw[<-show b=n from X8 hb,<-c];exact ha)⟩
    ·rw[tk,Zz];rcases X7 hg with q|q
     ·have c:g.1≠n:=fun c=>nk (by rw[<-c];exact Xa ⟨g,q,rfl⟩)
      rw[gf g q,Y0 (by rw[hn];simpa using fun z=>c z.symm),Y2,Zw]
     ·rw[X8 q];show [t]=_++List.filter (fun t=>decide (t.2[i]? =some n)) [t];rw[Y1 (by rw[hn];simp),Y2,List.filter_eq_nil_iff.mpr fun t' ht' c=>nk ((gk n).mpr ⟨t',ht',Zn c⟩)];rfl
    ·rw[Zc,Yk,Yi,map_nil,mem_singleton]
  ·rintro σ H' ⟨⟨o3,rfl⟩,sm,gs,hgs,gn,gf,gk⟩;rw[sm',Zm (Zh _)]at gf gk;refine k2 _ _ ?_;walk_at "rd";refine kk e H' sm fe ⟨_,hgs.at_,fun n=>?_⟩;cases hv:bO (gD gs) (Sum.inr n)with
   | none=>
     refine .inr ⟨rfl,fun t ht c=>?_⟩;obtain⟨q,hq,c⟩:=X9 ((gk n).mpr ⟨t,ht,c⟩);have:=ir hq;rw[c,hv]at this;exact this rfl
   | some v=>
     obtain⟨q,hq,e1,rfl⟩:=fF hv;refine .inl ⟨_,rfl,?_⟩;rw[(hgs.la q hq).2,gf q hq,e1]
theorem cZ(T:Txt K mg):Cal P w K mg base 2 "links_by_later" ["found"] (zN 0):=by
 refine T.d_links_by_later.cal iU (fun vs H Q E h=>?_) (fun f cdv A outer s H vs Q E hr h=>?_)
 ·obtain⟨l,ns,ss,rfl,_⟩:=h;rfl
 ·obtain⟨l,ns,ss,rfl,hl,hss,hsl,kk⟩:=h;refine⟨_,(QSs.h (am (aK (aD (np T) hr rfl rfl rfl rfl (paE rfl (vn 0 rfl Z0 rfl rfl) (paE rfl (gvE T.g_LATER rfl rfl) ah)))))),?_⟩;show eM _ _ [some (.ref l)] H;walk_at "rd";exact⟨l,0,ns,ss,rfl,by decide,hl,hss,hsl,kk⟩
theorem iu(T:Txt K mg):Cal P w K mg base 2 "links_by_earlier" ["found"] (zN 1):=by
 refine T.d_links_by_earlier.cal gT (fun vs H Q E h=>?_) (fun f cdv A outer s H vs Q E hr h=>?_)
 ·obtain⟨l,ns,ss,rfl,_⟩:=h;rfl
 ·obtain⟨l,ns,ss,rfl,hl,hss,hsl,kk⟩:=h;refine⟨_,(QSs.h (am (aK (aD (np T) hr rfl rfl rfl rfl (paE rfl (vn 0 rfl Z0 rfl rfl) (paE rfl (gvE T.g_EARLIER rfl rfl) ah)))))),?_⟩;show eM _ _ [some (.ref l)] H;walk_at "rd";exact⟨l,1,ns,ss,rfl,by decide,hl,hss,hsl,kk⟩
structure Rea (ss:List (Addr×List Str)) (st:Str) (rs:Gs Str):Prop where
 nd:(rs.map (·.1)).Nodup
 by_:∀(j:Nat) r,rs[j]? =some r->∃p z,r.2.2=[p,r.1,z]/\r.2∈ss/\(p=st\/p∈(rs.take j).map (·.1))
theorem Rea.nil{st:Str}:Rea ss st []:=⟨Ys,fun j r e=>by simp at e⟩
theorem Rea.len{st:Str}(h:Rea ss st rs):rs.length<=ss.length:=by
 have:=STab.nodup_sub h.nd (m:=ss.filterMap fun t=>t.2[1]?) fun x hx=>by
  obtain⟨r,hr,rfl⟩:=X9 hx;obtain⟨j,hj⟩:=X1 hr;obtain⟨p,z,e,hm,_⟩:=h.by_ j r hj;exact mem_filterMap.mpr ⟨r.2,hm,by rw[e];rfl⟩
 rw[Z5]at this;exact Y8 this (List.length_filterMap_le _ _)
theorem Rea.snoc{st:Str}(h:Rea ss st rs)(hm:(a,[p,y,z])∈ss)(hp:p=st\/p∈rs.map (·.1))(hy:y∉rs.map (·.1)):Rea ss st (rs++[(y,a,[p,y,z])]):=by
 refine⟨?_,fun j r e=>?_⟩
 ·rw[Zc,Yq];exact⟨h.nd,by simp,fun a ha b hb c=>hy (by rw[<-show b=y from X8 hb,<-c];exact ha)⟩
 ·by_cases hj:j<rs.length
  ·rw[Y3 hj]at e;obtain⟨p',z',h1,h2,h3⟩:=h.by_ j r e;exact⟨p',z',h1,h2,by rw[List.take_append_of_le_length (by lia)];exact h3⟩
  ·have je:j=rs.length:=by
    have:=(X6 e).1;rw[Z8,Yc]at this
    lia
   subst je;rw[Y4 (Zh _),sub_self,List.getElem?_cons_zero]at e;obtain rfl:=Z9 e;exact⟨p,z,rfl,hm,by rw[List.take_append_of_le_length (Zh _),List.take_length];exact hp⟩
theorem Rea.rch{st:Str}(h:Rea ss st rs):∀x∈rs.map (·.1),Rch (ss.map (·.2)) st x:=by
 have:∀n (j:Nat) r,j<=n->rs[j]? =some r->Rch (ss.map (·.2)) st r.1:=fun n=>by
  induction n with
  | zero=>
    intro j r hj e;obtain⟨p,z,h1,h2,h3⟩:=h.by_ j r e;rw[show j=0 by lia,List.take_zero]at h3;obtain rfl:=h3.resolve_right (by simp);exact .one ⟨z,by rw[<-h1];exact Xa ⟨_,h2,rfl⟩⟩
  | succ n ih=>
    intro j r hj e;obtain⟨p,z,h1,h2,h3⟩:=h.by_ j r e;have ed:Ed (ss.map (·.2)) p r.1:=⟨z,by rw[<-h1];exact Xa ⟨_,h2,rfl⟩⟩
    rcases h3 with rfl|h3
    ·exact .one ed
    ·obtain⟨q,hq,rfl⟩:=X9 h3;obtain⟨i,hi⟩:=X1 hq;have il:=(X6 hi).1;rw[Yd]at il;rw[Y5 (by lia)]at hi;exact .more (ih i q (by lia) hi) ed
 intro x hx;obtain⟨r,hr,rfl⟩:=X9 hx;obtain⟨j,hj⟩:=X1 hr;exact this j j r (Zh _) hj
def dD(d:Addr)(H H':Hp):Prop:=∀b o,b≠d->H b=some o->H' b=some o
theorem dD.trans(h:dD d H H')(g:dD d H' H''):dD d H H'':=fun b o n e=>g b o n (h b o n e)
theorem dD.of(h:ac H H'):dD d H H':=fun b o _ e=>h b o e
theorem GrB.x(h:GrB H b ss i)(s:dD d H H')(n:b≠d)(hd:H d=some (.dK kv)):GrB H' b ss i:=by
 obtain⟨kvs,h1,h2⟩:=h;exact⟨kvs,s _ _ n h1,fun n=>(h2 n).imp_left fun⟨l,a,b⟩=>⟨l,a,s _ _ (fun c=>by rw[c,hd]at b;cases b) b⟩⟩
theorem cJ.x(h:cJ H ns ss)(s:dD d H H')(hd:H d=some (.dK kv)):cJ H' ns ss:=fun t ht=>⟨s _ _ (fun c=>by have b:=(h t ht).1;rw[c,hd]at b;cases b) (h t ht).1,(h t ht).2⟩
theorem GrB.get(h:GrB H0 b ss i)(s:dD d H0 H)(nb:b≠d)(hd:∀xs,H0 d≠some (.lst xs))(hp:H p=none)(n:Str):∃kvs a,upd H p (.lst []) b=some (.dK kvs)/\(bO kvs (Sum.inr n)).getD (.ref p)= .ref a/\upd H p (.lst []) a=some (.lst ((ss.filter fun t=>decide (t.2[i]? =some n)).map fun t=>V.ref t.1))/\(a=p\/∃o,H0 a=some o):=by
 obtain⟨kvs,h1,h2⟩:=h;have sp:=ac.upd (o:= .lst []) hp;rcases h2 n with⟨l,hv,hl⟩|⟨hv,hn⟩
 ·exact⟨kvs,l,sp _ _ (s _ _ nb h1),by rw[hv];rfl,sp _ _ (s _ _ (fun c=>hd _ (by rw[<-c];exact hl)) hl),.inr ⟨_,hl⟩⟩
 ·refine⟨kvs,p,sp _ _ (s _ _ nb h1),by rw[hv];rfl,?_,.inl rfl⟩;rw[List.filter_eq_nil_iff.mpr fun t ht c=>hn t ht (Zn c)];exact aa
def zu:Sp:=fun vs H Q _=>∃(b e d:Addr) (ns F:List Str) (ss:List (Addr×List Str)) (rs:Gs Str) (st:Str),vs=[.ref b,.ref e,.ref d]/\b≠d/\GrB H b ss 0/\cJ H ns ss/\ss.length<=62/\H e=some (.lst (F.map V.str))/\H d=some (.dK (gD rs))/\Rea ss st rs/\(∀x∈F,x=st\/x∈rs.map (·.1))/\
 ∀g H' (new:Gs Str),dD d H H'->H g=none->H' g=some (.lst ((new.map (·.1)).map V.str))->H' d=some (.dK (gD (rs++new)))->Rea ss st (rs++new)->(∀x∈F,∀y,Ed (ss.map (·.2)) x y->y∈(rs++new).map (·.1))->Q (.ref g) H'
theorem qh(T:Txt K mg):Cal P w K mg base 1 "next_edge" ["beneath","edge","reached"] zu:=by
 refine T.d_next_edge.cal dE (fun vs H Q E h=>?_) (fun f cdv A outer s H vs Q E hr h=>?_)
 ·obtain⟨b,e,d,ns,F,ss,rs,st,rfl,_⟩:=h;rfl
 ·obtain⟨b,e,d,ns,F,ss,rs,st,rfl,nbd,hb,hss,hsl,he,hd,hre,hF,kk⟩:=h;have Fm:(F.map V.str).length=F.length:=Z5 _;have ed:e≠d:=fun c=>by rw[c,hd]at he;cases he
  refine⟨_,(QSs.h (ae (aI 3 dE.nd rfl Z0 Z1 rfl (cz ah))
   (ae (cA PassesOwn.never rfl rfl (cw (K:=K) rfl (vn 1 rfl Z0 rfl rfl)) (au 4 dE.nd rfl Z0 Z1)
   (am (cA PassesOwn.never rfl rfl (cw (K:=K) rfl (bmE (K:=K) rfl plainAttrs_dict slot_dict_get type_dict_get wU rfl rfl rfl rfl (vn 0 rfl Z0 rfl rfl) (paE rfl (vn 4 rfl Z0 rfl rfl) (paE rfl (cz ah) ah)))) (au 5 dE.nd rfl Z0 Z1)
    (am (ifS (kq hr rfl (cn (K:=K) rfl (fun _ _=>rfl) (vn 5 rfl Z0 rfl rfl) (gvE T.g_EARLIER rfl rfl)) (vn 2 rfl Z0 rfl rfl))
     (ae (iO hr rfl (vn 5 rfl Z0 rfl rfl) (vn 2 rfl Z0 rfl rfl) (cn (K:=K) rfl (fun _ _=>rfl) (vn 5 rfl Z0 rfl rfl) (gvE T.g_EARLIER rfl rfl)))
      (am (bD rfl (bmE (K:=K) rfl plainAttrs_list PySem.F.slot_list_append PySem.F.type_list_append aV rfl rfl rfl rfl (vn 3 rfl Z0 rfl rfl) (paE rfl (cn (K:=K) rfl (fun _ _=>rfl) (vn 5 rfl Z0 rfl rfl) (gvE T.g_EARLIER rfl rfl)) ah)))))
     aU)))))
   (am (aK (vn 3 rfl Z0 rfl rfl)))))),?_⟩
  show bg _ _ _ [some (.ref b),some (.ref e),some (.ref d),none,none,none] H;refine aj fun D1 k1 _=>?_
  walk_at "rd";refine⟨(show 0<=sizeLine by decide),fun g fg=>k1 _ _ (aj fun D2 k2 _=>av fun Kont hK=>?_)⟩;have gd:g≠d:=fun c=>by rw[c,hd]at fg;cases fg
  have s1:=ac.upd (o:= .lst []) fg;have gg:upd H g (.lst []) g=some (.lst ((([]:Gs Str).map (·.1)).map V.str)):=aa
  generalize upd H g (.lst [])=H1 at s1 gg
  walk_at "rd";refine .inl ⟨⟨_,SqL.of (s1 _ _ he)⟩,hK _ _ ?_⟩;refine bd (xs:=F.map V.str) (fun i σ H'=>(∃o4 o5,σ=[some (.ref b),some (.ref e),some (.ref d),some (.ref g),o4,o5])/\dD d H H'/\∃new:Gs Str,H' g=some (.lst ((new.map (·.1)).map V.str))/\H' d=some (.dK (gD (rs++new)))/\Rea ss st (rs++new)/\∀x∈F.take i,∀y,Ed (ss.map (·.2)) x y->y∈(rs++new).map (·.1))
   ⟨⟨_,_,rfl⟩,dD.of s1,[],gg,by rw[Zw];exact s1 _ _ hd,by rw[Zw];exact hre,fun x hx=>(nomatch hx)⟩ (fun i σ H' _ h=>SqL.of (h.2.1 _ _ ed he)) ?_ ?_
  ·rintro i x σ H' hx ⟨⟨o4,o5,rfl⟩,sm,new,hg,hd',hre',hdone⟩;rw[Zk]at hx;obtain⟨n,hn,rfl⟩:=map_eq_some_iff.mp hx;have tk:F.take (i+1)=F.take i++[n]:=by rw[Yx,hn];rfl
   show vv _ _ _ _ [some (.ref b),some (.ref e),some (.ref d),some (.ref g),some (.str n),o5] H';refine aB fun D3 k3 _=>av fun Kont hK=>?_
   walk_at "rd";refine⟨.inr (.inr (.inl (.inl ⟨_,sm _ _ nbd hb.choose_spec.1⟩))),(show 0<=sizeLine by decide),fun p hp=>?_⟩;obtain⟨kvs,a,hkb,hka,hla,hao⟩:=hb.get sm nbd (fun xs c=>by rw[hd]at c;cases c) hp n;have ag:a≠g:=by
    rcases hao with rfl|⟨o,ho⟩
    ·exact fun c=>by rw[c,hg]at hp;cases hp
    ·exact fun c=>by rw[c,fg]at ho;cases ho
   have ad:a≠d:=fun c=>by
    have:=hla;rw[c,ai (fun c=>by rw[c,hp]at hd';cases hd'),hd']at this;cases this
   have sp:=ac.upd (o:= .lst []) hp;have hg:=sp _ _ hg;have hd':=sp _ _ hd';have sm:=sm.trans (dD.of sp)
   generalize upd H' p (.lst [])=H2 at hkb hla sp hg hd' sm ⊢
   generalize ets:(ss.filter fun t=>decide (t.2[0]? =some n))=ts at hla
   have tm:(ts.map fun t=>V.ref t.1).length=ts.length:=Z5 _;have tss:∀t∈ts,t∈ss/\∃y z,t.2=[n,y,z]:=fun t ht=>by
    rw[<-ets]at ht;obtain⟨h1,h2⟩:=List.mem_filter.mp ht;obtain⟨x,y,z,e,_⟩:=(hss t h1).2;have h2:=Zn h2;rw[e]at h2;exact⟨h1,y,z,by rw[e,show x=n from Z9 h2]⟩
   refine⟨Sum.inr n,rfl,kvs,hkb,.inl ⟨a,hka,⟨_,SqL.of hla⟩,hK _ _ ?_⟩⟩;refine bd (xs:=ts.map fun t=>V.ref t.1) (fun j σ H3=>(∃o5,σ=[some (.ref b),some (.ref e),some (.ref d),some (.ref g),some (.str n),o5])/\dD d H H3/\H3 a=some (.lst (ts.map fun t=>V.ref t.1))/\∃new:Gs Str,H3 g=some (.lst ((new.map (·.1)).map V.str))/\H3 d=some (.dK (gD (rs++new)))/\Rea ss st (rs++new)/\(∀x∈F.take i,∀y,Ed (ss.map (·.2)) x y->y∈(rs++new).map (·.1))/\∀t∈ts.take j,∀y,t.2[1]? =some y->y∈(rs++new).map (·.1))
    ⟨⟨_,rfl⟩,sm,hla,new,hg,hd',hre',hdone,fun t ht=>(nomatch ht)⟩ (fun j σ H3 _ h=>SqL.of h.2.2.1) ?_ ?_
   ·rintro j x σ H3 hx ⟨⟨o5,rfl⟩,sm3,hla3,new,hg3,hd3,hre3,hdone3,hj3⟩;rw[Zk]at hx;obtain⟨t,ht,rfl⟩:=map_eq_some_iff.mp hx;obtain⟨tin,y,z,et⟩:=tss t (Z7 ht);have st3:=(hss.x sm3 hd t tin).1;rw[et]at st3;have tk3:ts.take (j+1)=ts.take j++[t]:=by rw[Yx,ht];rfl
    show j2 _ _ _ _ [some (.ref b),some (.ref e),some (.ref d),some (.ref g),some (.str n),some (.ref t.1)] H3;refine aB fun D4 k4 _=>?_
    walk_at "rd";refine⟨_,SqT.of st3,_,rfl,_,cf.k (k:=Sum.inr y) hd3,?_⟩;have nin:∀(nw:Gs Str),(∀x∈(rs++new).map (·.1),x∈(rs++nw).map (·.1))->y∈(rs++nw).map (·.1)->(∀x∈F.take i,∀y,Ed (ss.map (·.2)) x y->y∈(rs++nw).map (·.1))/\∀t∈ts.take (j+1),∀y,t.2[1]? =some y->y∈(rs++nw).map (·.1):=fun nw mono hy=>by
     refine⟨fun x hx y h=>mono y (hdone3 x hx y h),fun t' ht' y' h=>?_⟩;rw[tk3]at ht';rcases X7 ht' with q|q
     ·exact mono y' (hj3 t' q y' h)
     ·rw[X8 q,et]at h;rw[<-show y=y' from Z9 h];exact hy
    cases hv:bO (gD (rs++new)) (Sum.inr y)with
    | some v=>
      rw[if_neg (by simp)];obtain⟨q,hq,e1,_⟩:=fF hv;obtain⟨n1,n2⟩:=nin new (fun _ h=>h) (by rw[<-e1];exact Xa ⟨q,hq,rfl⟩);exact k4 _ _ ⟨⟨_,rfl⟩,sm3,hla3,new,hg3,hd3,hre3,n1,n2⟩
    | none=>
      rw[if_pos (by rfl)];have hy:y∉(rs++new).map (·.1):=fun h=>by
       obtain⟨q,hq,c⟩:=X9 h;have:=ir hq;rw[c,hv]at this;exact this rfl
      have td:t.1≠d:=fun c=>by rw[c,hd3]at st3;cases st3
      have tg:t.1≠g:=fun c=>by rw[c,hg3]at st3;cases st3
      have ln:=hre3.len;have nl:new.length<=62:=by rw[Z8]at ln;lia
      refine⟨_,SqT.of st3,_,rfl,_,jh.k (k:=Sum.inr y) hd3 (by unfold gD;rw[Z5];exact aH (by lia)),?_⟩;rw[fQ _ hv];have e1:gD (rs++new) ++[(Sum.inr y,V.ref t.1)]=gD (rs++(new++[(y,t.1,[n,y,z])])):=by
       unfold gD;rw[<-Zd,Zc (l₂:=[_])];rfl
      rw[e1];have u1:∀c o,c≠d->H3 c=some o->upd H3 d (.dK (gD (rs++(new++[(y,t.1,[n,y,z])])))) c=some o:=fun c o h e=>by rw[ai h];exact e
      have ud:upd H3 d (.dK (gD (rs++(new++[(y,t.1,[n,y,z])])))) d=_:=aa
      generalize upd H3 d (.dK (gD (rs++(new++[(y,t.1,[n,y,z])]))))=H4 at u1 ud
      have hg4:=u1 _ _ gd hg3;have R:=hre3.snoc (p:=n) (y:=y) (z:=z) (a:=t.1) (by rw[<-et];exact tin) ((hF n (Z7 hn)).imp_right fun h=>by rw[Zc];exact Yl _ h) hy;rw[Zd]at R;obtain⟨n1,n2⟩:=nin (new++[(y,t.1,[n,y,z])]) (fun x hx=>by rw[<-Zd,Zc];exact Yl _ hx) (by rw[<-Zd,Zc];exact Ym _ Zl);refine⟨.inl ⟨_,SqL.of hg4⟩,_,SqT.of (u1 _ _ td st3),_,rfl,_,hg4,by rw[Z5,Z5];exact aH (by lia),k4 _ _ ⟨⟨_,rfl⟩,fun c o h e=>?_,(ai ag).trans (u1 _ _ ad hla3),_,?_,(ai gd.symm).trans ud,R,n1,n2⟩⟩
      ·rw[ai (aq e fg)];exact u1 _ _ h (sm3 _ _ h e)
      ·rw[aa,Zc,Zc];rfl
   ·rintro σ H3 ⟨⟨o5,rfl⟩,sm3,hla3,new,hg3,hd3,hre3,hdone3,hj3⟩;rw[tm,Zm (Zh _)]at hj3;refine k3 _ _ ⟨⟨_,_,rfl⟩,sm3,new,hg3,hd3,hre3,fun x hx y ⟨z,hy⟩=>?_⟩;rw[tk]at hx;rcases X7 hx with q|q
    ·exact hdone3 x q y ⟨z,hy⟩
    ·rw[X8 q]at hy;obtain⟨t,ht,et⟩:=X9 hy;exact hj3 t (by rw[<-ets];exact List.mem_filter.mpr ⟨ht,by rw[et];simp⟩) y (by rw[et];rfl)
  ·rintro σ H' ⟨⟨o4,o5,rfl⟩,sm,new,hg,hd',hre',hdone⟩;rw[Fm,Zm (Zh _)]at hdone;refine k2 _ _ ?_;walk_at "rd";exact kk g H' new sm fg hg hd' hre' hdone
theorem nq(h: ¬ (!b)=true):b=true:=by
 cases b
 ·exact absurd rfl h
 ·rfl
def Bx:Sp:=fun vs H Q _=>∃(d:Addr) (st goal:Str) (ns:List Str) (ss:List (Addr×List Str)) (rs:Gs Str),vs=[.ref d,.str st,.str goal]/\H d=some (.dK (gD rs))/\Rea ss st rs/\cJ H ns ss/\ss.length<=62/\goal∈rs.map (·.1)/\∀l H' xs,ac H H'->H' l=some (.lst xs)->Q (.ref l) H'
theorem xz{rs:Gs Str}(nd:(rs.map (·.1)).Nodup){y:Str}(h:y∈rs.map (·.1)){m:Nat}(hm:y∈(rs.take m).map (·.1)\/rs.length<=m):∃j r,j<m/\rs[j]? =some r/\r.1=y/\bO (gD rs) (Sum.inr y)=some (.ref r.2.1):=by
 cases hv:bO (gD rs) (Sum.inr y)with
 | none=>
   obtain⟨q,hq,c⟩:=X9 h;have:=ir hq;rw[c,hv]at this;exact(this rfl).elim
 | some v=>
   obtain⟨q,hq,e,rfl⟩:=fF hv;rcases hm with hm|hm
   ·obtain⟨q',hq',e'⟩:=X9 hm;obtain rfl:=sM nd hq (Yo hq') (e.trans e'.symm);obtain⟨j,hj⟩:=X1 hq';have jl:=(X6 hj).1;rw[Yd]at jl;exact⟨j,q,by lia,by rwa[Y5 (by lia)]at hj,e,rfl⟩
   ·obtain⟨j,hj⟩:=X1 hq;have jl:=(X6 hj).1;exact⟨j,q,by lia,hj,e,rfl⟩
theorem xA(T:Txt K mg):Cal P w K mg base 1 "way_to" ["reached","start","goal"] Bx:=by
 refine T.d_way_to.cal nh (fun vs H Q E h=>?_) (fun f cdv A outer s H vs Q E hr h=>?_)
 ·obtain⟨d,st,goal,ns,ss,rs,rfl,_⟩:=h;rfl
 ·obtain⟨d,st,goal,ns,ss,rs,rfl,hd,hre,hss,hsl,hgo,kk⟩:=h;refine⟨_,(QSs.h (ae (aI 3 nh.nd rfl Z0 Z1 rfl (cz (paE rfl (dk hr (fun _ _=>rfl) (vn 0 rfl Z0 rfl rfl) (vn 2 rfl Z0 rfl rfl)) ah)))
   (ae (lw PassesOwn.never (bu eA rfl (cn (K:=K) rfl (fun _ _=>rfl) (dj (K:=K) rfl (fun _ _=>rfl) (vn 3 rfl Z0 rfl rfl) (qL ap)) (gvE T.g_LATER rfl rfl)) (vn 1 rfl Z0 rfl rfl))
   (am (bD rfl (bmE (K:=K) rfl plainAttrs_list PySem.F.slot_list_append PySem.F.type_list_append aV rfl rfl rfl rfl (vn 3 rfl Z0 rfl rfl) (paE rfl (dk hr (fun _ _=>rfl) (vn 0 rfl Z0 rfl rfl) (cn (K:=K) rfl (fun _ _=>rfl) (dj (K:=K) rfl (fun _ _=>rfl) (vn 3 rfl Z0 rfl rfl) (qL ap)) (gvE T.g_LATER rfl rfl))) ah)))))
   (am (aK (wX rfl rfl T.b_reversed rfl T.b_list rfl (vn 3 rfl Z0 rfl rfl))))))),?_⟩
  show bg _ _ _ [some (.ref d),some (.str st),some (.str goal),none] H;refine aj fun D1 k1 _=>?_
  walk_at "rd";obtain⟨j,r,_,hj,e1,hv⟩:=xz hre.nd hgo (m:=rs.length) (.inr (Zh _));have get:=cf.k (k:=Sum.inr goal) hd;rw[hv]at get;refine⟨_,get,(show 1<=sizeLine by decide),fun wy fw=>k1 _ _ (aj fun D2 k2 _=>?_)⟩;have s1:=ac.upd (o:= .lst [V.ref r.2.1]) fw;have gw:upd H wy (.lst [V.ref r.2.1]) wy=some (.lst ([] ++[V.ref r.2.1])):=aa
  generalize upd H wy (.lst [V.ref r.2.1])=H1 at s1 gw
  have rl:=hre.len;have jl:=(X6 hj).1;refine⟨fun m σ H'=>σ=[some (.ref d),some (.str st),some (.str goal),some (.ref wy)]/\ac H H'/\∃ws r,rs[m]? =some r/\H' wy=some (.lst (ws++[.ref r.2.1]))/\ws.length+m<=62,⟨j,rfl,s1,[],r,hj,gw,by simp;lia⟩,?_⟩;rintro m σ H2 ⟨rfl,sm,ws,r,hm,hw,hl⟩;obtain⟨p,z,e2,hin,hp⟩:=hre.by_ m r hm;have st2:=sm _ _ (hss _ hin).1;rw[e2]at st2;walk_at "rd";refine⟨_,SqL.of hw,_,oQ _ _,_,rfl,_,SqT.of st2,_,rfl,rfl,bw (fun h=>?_) fun h=>?_⟩
  ·have h:p≠st:=by simpa using h
   have hp:=hp.resolve_left h;obtain⟨j',r',jm,hj',e3,hv'⟩:=xz hre.nd (List.map_subset _ (List.take_subset _ _) hp) (.inl hp);have get:=cf.k (k:=Sum.inr p) (sm _ _ hd);rw[hv']at get;refine⟨fun σ' H'=>∃m',m'<m/\σ'=[some (.ref d),some (.str st),some (.str goal),some (.ref wy)]/\ac H H'/\∃ws r,rs[m']? =some r/\H' wy=some (.lst (ws++[.ref r.2.1]))/\ws.length+m'<=62,fun _ _ h=>h,?_⟩;refine⟨.inl ⟨_,SqL.of hw⟩,_,SqL.of hw,_,oQ _ _,_,rfl,_,SqT.of st2,_,rfl,_,get,_,hw,by rw[Z8,Yc];exact aH (by lia),j',jm,rfl,ac.set sm fw,ws++[.ref r.2.1],r',hj',aa,by rw[Z8,Yc];lia⟩
  ·refine k2 _ _ ?_;walk_at "rd";exact⟨_,hw,fun p hp=>kk p _ _ (sm.trans (ac.upd hp)) aa⟩
def xB:Sp:=fun vs H Q _=>∃(b:Addr) (st goal:Str) (ns:List Str) (ss:List (Addr×List Str)),vs=[.ref b,.str st,.str goal]/\GrB H b ss 0/\cJ H ns ss/\ss.length<=62/\(∀H',ac H H'-> ¬ Rch (ss.map (·.2)) st goal->Q .non H')/\∀l H' xs,ac H H'->Rch (ss.map (·.2)) st goal->H' l=some (.lst xs)->Q (.ref l) H'
def Cf(H:Hp)(b d:Addr)(st goal:Str)(ss:List (Addr×List Str))(m:Nat)(σ:L2.St)(H':Hp):Prop:=∃(e:Addr) (F:List Str) (rs:Gs Str),σ=[some (.ref b),some (.str st),some (.str goal),some (.ref d),some (.ref e)]/\ac H H'/\H' e=some (.lst (F.map V.str))/\H' d=some (.dK (gD rs))/\Rea ss st rs/\(∀x∈F,x=st\/x∈rs.map (·.1))/\(∀x,x=st\/x∈rs.map (·.1)->x∈F\/∀y,Ed (ss.map (·.2)) x y->y∈rs.map (·.1))/\m=2*(62-rs.length) +F.length.min 1
theorem d9(T:Txt K mg):Cal P w K mg base 2 "shortest_way" ["beneath","start","goal"] xB:=by
 refine T.d_shortest_way.cal cm (fun vs H Q E h=>?_) (fun f cdv A outer s H vs Q E hr h=>?_)
 ·obtain⟨b,st,goal,ns,ss,rfl,_⟩:=h;rfl
 ·obtain⟨b,st,goal,ns,ss,rfl,hb,hss,hsl,kn,ky⟩:=h;refine⟨_,(QSs.h (ae (aI 3 cm.nd rfl Z0 Z1 rfl jT)
   (ae (aI 4 cm.nd rfl Z0 Z1 rfl (cz (paE rfl (vn 1 rfl Z0 rfl rfl) ah)))
   (ae (lw PassesOwn.never (wT (kR (bu wl rfl (cbE (bV (K:=K) rfl) rfl T.b_len PySem.boot_len rfl rfl rfl (paE rfl (vn 4 rfl Z0 rfl rfl) ah)) ap) (iF (kq hr rfl (vn 2 rfl Z0 rfl rfl) (vn 3 rfl Z0 rfl rfl)))))
   (am (aI 4 cm.nd rfl Z0 Z1 rfl (aD (qh T) hr rfl rfl rfl rfl (paE rfl (vn 0 rfl Z0 rfl rfl) (paE rfl (vn 4 rfl Z0 rfl rfl) (paE rfl (vn 3 rfl Z0 rfl rfl) ah)))))))
   (ae (ifS (kq hr rfl (vn 2 rfl Z0 rfl rfl) (vn 3 rfl Z0 rfl rfl))
   (am (aK lU))
   aU)
   (am (aK (aD (xA T) hr rfl rfl rfl rfl (paE rfl (vn 3 rfl Z0 rfl rfl) (paE rfl (vn 1 rfl Z0 rfl rfl) (paE rfl (vn 2 rfl Z0 rfl rfl) ah))))))))))),?_⟩
  show bg _ _ _ [some (.ref b),some (.str st),some (.str goal),none,none] H;refine aj fun D1 k1 _=>?_
  walk_at "rd";intro d fd;refine k1 _ _ (aj fun D2 k2 _=>?_);have nbd:b≠d:=fun c=>by
   obtain⟨kvs,h1,_⟩:=hb;rw[c,fd]at h1;cases h1
  have s1:=ac.upd (o:= .dK []) fd;have hd:upd H d (.dK []) d=some (.dK (gD ([]:Gs Str))):=aa
  generalize upd H d (.dK [])=H1 at s1 hd
  walk_at "rd";refine⟨(show 1<=sizeLine by decide),fun e fe=>k2 _ _ (aj fun D3 k3 _=>?_)⟩;have s2:=ac.upd (o:= .lst [V.str st]) fe;have he:upd H1 e (.lst [V.str st]) e=some (.lst ([st].map V.str)):=aa;have hd:=s2 _ _ hd;have s12:=s1.trans s2
  generalize upd H1 e (.lst [V.str st])=H2 at s12 he hd
  refine⟨Cf H b d st goal ss,⟨_,e,[st],[],rfl,s12,he,hd,.nil,by simp,fun x hx=> .inl (by simpa using hx),rfl⟩,?_⟩;rintro m σ H3 ⟨e,F,rs,rfl,sm,he,hd,hre,hF,hcl,rfl⟩;have fm:(F.map V.str).length=F.length:=Z5 _;have get:=cf.k (k:=Sum.inr goal) hd;have gin:goal∈rs.map (·.1)↔(bO (gD rs) (Sum.inr goal)).isSome=true:=by
   cases hv:bO (gD rs) (Sum.inr goal)with
   | none=>
     refine⟨fun h=>?_,fun h=>(nomatch h)⟩;obtain⟨q,hq,c⟩:=X9 h;have:=ir hq;rw[c,hv]at this;exact(this rfl).elim
   | some v=>
     obtain⟨q,hq,c,_⟩:=fF hv;exact⟨fun _=>rfl,fun _=>by rw[<-c];exact Xa ⟨q,hq,rfl⟩⟩
  walk_at "rd";have fin:(goal∉rs.map (·.1)->F=[])->D3.nx [some (.ref b),some (.str st),some (.str goal),some (.ref d),some (.ref e)] H3:=fun h=>by
   refine k3 _ _ (aj fun D4 k4 r4=>?_);walk_at "rd";refine⟨_,get,bw (fun q=>?_) fun q=>?_⟩
   ·have q:goal∉rs.map (·.1):=fun c=>by rw[gin.mp c]at q;cases q
    refine r4 _ _ (kn H3 sm fun r=>q (r.closed (R:=fun y=>y∈rs.map (·.1)) (fun y ed=>?_) fun x y hx ed=>?_))
    ·exact(hcl st (.inl rfl)).resolve_left (by rw[h q];simp) y ed
    ·exact(hcl x (.inr hx)).resolve_left (by rw[h q];simp) y ed
   ·have q:goal∈rs.map (·.1):=gin.mpr (nq q);refine k4 _ _ ?_;walk_at "rd";exact⟨d,st,goal,ns,ss,rs,rfl,hd,hre,hss.up sm,hsl,q,fun l H' xs s' hl=>ky l H' xs (sm.trans s') (hre.rch goal q) hl⟩
  refine⟨_,.inl ⟨_,SqL.of he,rfl⟩,bw (fun h=>?_) fun h=>fin fun _=>?_⟩
  ·have h:0<F.length:=by
    rw[fm]at h;have:=Zn h
    lia
   refine⟨_,get,bw (fun q=>?_) fun q=>fin fun c=>absurd (gin.mpr (nq q)) c⟩;refine⟨fun σ' H'=>∃m',m'<2*(62-rs.length) +F.length.min 1/\Cf H b d st goal ss m' σ' H',fun _ _ h=>h,?_⟩;refine⟨b,e,d,ns,F,ss,rs,st,rfl,nbd,hb.up sm,hss.up sm,hsl,he,hd,hre,hF,fun g H4 new sx fg hg hd4 hre4 hdone=>?_⟩;have ln:=hre4.len;rw[Z8]at ln;have smin:F.length.min 1=1:=Nat.min_eq_right h;have s4:ac H H4:=fun c o ec=>sx c o (fun z=>by rw[z,fd]at ec;cases ec) (sm _ _ ec)
   refine⟨_,?_,g,new.map (·.1),rs++new,rfl,s4,hg,hd4,hre4,fun x hx=> .inr (by rw[Zc];exact Ym _ hx),fun x hx=>?_,rfl⟩
   ·rw[smin,Z8,Z5];cases new with
    | nil=>simp
    | cons a r=>
      rw[Zq]at ln ⊢;have:(r.length+1).min 1<=1:=Nat.min_le_right _ _
      lia
   ·have old:x=st\/x∈rs.map (·.1)->x∈new.map (·.1)\/∀y,Ed (ss.map (·.2)) x y->y∈(rs++new).map (·.1):=fun hx=>by
     rcases hcl x hx with q|q
     ·exact .inr (hdone x q)
     ·exact .inr fun y ey=>by rw[Zc];exact Yl _ (q y ey)
    rcases hx with q|q
    ·exact old (.inl q)
    ·rw[Zc]at q;rcases X7 q with q|q
     ·exact old (.inr q)
     ·exact .inl q
  ·cases F with
   | nil=>rfl
   | cons x F=>exact absurd (Ze (by rw[fm,Zq];lia)) h
noncomputable def VD(ls:List Str)(g:Str->V):List (Key×V):=ls.map fun z=>(Sum.inr z,g z)
theorem gj:∀{ls:List Str},z∈ls->bO (VD ls g) (Sum.inr z)=some (g z)
 | x::ls,h=>by
   by_cases e:x=z
   ·subst e;exact dO rfl
   ·rw[show VD (x::ls) g=(Sum.inr x,g x)::VD ls g from rfl,cx (fun q=>e (Sum.inr.inj q))];exact gj ((mem_cons.mp h).resolve_left fun q=>e q.symm)
theorem gQ:∀{ls:List Str},z∉ls->bO (VD ls g) (Sum.inr z)=none
 |[],_=>rfl
 | x::ls,h=>by
   rw[Yn,not_or]at h;rw[show VD (x::ls) g=(Sum.inr x,g x)::VD ls g from rfl,cx (fun q=>h.1 (Sum.inr.inj q).symm)];exact gQ h.2
theorem By(h:z∈ls):dg (VD ls g) (Sum.inr z) v=VD ls (fun x=>if x=z then v else g x):=by
 unfold dg;rw[if_pos (by rw[fO,gj h];rfl)];unfold VD;rw[Yj];refine Yh fun x _=>?_
 show(if(Sum.inr x:Key)=Sum.inr z then((Sum.inr x:Key),v)else(Sum.inr x,g x))=(Sum.inr x,if x=z then v else g x)
 by_cases e:x=z
 ·rw[if_pos (congrArg _ e),if_pos e]
 ·rw[if_neg (fun q=>e (Sum.inr.inj q)),if_neg e]
noncomputable def cnt(ss:List (Addr×List Str))(L:List Str)(n:Str):Nat:=ss.countP fun t=>decide (t.2[0]? =some n)&&t.2[1]?.all fun y=>decide (y∉L)
theorem zv(ss:List (Addr×List Str))(n:Str):cnt ss [] n=(ss.filter fun t=>decide (t.2[0]? =some n)).length:=by
 unfold cnt;rw[<-List.countP_eq_length_filter];refine List.countP_congr fun t _=>?_
 cases t.2[1]? <;> simp
theorem xC(h:cnt ss L m=0)(e:Ed (ss.map (·.2)) m y):y∈L:=by
 obtain⟨z,hz⟩:=e;obtain⟨t,ht,et⟩:=X9 hz;have:=List.countP_eq_zero.mp h t ht;rw[et]at this;simpa using this
theorem qj(hm:m∉L):∀ss:List (Addr×List Str),cnt ss L n=cnt ss (L++[m]) n+(ss.filter fun t=>decide (t.2[1]? =some m)).countP fun t=>decide (t.2[0]? =some n)
 |[]=>rfl
 | t::ss=>by
   have ih:=qj (n:=n) hm ss;unfold cnt at ih ⊢;rw[countP_cons,countP_cons,ih];cases h1:t.2[1]? with
   | none=>rw[Y0 (by rw[h1];simp)];simp only[Option.all_none];lia
   | some y=>
     by_cases e:y=m
     ·subst e;rw[Y1 (by rw[h1];simp),countP_cons];by_cases h0:t.2[0]? =some n
      ·simp[h0,hm];lia
      ·simp[h0]
     ·rw[Y0 (by rw[h1];simpa using e)];by_cases h0:t.2[0]? =some n
      ·by_cases hy:y∈L
       ·simp[h0,hy]
       ·simp[h0,hy,e];lia
      ·simp[h0]
structure Cg (ss:List (Addr×List Str)) (ns L R:List Str):Prop where
 nd:(L++R).Nodup
 mem:∀x,x∈L++R↔x∈ns/\cnt ss L x=0
 ord:∀(i:Nat) x,L[i]? =some x->∀y,Ed (ss.map (·.2)) x y->y∈L.take i
def Ch(H2:Hp)(l m b a w rd ld:Addr)(ns:List Str)(ss:List (Addr×List Str))(k:Nat)(σ:L2.St)(H':Hp):Prop:=∃(o5 o8 o9:Option V) (L R:List Str),σ=[some (.ref l),some (.ref m),some (.ref b),some (.ref a),some (.ref w),o5,some (.ref rd),some (.ref ld),o8,o9]/\ac H2 H'/\H' w=some (.dK (VD ns fun n=> .int (cnt ss L n)))/\H' rd=some (.lst (R.map V.str))/\H' ld=some (.lst (L.map V.str))/\Cg ss ns L R/\k=ns.length-L.length
def zw:Sp:=fun vs H Q _=>∃(l m:Addr) (ns:List Str) (ss:List (Addr×List Str)),vs=[.ref l,.ref m]/\H l=some (.lst (ns.map V.str))/\ns.Nodup/\ns.length<=60/\H m=some (.lst (ss.map fun t=>V.ref t.1))/\cJ H ns ss/\ss.length<=99/\
 ∀r H' (L:List Str),ac H H'->H r=none->H' r=some (.lst (L.map V.str))->L.Nodup->(∀x∈L,x∈ns)->(∀(i:Nat) x,L[i]? =some x->∀y,Ed (ss.map (·.2)) x y->y∈L.take i)->(∀x∈ns,x∉L->∃y,Ed (ss.map (·.2)) x y/\y∈ns/\y∉L)->Q (.ref r) H'
theorem gu(T:Txt K mg):Cal P w K mg base 3 "laid_in_turn" ["names","found"] zw:=by
 refine T.d_laid_in_turn.cal aS (fun vs H Q E h=>?_) (fun f cdv A outer s H vs Q E hr h=>?_)
 ·obtain⟨l,m,ns,ss,rfl,_⟩:=h;rfl
 ·obtain⟨l,m,ns,ss,rfl,hl,nn,nl,hm,hss,hsl,kk⟩:=h;have nm:(ns.map V.str).length=ns.length:=Z5 _;refine⟨_,(QSs.h (ae (aI 2 aS.nd rfl Z0 Z1 rfl (aD (cZ T) hr rfl rfl rfl rfl (paE rfl (vn 1 rfl Z0 rfl rfl) ah)))
   (ae (aI 3 aS.nd rfl Z0 Z1 rfl (aD (iu T) hr rfl rfl rfl rfl (paE rfl (vn 1 rfl Z0 rfl rfl) ah)))
   (ae (aI 4 aS.nd rfl Z1 Z0 rfl jT)
   (ae (cA PassesOwn.never rfl rfl (cw (K:=K) rfl (vn 0 rfl Z0 rfl rfl)) (au 5 aS.nd rfl Z0 Z1)
   (am (iO hr rfl (cbE (bV (K:=K) rfl) rfl T.b_len PySem.boot_len rfl rfl rfl (paE rfl (bmE (K:=K) rfl plainAttrs_dict slot_dict_get type_dict_get wU rfl rfl rfl rfl (vn 2 rfl Z0 rfl rfl) (paE rfl (vn 5 rfl Z0 rfl rfl) (paE rfl (cz ah) ah))) ah)) (vn 4 rfl (Or.inr Z0) rfl rfl) (vn 5 rfl Z0 rfl rfl))))
   (ae (iG 6 aS.nd rfl Z0 Z1 rfl (aE.of (show bT (af cE) ["names","found","beneath","above","waits","name","ready","laid","least","link"] _ ["name","waits"] [(1,4)]=true from by decide +kernel)) rfl rfl (cw (K:=K) rfl (vn 0 rfl Z0 rfl rfl)) (fun _ _ _=>(au 0 (show(["name","waits"]:List Str).Nodup from by decide +kernel) rfl Z0 Z1)) (fun _ _ _=>(sj (bu cL rfl (dk hr (fun _ _=>rfl) (vn 1 rfl (Or.inr Z0) rfl rfl) (vn 0 rfl Z0 rfl rfl)) ap))) (fun _ _ _=>(vn 0 rfl Z0 rfl rfl)))
   (ae (aI 7 aS.nd rfl Z0 Z1 rfl (cz ah))
   (ae (lw PassesOwn.never (bu wl rfl (cbE (bV (K:=K) rfl) rfl T.b_len PySem.boot_len rfl rfl rfl (paE rfl (vn 6 rfl Z0 rfl rfl) ah)) ap)
   (ae (aI 8 aS.nd rfl Z0 Z1 rfl (cbE (A9 (K:=K) rfl rfl) rfl T.b_min boot_min rfl rfl rfl (paE rfl (vn 6 rfl Z0 rfl rfl) ah)))
    (ae (bD rfl (bmE (K:=K) rfl plainAttrs_list PySem.F.slot_list_remove PySem.F.type_list_remove wV rfl rfl rfl rfl (vn 6 rfl Z0 rfl rfl) (paE rfl (vn 8 rfl Z0 rfl rfl) ah)))
    (ae (bD rfl (bmE (K:=K) rfl plainAttrs_list PySem.F.slot_list_append PySem.F.type_list_append aV rfl rfl rfl rfl (vn 7 rfl Z0 rfl rfl) (paE rfl (vn 8 rfl Z0 rfl rfl) ah)))
    (am (cA PassesOwn.never rfl rfl (cw (K:=K) rfl (bmE (K:=K) rfl plainAttrs_dict slot_dict_get type_dict_get wU rfl rfl rfl rfl (vn 3 rfl Z0 rfl rfl) (paE rfl (vn 8 rfl Z0 rfl rfl) (paE rfl (cz ah) ah)))) (au 9 aS.nd rfl Z0 Z1)
    (ae (iO hr rfl (opE pc (dk hr (fun _ _=>rfl) (vn 4 rfl (Or.inr Z0) rfl rfl) (cn (K:=K) rfl (fun _ _=>rfl) (vn 9 rfl Z0 rfl rfl) (gvE T.g_LATER rfl rfl))) ap) (vn 4 rfl (Or.inr Z0) rfl rfl) (cn (K:=K) rfl (fun _ _=>rfl) (vn 9 rfl Z0 rfl rfl) (gvE T.g_LATER rfl rfl)))
     (am (ifS (bu cL rfl (dk hr (fun _ _=>rfl) (vn 4 rfl (Or.inr Z0) rfl rfl) (cn (K:=K) rfl (fun _ _=>rfl) (vn 9 rfl Z0 rfl rfl) (gvE T.g_LATER rfl rfl))) ap)
     (am (bD rfl (bmE (K:=K) rfl plainAttrs_list PySem.F.slot_list_append PySem.F.type_list_append aV rfl rfl rfl rfl (vn 6 rfl Z0 rfl rfl) (paE rfl (cn (K:=K) rfl (fun _ _=>rfl) (vn 9 rfl Z0 rfl rfl) (gvE T.g_LATER rfl rfl)) ah))))
     aU)))))))))
   (am (aK (vn 7 rfl Z0 rfl rfl))))))))))),?_⟩
  show bg _ _ _ [some (.ref l),some (.ref m),none,none,none,none,none,none,none,none] H;refine aj fun D1 k1 _=>?_
  walk_at "rd";refine⟨m,ns,ss,rfl,hm,hss,hsl,fun b H1 s1 fb hb=>k1 _ _ (aj fun D2 k2 _=>?_)⟩;walk_at "rd";refine⟨m,ns,ss,rfl,s1 _ _ hm,hss.up s1,hsl,fun a H2 s2 fa ha=>k2 _ _ (aj fun D3 k3 _=>?_)⟩;have s12:=s1.trans s2;have hb:=hb.up s2;walk_at "rd";intro w fw;refine k3 _ _ (aj fun D4 k4 _=>av fun Kont hK=>?_);have s3:=ac.upd (o:= .dK []) fw;have gw:upd H2 w (.dK []) w=some (.dK (VD (ns.take 0) fun n=> .int (cnt ss [] n))):=aa
  generalize upd H2 w (.dK [])=H3 at s3 gw
  have s13:=s12.trans s3;walk_at "rd";refine .inl ⟨⟨_,SqL.of (s13 _ _ hl)⟩,hK _ _ ?_⟩;have nbw:b≠w:=fun c=>by
   obtain⟨kvs,h1,_⟩:=hb;rw[c,fw]at h1;cases h1
  have naw:a≠w:=fun c=>by
   obtain⟨kvs,h1,_⟩:=ha;rw[c,fw]at h1;cases h1
  have nlw:∀xs,H2 w≠some (.lst xs):=fun xs c=>by rw[fw]at c;cases c
  refine bd (xs:=ns.map V.str) (fun i σ H'=>(∃o5,σ=[some (.ref l),some (.ref m),some (.ref b),some (.ref a),some (.ref w),o5,none,none,none,none])/\ac H2 H'/\H' w=some (.dK (VD (ns.take i) fun n=> .int (cnt ss [] n))))
   ⟨⟨_,rfl⟩,s3,gw⟩ (fun i σ H' _ h=>SqL.of (h.2.1 _ _ (s12 _ _ hl))) ?_ ?_
  ·rintro i x σ H' hx ⟨⟨o5,rfl⟩,sm,hw⟩;rw[Zk]at hx;obtain⟨n,hn,rfl⟩:=map_eq_some_iff.mp hx;have i1:i<ns.length:=(X6 hn).1;show kL _ _ _ _ [some (.ref l),some (.ref m),some (.ref b),some (.ref a),some (.ref w),some (.str n),none,none,none,none] H';refine aB fun D5 k5 _=>?_
   walk_at "rd";refine⟨.inr (.inr (.inl (.inl ⟨_,sm _ _ hb.choose_spec.1⟩))),(show 0<=sizeLine by decide),fun p hp=>?_⟩;obtain⟨kvs,al,hkb,hka,hla,hao⟩:=hb.get (dD.of sm) nbw nlw hp n;have sp:=ac.upd (o:= .lst []) hp;refine⟨Sum.inr n,rfl,kvs,hkb,_,by rw[hka];exact .inl ⟨_,SqL.of hla,rfl⟩,_,jh.k (k:=Sum.inr n) (sp _ _ hw) (by unfold VD;rw[Z5,Yd];exact aH (by lia)),k5 _ _ ⟨⟨_,rfl⟩,ac.set (sm.trans sp) fw,?_⟩⟩;have zn:n∉ns.take i:=fun hm=>by
    have h:=nn;rw[<-Yy i ns,Yq]at h;exact h.2.2 n hm n (Z7 (i:=0) (by rw[getElem?_drop];exact hn)) rfl
   rw[aa,fQ _ (gQ zn),Z5,<-zv,Yx,hn];unfold VD;rw[Zc];rfl
  ·rintro σ H' ⟨⟨o5,rfl⟩,sm,hw⟩;rw[nm,Zm (Zh _)]at hw;refine k4 _ _ (aj fun D5 k5 _=>aP fun Kont hK=>?_);walk_at "rd";have hl':=sm _ _ (s12 _ _ hl);refine .inl ⟨⟨_,SqL.of hl'⟩,hK _ _ fun rd hrd=>?_⟩;refine bC (J:=Itl K l) (n:=ns.length) (D:=rd) (fun j vs σ H3=>(∃o1,σ=[o1,some (.ref w)])/\ac H' H3/\H3 rd=some (.lst vs)/\vs=((ns.take j).filter fun n=>decide (cnt ss [] n=0)).map V.str)
    ⟨⟨none,rfl⟩,ac.upd hrd,aa,rfl⟩ (fun j _ _ H3 hj ⟨_,sm,_⟩=>⟨_,V.str ns[j],SqL.of (sm _ _ hl'),by simp[hj]⟩) (fun _ _ H3 ⟨_,sm,_⟩=>⟨_,SqL.of (sm _ _ hl'),by simp⟩) ?_ ?_
   ·rintro j vs σ H3 hj ⟨⟨o1,rfl⟩,s3',hFv,hv⟩ x H4 ⟨e2,hx⟩;subst e2;have hxi:=hx _ (SqL.of (s3' _ _ hl'));rw[Zk,Z4 hj]at hxi;obtain rfl:x=V.str ns[j]:=(Z9 hxi).symm;have get:=cf.k (k:=Sum.inr ns[j]) (s3' _ _ hw);rw[gj (Y6 hj)]at get;walk_at "rd";refine⟨_,get,rfl,bw (fun h=>?_) fun h=>?_⟩
    ·have h:cnt ss [] ns[j]=0:=by simpa using h
     refine CK.mk hj hFv (by rw[hv,Z5];have:=Ya (fun n=>decide (cnt ss [] n=0)) (ns.take j);rw[Yd]at this;exact aH (by lia)) ⟨⟨_,rfl⟩,ac.set s3' hrd,aa,?_⟩;rw[hv,Yx,Z4 hj,Zz,Zc];show _=_++(List.filter _ [ns[j]]).map V.str;rw[Y1 (by simpa using h)];rfl
    ·have h:cnt ss [] ns[j]≠0:=by simpa using h
     refine CN.mk hj ⟨⟨_,rfl⟩,s3',hFv,?_⟩;rw[hv,Yx,Z4 hj,Zz,Zc];show _=_++(List.filter _ [ns[j]]).map V.str;rw[Y0 (by simpa using h)];simp
   rintro vs σ H3 ⟨_,s3',hr3,hv⟩;rw[Zm (Zh _)]at hv;rw[hv]at hr3;refine k5 _ _ (aj fun D6 k6 _=>?_);have hw3:=s3' _ _ hw;have s23:=sm.trans s3';have wrd:w≠rd:=fun c=>by rw[<-c,hw]at hrd;cases hrd
   have frd:=sm.free hrd;walk_at "rd";refine⟨(show 0<=sizeLine by decide),fun ld fld=>k6 _ _ (aj fun D7 k7 _=>?_)⟩;have s4:=ac.upd (o:= .lst []) fld;have gld:upd H3 ld (.lst []) ld=some (.lst (([]:List Str).map V.str)):=aa;have wld:w≠ld:=fun c=>by rw[<-c,hw3]at fld;cases fld
   have rld:rd≠ld:=fun c=>by rw[<-c,hr3]at fld;cases fld
   have hw4:=s4 _ _ hw3;have hr4:=s4 _ _ hr3;have s24:=s23.trans s4;have fld:=s23.free fld
   generalize upd H3 ld (.lst [])=H4 at s4 gld hw4 hr4 s24
   refine⟨Ch H2 l m b a w rd ld ns ss,⟨_,o5,none,none,[],_,rfl,s24,hw4,hr4,gld,⟨nn.filter _,fun x=>by simp,fun i x e=>by simp at e⟩,rfl⟩,?_⟩;clear s24 hw4 hr4 gld hr3 hw3 hw hv s3' s23 sm;rintro k σ H5 ⟨o5,o8,o9,L,R,rfl,sm,hw,hR,hL,lay,rfl⟩;have Rm:(R.map V.str).length=R.length:=Z5 _;have LRl:L.length+R.length<=ns.length:=by
    rw[<-Z8];exact STab.nodup_sub lay.nd fun x hx=>((lay.mem x).mp hx).1
   walk_at "rd";refine⟨R.length,.inl ⟨_,SqL.of hR,Rm.symm⟩,bw (fun h=>?_) fun h=>?_⟩
   ·have h:0<R.length:=by have:=Zn h;lia
    refine⟨fun σ' H'=>∃m',m'<ns.length-L.length/\Ch H2 l m b a w rd ld ns ss m' σ' H',fun _ _ h=>h,R,SqL.of hR,h,fun x hx _=>⟨.inl ⟨_,SqL.of hR⟩,R,hR,hx,fun R1 pm=>?_⟩⟩;have u1:=ac.set (o:= .lst (R1.map V.str)) sm frd;have hR1:upd H5 rd (.lst (R1.map V.str)) rd=_:=aa;have hw1:upd H5 rd (.lst (R1.map V.str)) w=_:=(ai wrd).trans hw;have hL1:upd H5 rd (.lst (R1.map V.str)) ld=_:=(ai rld.symm).trans hL
    generalize upd H5 rd (.lst (R1.map V.str))=H6 at u1 hR1 hw1 hL1 ⊢
    refine⟨.inl ⟨_,SqL.of hL1⟩,_,hL1,by rw[Z5];exact aH (by lia),aB fun D11 k11 _=>av fun Kont hK=>?_⟩;have u2:=ac.set (o:= .lst (L.map V.str++[.str x])) u1 fld;have hL2:upd H6 ld (.lst (L.map V.str++[.str x])) ld=some (.lst ((L++[x]).map V.str)):=by rw[aa,Zc];rfl
    have hw2:upd H6 ld (.lst (L.map V.str++[.str x])) w=_:=(ai wld).trans hw1;have hR2:upd H6 ld (.lst (L.map V.str++[.str x])) rd=_:=(ai rld).trans hR1
    generalize upd H6 ld (.lst (L.map V.str++[.str x]))=H7 at u2 hL2 hw2 hR2 ⊢
    walk_at "rd";refine⟨.inr (.inr (.inl (.inl ⟨_,u2 _ _ ha.choose_spec.1⟩))),(show 0<=sizeLine by decide),fun p hp=>?_⟩;obtain⟨kvs,al,hka,hkg,hla,hao⟩:=ha.get (dD.of u2) naw nlw hp x;have aln:∀{c:Addr} {o:HO},H7 c=some o->H2 c=none->al≠c:=fun{c o} h1 h2=>by
     rcases hao with rfl|⟨o',ho⟩
     ·exact fun z=>by rw[z,h1]at hp;cases hp
     ·exact fun z=>by rw[z,h2]at ho;cases ho
    have alw:=aln hw2 fw;have alr:=aln hR2 frd;have all:=aln hL2 fld;have sp:=ac.upd (o:= .lst []) hp;have hw3:=sp _ _ hw2;have hR3:=sp _ _ hR2;have hL3:=sp _ _ hL2;have u3:=u2.trans sp
    generalize upd H7 p (.lst [])=H8 at hka hla hw3 hR3 hL3 u3 ⊢
    clear u1 u2 hw2 hR2 hL2 hw1 hR1 hL1 hp sp
    generalize ets:(ss.filter fun t=>decide (t.2[1]? =some x))=ts at hla
    have tm:(ts.map fun t=>V.ref t.1).length=ts.length:=Z5 _;have xL:x∉L:=fun c=>(nodup_append.mp lay.nd).2.2 x c x hx rfl
    have pr:(L++[x] ++R1).Perm (L++R):=by
     rw[Zd];exact pm.append_left L
    have f0:∀n,cnt ss L n=cnt ss (L++[x]) n+(ts.drop 0).countP fun t=>decide (t.2[0]? =some n):=fun n=>by rw[List.drop_zero,<-ets];exact qj xL ss
    have tss:∀t∈ts,∃n z,t.2=[n,x,z]/\n∈ns/\H t.1=some (.tup ([n,x,z].map V.str)):=fun t ht=>by
     rw[<-ets]at ht;obtain⟨h1,h2⟩:=List.mem_filter.mp ht;obtain⟨h3,n,y,z,e,hn,_⟩:=hss t h1;have h2:=Zn h2;rw[e]at h2 h3;obtain rfl:y=x:=Z9 h2;exact⟨n,z,e,hn,h3⟩
    refine⟨Sum.inr x,rfl,kvs,hka,.inl ⟨al,hkg,⟨_,SqL.of hla⟩,hK _ _ ?_⟩⟩;refine bd (xs:=ts.map fun t=>V.ref t.1) (fun j σ H'=>(∃o9,σ=[some (.ref l),some (.ref m),some (.ref b),some (.ref a),some (.ref w),o5,some (.ref rd),some (.ref ld),some (.str x),o9])/\ac H2 H'/\H' al=some (.lst (ts.map fun t=>V.ref t.1))/\H' w=some (.dK (VD ns fun n=> .int ((cnt ss (L++[x]) n+(ts.drop j).countP fun t=>decide (t.2[0]? =some n):Nat):Int)))/\H' ld=some (.lst ((L++[x]).map V.str))/\∃Rj:List Str,H' rd=some (.lst (Rj.map V.str))/\(L++[x] ++Rj).Nodup/\∀y,y∈L++[x] ++Rj↔y∈ns/\cnt ss (L++[x]) y+((ts.drop j).countP fun t=>decide (t.2[0]? =some y))=0)
     ⟨⟨_,rfl⟩,u3,hla,by rw[hw3];exact congrArg (fun g=>some (HO.dK (VD ns g))) (funext fun n=>by rw[f0 n]),hL3,R1,hR3,pr.nodup_iff.mpr lay.nd,fun y=>by rw[<-f0,pr.mem_iff];exact lay.mem y⟩ (fun j σ H' _ h=>SqL.of h.2.2.1) ?_ ?_
    ·rintro j v σ H' hv ⟨⟨o9,rfl⟩,sm',hla',hw',hL',Rj,hR',rn,rz⟩;rw[Zk]at hv;obtain⟨t,ht,rfl⟩:=map_eq_some_iff.mp hv;have jl:=(X6 ht).1;obtain⟨n,z,et,hn,htu⟩:=tss t (Z7 ht);have htu:=sm' _ _ (s12 _ _ htu);have dr:ts.drop j=t::ts.drop (j+1):=by rw[List.drop_eq_getElem_cons jl,(X6 ht).2]
     rw[dr]at hw' rz;have get:=cf.k (k:=Sum.inr n) hw';rw[gj hn]at get;have tw:t.1≠w:=fun c=>by rw[c,hw']at htu;cases htu
     have ndL:=(nodup_append.mp rn)
     have rl:Rj.length<=ns.length:=by
      have:=STab.nodup_sub rn fun y hy=>((rz y).mp hy).1
      rw[Z8]at this
      lia
     show bg _ _ _ [some (.ref l),some (.ref m),some (.ref b),some (.ref a),some (.ref w),o5,some (.ref rd),some (.ref ld),some (.str x),some (.ref t.1)] H';refine aj fun D12 k12 _=>?_
     walk_at "rd";have one:∀y,(t::ts.drop (j+1)).countP (fun t=>decide (t.2[0]? =some y))=((ts.drop (j+1)).countP fun t=>decide (t.2[0]? =some y)) +if y=n then 1 else 0:=fun y=>by
      rw[countP_cons,et];by_cases c:y=n
      ·rw[if_pos c,if_pos (by rw[c];simp)]
      ·rw[if_neg c,if_neg (by simpa using fun q=>c q.symm)]
     refine⟨_,SqT.of htu,_,rfl,_,get,_,rfl,_,SqT.of htu,_,rfl,_,jh.k (k:=Sum.inr n) hw' (by unfold VD;rw[Z5];exact aH (by lia)),k12 _ _ (aB fun D13 k13 _=>?_)⟩;rw[By hn];have e1:(fun y=>if y=n then V.int (((cnt ss (L++[x]) n+(t::ts.drop (j+1)).countP fun t=>decide (t.2[0]? =some n):Nat):Int) -1)else V.int ((cnt ss (L++[x]) y+(t::ts.drop (j+1)).countP fun t=>decide (t.2[0]? =some y):Nat):Int))=fun y=>V.int ((cnt ss (L++[x]) y+(ts.drop (j+1)).countP fun t=>decide (t.2[0]? =some y):Nat):Int):=funext fun y=>by
      rw[one,one];by_cases c:y=n
      ·rw[if_pos c,c,if_pos rfl]
       congr 1
       lia
      ·rw[if_neg c,if_neg c];rfl
     rw[e1];have v1:=ac.set (o:= .dK (VD ns fun y=>V.int ((cnt ss (L++[x]) y+(ts.drop (j+1)).countP fun t=>decide (t.2[0]? =some y):Nat):Int))) sm' fw;have gw':upd H' w (.dK (VD ns fun y=>V.int ((cnt ss (L++[x]) y+(ts.drop (j+1)).countP fun t=>decide (t.2[0]? =some y):Nat):Int))) w=_:=aa;have oth:∀c o,c≠w->H' c=some o->upd H' w (.dK (VD ns fun y=>V.int ((cnt ss (L++[x]) y+(ts.drop (j+1)).countP fun t=>decide (t.2[0]? =some y):Nat):Int))) c=some o:=fun c o h e=>by rw[ai h];exact e
     generalize upd H' w (.dK (VD ns fun y=>V.int ((cnt ss (L++[x]) y+(ts.drop (j+1)).countP fun t=>decide (t.2[0]? =some y):Nat):Int)))=H9 at v1 gw' oth
     have htu:=oth _ _ tw htu;have hla':=oth _ _ alw hla';have hL':=oth _ _ wld.symm hL';have hR':=oth _ _ wrd.symm hR';have get:=cf.k (k:=Sum.inr n) gw';rw[gj hn]at get;have nin:n∉L++[x] ++Rj:=fun c=>by
      have:=((rz n).mp c).2;rw[one,if_pos rfl]at this
      lia
     have oth2:∀y,y≠n->(y∈L++[x] ++Rj↔y∈ns/\cnt ss (L++[x]) y+((ts.drop (j+1)).countP fun t=>decide (t.2[0]? =some y))=0):=fun y c=>by
      rw[rz y,one,if_neg c];rfl
     walk_at "rd";refine⟨_,SqT.of htu,_,rfl,_,get,rfl,bw (fun h=>?_) fun h=>?_⟩
     ·have h:cnt ss (L++[x]) n+((ts.drop (j+1)).countP fun t=>decide (t.2[0]? =some n))=0:=by
       have:=V.int.inj (Zn h)
       lia
      have tr:t.1≠rd:=fun c=>by rw[c,hR']at htu;cases htu
      refine⟨.inl ⟨_,SqL.of hR'⟩,_,SqT.of htu,_,rfl,_,hR',by rw[Z5];exact aH (by lia),k13 _ _ ⟨⟨_,rfl⟩,ac.set v1 frd,(ai alr).trans hla',(ai wrd).trans gw',(ai rld.symm).trans hL',Rj++[n],by rw[aa,Zc];rfl,?_,fun y=>?_⟩⟩
      ·rw[<-Zd,Yq];exact⟨rn,by simp,fun a ha b hb c=>nin (by rw[<-X8 hb,<-c];exact ha)⟩
      ·rw[<-Zd,Yk,mem_singleton];by_cases c:y=n
       ·rw[c];exact⟨fun _=>⟨hn,h⟩,fun _=> .inr rfl⟩
       ·rw[<-oth2 y c];exact⟨fun q=>q.resolve_right c,.inl⟩
     ·refine k13 _ _ ⟨⟨_,rfl⟩,v1,hla',gw',hL',Rj,hR',rn,fun y=>?_⟩;by_cases c:y=n
      ·rw[c];exact⟨fun q=>absurd q nin,fun q=>absurd (Ze (congrArg (fun i:Nat=>V.int i) q.2)) h⟩
      ·exact oth2 y c
    ·rintro σ H' ⟨⟨o9,rfl⟩,sm',hla',hw',hL',Rj,hR',rn,rz⟩;rw[tm,List.drop_length]at hw' rz;refine k11 _ _ ⟨_,?_,o5,_,o9,L++[x],Rj,rfl,sm',hw',hR',hL',⟨rn,rz,fun i y hi y' e=>?_⟩,rfl⟩
     ·rw[Z8,Yc]
      lia
     ·by_cases il:i<L.length
      ·rw[Y3 il]at hi;rw[List.take_append_of_le_length (le_of_lt il)];exact lay.ord i y hi y' e
      ·have ie:i=L.length:=by
        have:=(X6 hi).1;rw[Z8,Yc]at this
        lia
       subst ie;rw[Y4 (Zh _),sub_self,List.getElem?_cons_zero]at hi;obtain rfl:=Z9 hi;rw[List.take_append_of_le_length (Zh _),List.take_length];exact xC ((lay.mem x).mp (Ym _ hx)).2 e
   ·refine k7 _ _ ?_;walk_at "rd";have R0:R=[]:=by
     cases R with
     | nil=>rfl
     | cons x R=>exact absurd (Ze (by rw[Zq];lia)) h
    subst R0;have mem:=lay.mem;have nd:=lay.nd;rw[Zw]at mem nd;refine kk ld H5 L (s12.trans sm) (s12.free fld) hL nd (fun x hx=>((mem x).mp hx).1) lay.ord fun x hx nx=>?_
    have:cnt ss L x≠0:=fun c=>nx ((mem x).mpr ⟨hx,c⟩)
    obtain⟨t,ht,q⟩:=List.countP_pos_iff.mp (Nat.pos_of_ne_zero this);obtain⟨a,b,z,e,_,hb⟩:=(hss t ht).2;rw[e]at q;simp only[Zu]at q;have q1:a=x:=Z9 (Zn q.1);exact⟨b,⟨z,by rw[<-q1,<-e];exact Xa ⟨t,ht,rfl⟩⟩,hb,Zn q.2⟩
def xD:Sp:=fun vs H Q _=>∃(l m:Addr) (ns:List Str) (ss:List (Addr×List Str)),vs=[.ref l,.ref m]/\H l=some (.lst (ns.map V.str))/\ns.Nodup/\ns.length<=60/\H m=some (.lst (ss.map fun t=>V.ref t.1))/\cJ H ns ss/\ss.length<=62/\
 ∀r H' (us:List Str),ac H H'->H' r=some (.lst (us.map V.str))->(∀x∈ns,Rch (ss.map (·.2)) x x->x∈us)->Q (.ref r) H'
def xE:Sp:=fun vs H Q _=>∃(l m:Addr) (ns:List Str) (ss:List (Addr×List Str)),vs=[.ref l,.ref m]/\H l=some (.lst (ns.map V.str))/\ns.Nodup/\ns.length<=60/\H m=some (.lst (ss.map fun t=>V.ref t.1))/\cJ H ns ss/\ss.length<=62/\
 (∀H',ac H H'->(∀x,¬ Rch (ss.map (·.2)) x x)->Q .non H')/\∀r H' x,ac H H'->Rch (ss.map (·.2)) x x->Q (.ref r) H'
theorem oG(T:Txt K mg):Cal P w K mg base 4 "never_laid" ["names","found"] xD:=by
 refine T.d_never_laid.cal mf (fun vs H Q E h=>?_) (fun f cdv A outer s H vs Q E hr h=>?_)
 ·obtain⟨l,m,ns,ss,rfl,_⟩:=h;rfl
 ·obtain⟨l,m,ns,ss,rfl,hl,nn,nl,hm,hss,hsl,kk⟩:=h;refine⟨_,(QSs.h (am (aK (cbE (mW (w:=w) rfl rfl) rfl T.b_sorted boot_sorted rfl rfl rfl (paE rfl (opE (Bf (w:=w) rfl) (ctE (wv (K:=K) (w:=w) rfl rfl rfl) rfl T.b_set boot_set rfl rfl rfl (paE rfl (vn 0 rfl Z0 rfl rfl) ah)) (ctE (wv (K:=K) (w:=w) rfl rfl rfl) rfl T.b_set boot_set rfl rfl rfl (paE rfl (aD (gu T) hr rfl rfl rfl rfl (paE rfl (vn 0 rfl Z0 rfl rfl) (paE rfl (vn 1 rfl Z0 rfl rfl) ah))) ah))) ah))))),?_⟩;show eM _ _ [some (.ref l),some (.ref m)] H;walk_at "rd";refine⟨ns,SqL.of hl,by lia,fun p fp=>?_⟩;have s1:=ac.upd (o:=eZ w p (az ns)) fp;have gp:upd H p (eZ w p (az ns)) p=_:=aa
  generalize upd H p (eZ w p (az ns))=H1 at s1 gp ⊢
  refine⟨l,m,ns,ss,rfl,s1 _ _ hl,nn,nl,s1 _ _ hm,hss.up s1,by lia,fun r H2 L s2 _ hL Ln Ls ord _=>?_⟩;have Ll:=STab.nodup_sub Ln Ls;refine⟨r,rfl,L,SqL.of hL,by lia,fun q fq=>?_⟩;have s3:=ac.upd (o:=eZ w q (az L)) fq;have gq:upd H2 q (eZ w q (az L)) q=_:=aa;have gp:=s3 _ _ (s2 _ _ gp)
  generalize upd H2 q (eZ w q (az L))=H3 at s3 gp gq ⊢
  have fl:(az ns).length<=ns.length:=STab.nodup_sub (dQ ns) fun x hx=>bn.mp hx
  refine⟨_,gp,_,gq,by lia,fun u ms fu hms mn=>⟨ms,aa,?_,fun v us fv pu _=>?_⟩⟩
  ·have:=STab.nodup_sub mn (m:=ns) fun x hx=>bn.mp ((hms x).mp hx).1
   lia
  ·refine kk v _ us (s1.trans (s2.trans (s3.trans ((ac.upd fu).trans (ac.upd fv))))) aa fun x hx rx=>?_
   rw[pu.mem_iff,hms];exact⟨bn.mpr hx,fun c=>zb ord (bn.mp c) rx⟩
theorem xF{ns:List Str}{ss:List (Addr×List Str)}(h:∀t∈ss,cv ns t.2){x y:Str}(r:Rch (ss.map (·.2)) x y):x∈ns:=by
 induction r with
 | one e=>
   obtain⟨z,hz⟩:=e;obtain⟨t,ht,et⟩:=X9 hz;obtain⟨a,b,c,e,ha,_⟩:=h t ht;rw[e]at et;rw[<-(List.cons.inj et).1];exact ha
 | more _ _ ih=>exact ih
theorem fK(T:Txt K mg):Cal P w K mg base 5 "shortest_ring" ["names","found"] xE:=by
 refine T.d_shortest_ring.cal bv (fun vs H Q E h=>?_) (fun f cdv A outer s H vs Q E hr h=>?_)
 ·obtain⟨l,m,ns,ss,rfl,_⟩:=h;rfl
 ·obtain⟨l,m,ns,ss,rfl,hl,nn,nl,hm,hss,hsl,kn,ky⟩:=h;refine⟨_,(QSs.h (ae (aI 2 bv.nd rfl Z0 Z1 rfl (aD (cZ T) hr rfl rfl rfl rfl (paE rfl (vn 1 rfl Z0 rfl rfl) ah)))
   (ae (aI 3 bv.nd rfl Z0 Z1 rfl lU)
   (ae (cA PassesOwn.never rfl rfl (cw (K:=K) rfl (aD (oG T) hr rfl rfl rfl rfl (paE rfl (vn 0 rfl Z0 rfl rfl) (paE rfl (vn 1 rfl Z0 rfl rfl) ah)))) (au 4 bv.nd rfl Z0 Z1)
   (ae (aI 5 bv.nd rfl Z0 Z1 rfl (aD (d9 T) hr rfl rfl rfl rfl (paE rfl (vn 2 rfl Z0 rfl rfl) (paE rfl (vn 4 rfl Z0 rfl rfl) (paE rfl (vn 4 rfl Z0 rfl rfl) ah)))))
    (am (ifS (wT (kR (bu jp rfl (vn 5 rfl Z0 rfl rfl) lU) (iF (wT (orW (bu B3 rfl (vn 3 rfl Z0 rfl rfl) lU) (j7 (bu qN rfl (cbE (bV (K:=K) rfl) rfl T.b_len PySem.boot_len rfl rfl rfl (paE rfl (vn 5 rfl Z0 rfl rfl) ah)) (cbE (bV (K:=K) rfl) rfl T.b_len PySem.boot_len rfl rfl rfl (paE rfl (vn 3 rfl Z0 rfl rfl) ah)))))))))
    (am (aI 3 bv.nd rfl Z0 Z1 rfl (vn 5 rfl Z0 rfl rfl)))
    aU))))
   (am (aK (vn 3 rfl Z0 rfl rfl))))))),?_⟩
  show bg _ _ _ [some (.ref l),some (.ref m),none,none,none,none] H;refine aj fun D1 k1 _=>?_
  walk_at "rd";refine⟨m,ns,ss,rfl,hm,hss,by lia,fun b H1 s1 fb hb=>k1 _ _ (aj fun D2 k2 _=>?_)⟩;walk_at "rd";refine k2 _ _ (aj fun D3 k3 _=>av fun Kont hK=>?_);walk_at "rd";refine⟨l,m,ns,ss,rfl,s1 _ _ hl,nn,nl,s1 _ _ hm,hss.up s1,hsl,fun r H2 us s2 hr2 hus=> .inl ⟨r,rfl,⟨_,SqL.of hr2⟩,hK _ _ ?_⟩⟩;have um:(us.map V.str).length=us.length:=Z5 _;have s12:=s1.trans s2;refine bd (xs:=us.map V.str) (fun i σ H'=>(∃v o4 o5,σ=[some (.ref l),some (.ref m),some (.ref b),some v,o4,o5]/\((v= .non/\∀x∈us.take i,¬ Rch (ss.map (·.2)) x x)\/∃q xs x,v= .ref q/\H' q=some (.lst xs)/\Rch (ss.map (·.2)) x x))/\ac H2 H')
   ⟨⟨_,_,_,rfl,.inl ⟨rfl,fun x hx=>(nomatch hx)⟩⟩,fun _ _ e=>e⟩ (fun i σ H' _ h=>SqL.of (h.2 _ _ hr2)) ?_ ?_
  ·rintro i x σ H' hx ⟨⟨v,o4,o5,rfl,hv⟩,sm⟩;rw[Zk]at hx;obtain⟨n,hn,rfl⟩:=map_eq_some_iff.mp hx;have tk:us.take (i+1)=us.take i++[n]:=by rw[Yx,hn];rfl
   show bg _ _ _ [some (.ref l),some (.ref m),some (.ref b),some v,some (.str n),o5] H';refine aj fun D4 k4 _=>?_
   walk_at "rd";have s2m:=s2.trans sm;refine⟨b,n,n,ns,ss,rfl,hb.up s2m,hss.up (s12.trans sm),hsl,fun H3 s3 nr=>k4 _ _ (aB fun D5 k5 _=>?_),fun q H3 xs s3 rr hq=>k4 _ _ (aB fun D5 k5 _=>?_)⟩
   ·walk_at "rd";rw[if_neg (by simp)];refine k5 _ _ ⟨⟨v,_,_,rfl,hv.imp (fun h=>⟨h.1,fun x hx=>?_⟩) fun⟨q,xs,x,e,hq,r⟩=>⟨q,xs,x,e,s3 _ _ hq,r⟩⟩,sm.trans s3⟩;rw[tk]at hx;rcases X7 hx with h'|h'
    ·exact h.2 x h'
    ·rw[X8 h'];exact nr
   ·walk_at "rd";rw[if_pos (by simp)];have put:D5.nx [some (.ref l),some (.ref m),some (.ref b),some (.ref q),some (.str n),some (.ref q)] H3:=k5 _ _ ⟨⟨_,_,_,rfl,.inr ⟨q,xs,n,rfl,hq,rr⟩⟩,sm.trans s3⟩;rcases hv with⟨rfl,_⟩|⟨q',xs',x',rfl,hq',r'⟩
    ·rw[if_pos (by simp)];exact put
    ·rw[if_neg (by simp)];exact⟨_,.inl ⟨_,SqL.of hq,rfl⟩,_,.inl ⟨_,SqL.of (s3 _ _ hq'),rfl⟩,bw (fun _=>put) fun _=>k5 _ _ ⟨⟨_,_,_,rfl,.inr ⟨q',xs',x',rfl,s3 _ _ hq',r'⟩⟩,sm.trans s3⟩⟩
  ·rintro σ H' ⟨⟨v,o4,o5,rfl,hv⟩,sm⟩;rw[um,Zm (Zh _)]at hv;refine k3 _ _ ?_;walk_at "rd";rcases hv with⟨rfl,h⟩|⟨q,xs,x,rfl,_,h⟩
   ·exact kn H' (s12.trans sm) fun x rx=>h x (hus x (xF (fun t ht=>(hss t ht).2) rx) rx) rx
   ·exact ky q H' x (s12.trans sm) h
theorem c6{S:Str->Str->Prop}(h:bE S z m)(c:dm S z x):bE S x m:=⟨c.symm.trans h.1,fun y d=>h.2 y (c.trans d)⟩
theorem dq(h:cr H ls qs)(a b:Str)(s:be qs a b):a∈ls/\b∈ls:=by
 obtain⟨q,hq,e⟩:=s;rcases(h q hq).2 with⟨wd,x,y,e2,_,hx,hy,_⟩|⟨wd,x,y,e2,_⟩
 ·rw[e2]at e;simp only[List.cons.injEq,V.str.injEq,and_true]at e;rw[<-e.2.1,<-e.2.2];exact⟨hx,hy⟩
 ·rw[e2]at e;simp at e
structure jK (mg:Str->Option Value) (H:Hp) (g:Addr) (qs:List (Addr×List V)) (ls:List Str) (ts:List (Addr×List Str)):Prop where
 gr:∃c2 c3 c4,GrF mg H g c2 c3 c4 qs ls ts
 nd:ls.Nodup
 so:ls.Pairwise (fun a b=>aR b a=false)
 ll:ls.length<=60
 tl:ts.length<=62
 t3:∀k∈ts.map (·.2),cv ls k
theorem jK.up(h:jK mg H g qs ls ts)(s:ac H H'):jK mg H' g qs ls ts:=by
 obtain⟨c2,c3,c4,gr⟩:=h.gr;exact⟨⟨c2,c3,c4,gr.up s⟩,h.nd,h.so,h.ll,h.tl,h.t3⟩
theorem jK.ends(h:jK mg H g qs ls ts)(hl:cI (be qs) (ts.map (·.2)) lk)(hk:k∈lk):∃a b z,k=[a,b,z]/\(a∈ls/\bE (be qs) a a)/\b∈ls/\bE (be qs) b b:=by
 obtain⟨c2,c3,c4,gr⟩:=h.gr;obtain⟨a,b,z,a',b',hm,ha,hb,rfl⟩:=(hl.mem k).mp hk;obtain⟨x,y,u,e,hx,hy⟩:=h.t3 _ hm;simp only[List.cons.injEq,and_true]at e;obtain⟨rfl,rfl,rfl⟩:=e;have ws:=dq gr.sa;exact⟨a',b',z,rfl,⟨ha.1.within ws hx,c6 ha ha.1⟩,hb.1.within ws hy,c6 hb hb.1⟩
theorem jK.names(h:jK mg H g qs ls ts)(hl:cI (be qs) (ts.map (·.2)) lk)(hn:xy (be qs) ls ns):∀k∈lk,cv ns k:=fun k hk=>by
 obtain⟨a,b,z,e,ha,hb⟩:=h.ends hl hk;exact⟨a,b,z,e,(hn.mem a).mpr ha,(hn.mem b).mpr hb⟩
theorem jK.ties(h:jK mg H g qs ls ts)(hl:cI (be qs) (ts.map (·.2)) lk):∀k∈lk,cv ls k:=fun k hk=>by
 obtain⟨a,b,z,e,ha,hb⟩:=h.ends hl hk;exact⟨a,b,z,e,ha.1,hb.1⟩
theorem i7(ht:aT H ss)(h:∀k∈ss.map (·.2),cv ns k):cJ H ns ss:=fun t q=>⟨(ht t q).2,h _ (Xa ⟨t,q,rfl⟩)⟩
def zx(mg:Str->Option Value):Sp:=fun vs H Q _=>∃(g:Addr) (qs:List (Addr×List V)) (ls:List Str) (ts:List (Addr×List Str)),vs=[.ref g]/\jK mg H g qs ls ts/\∀H' lk v,ac H H'->cI (be qs) (ts.map (·.2)) lk->((∀x,¬ Rch lk x x)/\v= .non)\/((∃r,v= .ref r)/\∃x,Rch lk x x)->Q v H'
def uY(mg:Str->Option Value):Sp:=fun vs H Q _=>∃(g:Addr) (qs:List (Addr×List V)) (ls:List Str) (ts:List (Addr×List Str)),vs=[.ref g]/\jK mg H g qs ls ts/\(∀lk,cI (be qs) (ts.map (·.2)) lk->∀x,¬ Rch lk x x)/\∀l H' ns (ss:List (Addr×List Str)),ac H H'->H' l=some (.lst (ss.map fun t=>V.ref t.1))->cJ H' ns ss->ss.length<=62->cI (be qs) (ts.map (·.2)) (ss.map (·.2))->Q (.ref l) H'
structure lM (mg:Str->Option Value) (H:Hp) (g:Addr) (qs:List (Addr×List V)) (ls:List Str) (ts:List (Addr×List Str)) (lk:List (List Str)):Prop where
 gr:jK mg H g qs ls ts
 li:cI (be qs) (ts.map (·.2)) lk
 nr:∀x,¬ Rch lk x x
theorem lM.up(h:lM mg H g qs ls ts lk)(s:ac H H'):lM mg H' g qs ls ts lk:=⟨h.gr.up s,h.li,h.nr⟩
def Stn(lk:List (List Str))(a b s:Str):Prop:=(a=b/\s="one")\/(a≠b/\Rch lk a b/\s="later")\/(a≠b/\ ¬ Rch lk a b/\Rch lk b a/\s="earlier")\/(a≠b/\ ¬ Rch lk a b/\ ¬ Rch lk b a/\s="open")
def xG(mg:Str->Option Value):Sp:=fun vs H Q _=>∃(g:Addr) (qs:List (Addr×List V)) (ls:List Str) (ts:List (Addr×List Str)) (lk:List (List Str)) (z u:Str),vs=[.ref g,.str z,.str u]/\lM mg H g qs ls ts lk/\z∈ls/\u∈ls/\∀H' s a b,ac H H'->bE (be qs) z a->bE (be qs) u b->Stn lk a b s->Q (.str s) H'
theorem Bz(T:Txt K mg):Cal P w K mg base 6 "ring" ["ground"] (zx mg):=by
 refine T.d_ring.cal zd (fun vs H Q E h=>?_) (fun f cdv A outer s H vs Q E hr h=>?_)
 ·obtain⟨g,qs,ls,ts,rfl,_⟩:=h;rfl
 ·obtain⟨g,qs,ls,ts,rfl,hg,kk⟩:=h;obtain⟨c2,c3,c4,gr⟩:=hg.gr;have ll:=hg.ll;refine⟨_,(QSs.h (am (aK (aD (fK T) hr rfl rfl rfl rfl (paE rfl (aD (dB T) hr rfl rfl rfl rfl (paE rfl (vn 0 rfl Z0 rfl rfl) ah)) (paE rfl (aD (kA T) hr rfl rfl rfl rfl (paE rfl (vn 0 rfl Z0 rfl rfl) ah)) ah)))))),?_⟩;show eM _ _ [some (.ref g)] H;walk_at "rd";refine⟨g,c2,c3,c4,qs,ls,ts,rfl,gr,hg.nd,hg.so,by lia,fun l H1 ns s1 fl hl hn=>?_⟩;refine⟨g,c2,c3,c4,qs,ls,ts,rfl,gr.up s1,hg.nd,hg.so,by lia,hg.tl,hg.t3,fun m H2 ss s2 fm hm tu lk sl=>?_⟩;have s12:=s1.trans s2;refine⟨l,m,ns,ss,rfl,s2 _ _ hl,hn.nd,?_,hm,i7 tu (hg.names lk hn),sl,fun H' s3 nr=>kk H' _ _ (s12.trans s3) lk (.inl ⟨nr,rfl⟩),fun r H' x s3 rx=>kk H' _ _ (s12.trans s3) lk (.inr ⟨⟨r,rfl⟩,x,rx⟩)⟩;have:=STab.nodup_sub hn.nd fun x hx=>((hn.mem x).mp hx).1
  lia
theorem lN(T:Txt K mg):Cal P w K mg base 6 "untorn_links" ["ground"] (uY mg):=by
 refine T.d_untorn_links.cal dv (fun vs H Q E h=>?_) (fun f cdv A outer s H vs Q E hr h=>?_)
 ·obtain⟨g,qs,ls,ts,rfl,_⟩:=h;rfl
 ·obtain⟨g,qs,ls,ts,rfl,hg,nr,kk⟩:=h;obtain⟨c2,c3,c4,gr⟩:=hg.gr;have ll:=hg.ll;refine⟨_,(QSs.h (ae (aI 1 dv.nd rfl Z0 Z1 rfl (aD (kA T) hr rfl rfl rfl rfl (paE rfl (vn 0 rfl Z0 rfl rfl) ah)))
   (ae (aI 2 dv.nd rfl Z0 Z1 rfl (aD (fK T) hr rfl rfl rfl rfl (paE rfl (aD (dB T) hr rfl rfl rfl rfl (paE rfl (vn 0 rfl Z0 rfl rfl) ah)) (paE rfl (vn 1 rfl Z0 rfl rfl) ah))))
   (ae (ifS (bu jp rfl (vn 2 rfl Z0 rfl rfl) lU)
   (am eY)
   aU)
   (am (aK (vn 1 rfl Z0 rfl rfl))))))),?_⟩
  show bg _ _ _ [some (.ref g),none,none] H;refine aj fun D1 k1 _=>?_
  walk_at "rd";refine⟨g,c2,c3,c4,qs,ls,ts,rfl,gr,hg.nd,hg.so,by lia,hg.tl,hg.t3,fun m H1 ss s1 fm hm tu lk sl=>k1 _ _ (aj fun D2 k2 _=>?_)⟩;walk_at "rd";refine⟨g,c2,c3,c4,qs,ls,ts,rfl,gr.up s1,hg.nd,hg.so,by lia,fun l H2 ns s2 fl hl hn=>?_⟩;have la:=i7 tu (hg.names lk hn);refine⟨l,m,ns,ss,rfl,hl,hn.nd,?_,s2 _ _ hm,la.up s2,sl,fun H' s3 _=>k2 _ _ (aj fun D3 k3 _=>?_),fun r H' x s3 rx=>(nr _ lk x rx).elim⟩
  ·have:=STab.nodup_sub hn.nd fun x hx=>((hn.mem x).mp hx).1
   lia
  ·walk_at "rd";rw[if_neg (by simp)];refine k3 _ _ ?_;walk_at "rd";have s23:=s2.trans s3;exact kk m H' ns ss (s1.trans s23) (s23 _ _ hm) (la.up s23) sl lk
theorem rV(T:Txt K mg):Cal P w K mg base 7 "standing" ["ground","one","other"] (xG mg):=by
 refine T.d_standing.cal eD (fun vs H Q E h=>?_) (fun f cdv A outer s H vs Q E hr h=>?_)
 ·obtain⟨g,qs,ls,ts,lk,z,u,rfl,_⟩:=h;rfl
 ·obtain⟨g,qs,ls,ts,lk,z,u,rfl,⟨hg,hlk,nr⟩,hz,hu,kk⟩:=h;obtain⟨c2,c3,c4,gr⟩:=hg.gr;have ll:=hg.ll;refine⟨_,(QSs.h (ae (aI 3 eD.nd rfl Z0 Z1 rfl (aD (cZ T) hr rfl rfl rfl rfl (paE rfl (aD (lN T) hr rfl rfl rfl rfl (paE rfl (vn 0 rfl Z0 rfl rfl) ah)) ah)))
   (ae (aI 4 eD.nd rfl Z0 Z1 rfl (aD (cc T) hr rfl rfl rfl rfl (paE rfl (vn 0 rfl Z0 rfl rfl) (paE rfl (vn 1 rfl Z0 rfl rfl) ah))))
   (ae (aI 5 eD.nd rfl Z0 Z1 rfl (aD (cc T) hr rfl rfl rfl rfl (paE rfl (vn 0 rfl Z0 rfl rfl) (paE rfl (vn 2 rfl Z0 rfl rfl) ah))))
   (ae (ifS (bu cL rfl (vn 4 rfl Z0 rfl rfl) (vn 5 rfl Z0 rfl rfl))
   (am (aK dh))
   aU)
   (ae (ifS (bu jp rfl (aD (d9 T) hr rfl rfl rfl rfl (paE rfl (vn 3 rfl Z0 rfl rfl) (paE rfl (vn 4 rfl Z0 rfl rfl) (paE rfl (vn 5 rfl Z0 rfl rfl) ah)))) lU)
   (am (aK dh))
   aU)
   (ae (ifS (bu jp rfl (aD (d9 T) hr rfl rfl rfl rfl (paE rfl (vn 3 rfl Z0 rfl rfl) (paE rfl (vn 5 rfl Z0 rfl rfl) (paE rfl (vn 4 rfl Z0 rfl rfl) ah)))) lU)
   (am (aK dh))
   aU)
   (am (aK dh))))))))),?_⟩
  show bg _ _ _ [some (.ref g),some (.str z),some (.str u),none,none,none] H;refine aj fun D1 k1 _=>?_
  walk_at "rd";refine⟨g,qs,ls,ts,rfl,hg,fun lk' h'=>by rw[h'.one hlk];exact nr,fun l H1 ns ss s1 hl la sl lks=>?_⟩;refine⟨l,ns,ss,rfl,hl,la,by lia,fun d H2 s2 fd hd=>k1 _ _ (aj fun D2 k2 _=>?_)⟩;have s12:=s1.trans s2;rw[hlk.one lks]at kk;walk_at "rd";refine⟨g,c2,c3,c4,qs,ls,ts,z,rfl,gr.up s12,hg.nd,hg.so,by lia,hz,fun H3 a' s3 ha'=>k2 _ _ (aj fun D3 k3 _=>?_)⟩;have s13:=s12.trans s3;walk_at "rd";refine⟨g,c2,c3,c4,qs,ls,ts,u,rfl,gr.up s13,hg.nd,hg.so,by lia,hu,fun H4 b' s4 hb'=>k3 _ _ (aj fun D4 k4 r4=>?_)⟩;have s24:=s3.trans s4;have s14:=s12.trans s24;walk_at "rd";refine bw (fun h=>r4 _ _ (kk H4 _ a' b' s14 ha' hb' (.inl ⟨by simpa using h,rfl⟩))) fun h=>?_
  have h:a'≠b':=by simpa using h
  refine k4 _ _ (aj fun D5 k5 r5=>?_);walk_at "rd";refine⟨d,a',b',ns,ss,rfl,hd.up s24,la.up (s2.trans s24),sl,fun H5 s5 n1=>?_,fun q H5 xs s5 r1 _=>?_⟩
  ·dsimp only;rw[if_neg (by simp)];refine k5 _ _ (aj fun D6 k6 r6=>?_);walk_at "rd";refine⟨d,b',a',ns,ss,rfl,hd.up (s24.trans s5),la.up (s2.trans (s24.trans s5)),sl,fun H6 s6 n2=>?_,fun q H6 xs s6 r2 _=>?_⟩
   ·dsimp only;rw[if_neg (by simp)];refine k6 _ _ ?_;walk_at "rd";exact kk H6 _ a' b' (s14.trans (s5.trans s6)) ha' hb' (.inr (.inr (.inr ⟨h,n1,n2,rfl⟩)))
   ·dsimp only;rw[if_pos (by simp)];exact r6 _ _ (kk H6 _ a' b' (s14.trans (s5.trans s6)) ha' hb' (.inr (.inr (.inl ⟨h,n1,r2,rfl⟩))))
  ·dsimp only;rw[if_pos (by simp)];exact r5 _ _ (kk H5 _ a' b' (s14.trans s5) ha' hb' (.inr (.inl ⟨h,r1,rfl⟩)))
def Ci(H:Hp)(l d:Addr)(st:Str)(ss:List (Addr×List Str))(m:Nat)(σ:L2.St)(H':Hp):Prop:=∃(e:Addr) (n:Int) (o5 o6 o7 o8:Option V) (F R:List Str) (g:Str->V),σ=[some (.ref l),some (.str st),some (.ref d),some (.ref e),some (.int n),o5,o6,o7,o8]/\ac H H'/\H' e=some (.lst (F.map V.str))/\H' d=some (.dK (VD R g))/\R.Nodup/\(∀x∈R,Rch (ss.map (·.2)) st x)/\(∀x∈F,x=st\/x∈R)/\(∀x,x=st\/x∈R->x∈F\/∀y,Ed (ss.map (·.2)) x y->y∈R)/\m=2*(62-R.length) +F.length.min 1
def xH:Sp:=fun vs H Q _=>∃(l:Addr) (st:Str) (ns:List Str) (ss:List (Addr×List Str)),vs=[.ref l,.str st]/\H l=some (.lst (ss.map fun t=>V.ref t.1))/\cJ H ns ss/\ss.length<=62/\∀d H' R g,ac H H'->H' d=some (.dK (VD R g))->(∀x,x∈R↔Rch (ss.map (·.2)) st x)->Q (.ref d) H'
def xI(K:PySem.W.Frag):Sp:=fun vs H Q _=>∃(a l:Addr) (m:Nat) (is:List Int) (ns:List Str),vs=[.ref a,.ref l,.int m]/\SqL K H a (is.map V.int)/\H l=some (.lst (ns.map V.str))/\1<=ns.length/\ns.length<=24/\m<=100/\
 ∀r H' (ps:List (Addr×Str×Str)),ac H H'->ps.length=m->H' r=some (.lst (ps.map fun p=>V.ref p.1))->(∀p∈ps,H' p.1=some (.tup [.str p.2.1,.str p.2.2])/\p.2.1∈ns/\p.2.2∈ns)->Q (.ref r) H'
theorem xJ{K:PySem.W.Frag}(h:SqL K H a xs)(s:ac H H'):SqL K H' a xs:=h.imp_left fun r=>r.imp (s _ _) fun⟨o,e⟩=>⟨o,s _ _ e⟩
theorem xK{ns:List Str}(h:1<=ns.length)(c:Int):∃x∈ns,atI (ns.map V.str) (c%(ns.length:Int))=some (.str x):=by
 have q1:0<=c%(ns.length:Int):=Int.emod_nonneg _ (by lia);have q2:c%(ns.length:Int)<ns.length:=Int.emod_lt_of_pos _ (by lia)
 generalize c%(ns.length:Int)=i at q1 q2
 obtain⟨k,rfl⟩:=X3 q1;have hk:k<ns.length:=by lia
 exact⟨ns[k],Y6 hk,ci (by rw[Zk,Z4 hk];rfl)⟩
theorem rW{st:Str}{ss:List (Addr×List Str)}{R:List Str}(h:∀x∈R,Rch (ss.map (·.2)) st x)(nd:R.Nodup):R.length<=ss.length:=by
 have:=STab.nodup_sub nd (m:=ss.filterMap fun t=>t.2[1]?) fun x hx=>by
  have:∃a,Ed (ss.map (·.2)) a x:=by
   cases h x hx with
   | one e=>exact⟨_,e⟩
   | more _ e=>exact⟨_,e⟩
  obtain⟨a,z,hz⟩:=this;obtain⟨t,ht,et⟩:=X9 hz;exact mem_filterMap.mpr ⟨t,ht,by rw[et];rfl⟩
 exact Y8 this (List.length_filterMap_le _ _)
theorem jZ(T:Txt K mg):Cal P w K mg base 1 "_law_steps" ["_law_some","_law_begin"] xH:=by
 refine T.d_law_steps.cal bc (fun vs H Q E h=>?_) (fun f cdv A outer s H vs Q E hr h=>?_)
 ·obtain⟨l,st,ns,ss,rfl,_⟩:=h;rfl
 ·obtain⟨l,st,ns,ss,rfl,hl,hss,hsl,kk⟩:=h;have sm':(ss.map fun t=>V.ref t.1).length=ss.length:=Z5 _;refine⟨_,(QSs.h (ae (aI 2 bc.nd rfl Z0 Z1 rfl jT)
   (ae (aI 3 bc.nd rfl Z0 Z1 rfl (cz (paE rfl (vn 1 rfl Z0 rfl rfl) ah)))
   (ae (aI 4 bc.nd rfl Z0 Z1 rfl ap)
   (ae (lw PassesOwn.never (bu (Ca hr) rfl (vn 3 rfl Z0 rfl rfl) (cz ah))
   (ae (aI 4 bc.nd rfl Z0 Z1 rfl (opE ce (vn 4 rfl Z0 rfl rfl) ap))
    (ae (aI 5 bc.nd rfl Z0 Z1 rfl (cz ah))
    (ae (cA PassesOwn.never rfl rfl (cw (K:=K) rfl (vn 0 rfl Z0 rfl rfl)) (eN (K:=K) rfl rfl rfl (gsE rfl (au 6 bc.nd rfl Z0 Z1) (gsE rfl (au 7 bc.nd rfl Z0 Z1) (gsE rfl (au 8 bc.nd rfl Z0 Z1) cu))))
    (am (ifS (wT (kR (bu (qO (K:=K) rfl) rfl (vn 6 rfl Z0 rfl rfl) (vn 3 rfl Z0 rfl rfl)) (iF (kq hr rfl (vn 7 rfl Z0 rfl rfl) (vn 2 rfl Z0 rfl rfl)))))
     (ae (iO hr rfl (vn 4 rfl Z0 rfl rfl) (vn 2 rfl Z0 rfl rfl) (vn 7 rfl Z0 rfl rfl))
      (am (bD rfl (bmE (K:=K) rfl plainAttrs_list PySem.F.slot_list_append PySem.F.type_list_append aV rfl rfl rfl rfl (vn 5 rfl Z0 rfl rfl) (paE rfl (vn 7 rfl Z0 rfl rfl) ah)))))
     aU)))
    (am (aI 3 bc.nd rfl Z0 Z1 rfl (vn 5 rfl Z0 rfl rfl)))))))
   (am (aK (vn 2 rfl Z0 rfl rfl)))))))),?_⟩
  show bg _ _ _ [some (.ref l),some (.str st),none,none,none,none,none,none,none] H;refine aj fun D1 k1 _=>?_
  walk_at "rd";intro d fd;refine k1 _ _ (aj fun D2 k2 _=>?_);have s1:=ac.upd (o:= .dK []) fd;have hd:upd H d (.dK []) d=some (.dK (VD [] fun _=> .non)):=aa
  generalize upd H d (.dK [])=H1 at s1 hd
  walk_at "rd";refine⟨(show 1<=sizeLine by decide),fun e fe=>k2 _ _ (aj fun D3 k3 _=>?_)⟩;have s2:=ac.upd (o:= .lst [V.str st]) fe;have he:upd H1 e (.lst [V.str st]) e=some (.lst ([st].map V.str)):=aa;have hd:=s2 _ _ hd;have s12:=s1.trans s2
  generalize upd H1 e (.lst [V.str st])=H2 at s12 he hd
  walk_at "rd";refine k3 _ _ (aj fun D4 k4 _=>?_);refine⟨Ci H l d st ss,⟨_,e,0,none,none,none,none,[st],[],_,rfl,s12,he,hd,Ys,fun x hx=>(nomatch hx),by simp,fun x hx=> .inl (by simpa using hx),rfl⟩,?_⟩;rintro m σ H3 ⟨e,n,o5,o6,o7,o8,F,R,g,rfl,sm,he,hd,nd,hR,hF,hcl,rfl⟩;have Rl:=rW hR nd;walk_at "rd";refine⟨(show 0<=sizeLine by decide),fun p fp=>⟨F.map V.str,ac.upd fp _ _ he,aa,bw (fun h=>?_) fun h=>?_⟩⟩
  ·have s3:=ac.upd (o:= .lst []) fp;have he:=s3 _ _ he;have hd:=s3 _ _ hd;have sm:=sm.trans s3
   generalize upd H3 p (.lst [])=H4 at he hd sm ⊢
   refine⟨fun σ' H'=>∃m',m'<2*(62-R.length) +F.length.min 1/\Ci H l d st ss m' σ' H',fun _ _ h=>h,(show 0<=sizeLine by decide),fun mo fmo=>av fun Kont hK=>?_⟩;have s4:=ac.upd (o:= .lst []) fmo;have hmo:upd H4 mo (.lst []) mo=some (.lst (([]:List Str).map V.str)):=aa;have mod:mo≠d:=fun c=>by rw[c,hd]at fmo;cases fmo
   have moe:mo≠e:=fun c=>by rw[c,he]at fmo;cases fmo
   have ed:e≠d:=fun c=>by rw[c,hd]at he;cases he
   have fmo:=sm.free fmo;have he:=s4 _ _ he;have hd:=s4 _ _ hd;have sm:=sm.trans s4
   generalize upd H4 mo (.lst [])=H5 at hmo he hd sm ⊢
   walk_at "rd";refine .inl ⟨⟨_,SqL.of (sm _ _ hl)⟩,hK _ _ ?_⟩;refine bd (xs:=ss.map fun t=>V.ref t.1) (fun i σ H'=>(∃o6 o7 o8,σ=[some (.ref l),some (.str st),some (.ref d),some (.ref e),some (.int (n+1)),some (.ref mo),o6,o7,o8])/\ac H H'/\H' e=some (.lst (F.map V.str))/\∃(M:List Str) (g:Str->V),H' mo=some (.lst (M.map V.str))/\H' d=some (.dK (VD (R++M) g))/\(R++M).Nodup/\(∀x∈R++M,Rch (ss.map (·.2)) st x)/\∀t∈ss.take i,∀x y,t.2[0]? =some x->t.2[1]? =some y->x∈F->y∈R++M)
    ⟨⟨_,_,_,rfl⟩,sm,he,[],g,hmo,by rw[Zw];exact hd,by rw[Zw];exact nd,by rw[Zw];exact hR,fun t ht=>(nomatch ht)⟩ (fun i σ H' _ h=>SqL.of (h.2.1 _ _ hl)) ?_ ?_
   ·rintro i v σ H' hv ⟨⟨o6,o7,o8,rfl⟩,sm,he,M,g,hM,hd,nd,hR,hdone⟩;rw[Zk]at hv;obtain⟨t,ht,rfl⟩:=map_eq_some_iff.mp hv;obtain⟨htu,x,y,z,et,_⟩:=hss t (Z7 ht);rw[et]at htu;have tk:ss.take (i+1)=ss.take i++[t]:=by rw[Yx,ht];rfl
    have RMl:=rW hR nd;rw[Z8]at RMl;have go:∀M',(∀a∈R++M,a∈R++M')->(x∈F->y∈R++M')->∀t∈ss.take (i+1),∀x y,t.2[0]? =some x->t.2[1]? =some y->x∈F->y∈R++M':=fun M' mono hy t' ht' x' y' e1 e2 hx'=>by
     rw[tk]at ht';rcases X7 ht' with q|q
     ·exact mono y' (hdone t' q x' y' e1 e2 hx')
     ·rw[X8 q,et]at e1 e2;obtain rfl:x=x':=Z9 e1;obtain rfl:y=y':=Z9 e2;exact hy hx'
    refine⟨_,SqT.of (sm _ _ htu),rfl,_,_,rfl,_,_,rfl,_,_,rfl,rfl,?_⟩;show j2 _ _ _ _ [some (.ref l),some (.str st),some (.ref d),some (.ref e),some (.int (n+1)),some (.ref mo),some (.str x),some (.str y),some (.str z)] H';refine aB fun D5 k5 _=>?_
    walk_at "rd";refine⟨_,.inl (SqL.of he),rfl,by simp[en],?_⟩;rw[sH];refine bw (fun hx=>?_) fun hx=>?_
    ·have hx:=Zn hx;refine⟨_,cf.k (k:=Sum.inr y) hd,bw (fun hv=>?_) fun hv=>?_⟩
     ·have hy:y∉R++M:=fun c=>by rw[gj c]at hv;cases hv
      refine⟨_,jh.k (k:=Sum.inr y) hd (by unfold VD;rw[Z5,Z8];exact aH (by lia)),?_⟩;rw[fQ _ (gQ hy)];have e1:VD (R++M) g++[(Sum.inr y,V.int (n+1))]=VD (R++(M++[y])) fun a=>if a=y then .int (n+1)else g a:=by
       unfold VD;rw[<-Zd,Zc (l₂:=[y])];refine congr (congrArg _ (Yh fun a ha=>?_)) (by simp);show(Sum.inr a,g a)=((Sum.inr a:Key),if a=y then V.int (n+1)else g a)
       rw[if_neg (fun c:a=y=>hy (by rw[<-c];exact ha))]
      rw[e1];have u1:∀c o,c≠d->H' c=some o->upd H' d (.dK (VD (R++(M++[y])) fun a=>if a=y then .int (n+1)else g a)) c=some o:=fun c o h e=>by rw[ai h];exact e
      have ud:upd H' d (.dK (VD (R++(M++[y])) fun a=>if a=y then .int (n+1)else g a)) d=_:=aa;have v1:=ac.set (o:= .dK (VD (R++(M++[y])) fun a=>if a=y then .int (n+1)else g a)) sm fd
      generalize upd H' d (.dK (VD (R++(M++[y])) fun a=>if a=y then .int (n+1)else g a))=H6 at u1 ud v1
      have hM:=u1 _ _ mod hM;refine⟨.inl ⟨_,SqL.of hM⟩,_,hM,by rw[Z5];exact aH (by lia),k5 _ _ ⟨⟨_,_,_,rfl⟩,ac.set v1 fmo,(ai moe.symm).trans (u1 _ _ ed he),M++[y],_,by rw[aa,Zc];rfl,(ai mod.symm).trans ud,?_,?_,go _ (fun a ha=>?_) fun _=>?_⟩⟩
      ·rw[<-Zd,Yq];exact⟨nd,by simp,fun a ha b hb c=>hy (by rw[<-X8 hb,<-c];exact ha)⟩
      ·intro a ha;rw[<-Zd]at ha;rcases X7 ha with q|q
       ·exact hR a q
       ·rw[X8 q];have ed:Ed (ss.map (·.2)) x y:=⟨z,by rw[<-et];exact Xa ⟨t,Z7 ht,rfl⟩⟩
        rcases hF x hx with rfl|q'
        ·exact .one ed
        ·exact .more (hR x (Yl _ q')) ed
      ·rw[<-Zd];exact Yl _ ha
      ·rw[<-Zd];exact Ym _ Zl
     ·have hy:y∈R++M:=Decidable.byContradiction fun c=>by rw[gQ c]at hv;exact hv rfl
      exact k5 _ _ ⟨⟨_,_,_,rfl⟩,sm,he,M,g,hM,hd,nd,hR,go M (fun _ h=>h) fun _=>hy⟩
    ·exact k5 _ _ ⟨⟨_,_,_,rfl⟩,sm,he,M,g,hM,hd,nd,hR,go M (fun _ h=>h) fun c=>absurd (Ze c) hx⟩
   ·rintro σ H' ⟨⟨o6,o7,o8,rfl⟩,sm,he,M,g,hM,hd,nd',hR',hdone⟩;rw[sm',Zm (Zh _)]at hdone;dsimp only;walk_at "rd";have ln:=rW hR' nd';rw[Z8]at ln;have F1:F.length.min 1=1:=by
     cases F with
     | nil=>exact absurd h (by simp)
     | cons x F=>exact Nat.min_eq_right (by rw[Zq];lia)
    refine⟨_,?_,mo,n+1,_,_,_,_,M,R++M,g,rfl,sm,hM,hd,nd',hR',fun x hx=> .inr (Ym _ hx),fun x hx=>?_,rfl⟩
    ·rw[F1,Z8];cases M with
     | nil=>simp
     | cons a r=>
       rw[Zq]at ln ⊢;have:(r.length+1).min 1<=1:=Nat.min_le_right _ _
       lia
    ·have old:x=st\/x∈R->x∈M\/∀y,Ed (ss.map (·.2)) x y->y∈R++M:=fun hx=>by
      rcases hcl x hx with q|q
      ·refine .inr fun y ⟨z,hz⟩=>?_
       obtain⟨t,ht,et⟩:=X9 hz;exact hdone t ht x y (by rw[et];rfl) (by rw[et];rfl) q
      ·exact .inr fun y ey=>Yl _ (q y ey)
     rcases hx with q|q
     ·exact old (.inl q)
     ·rcases X7 q with q|q
      ·exact old (.inr q)
      ·exact .inl q
  ·refine k4 _ _ ?_;walk_at "rd";have h:F=[]:=by
    cases F with
    | nil=>rfl
    | cons x F=>exact absurd (Ze (by simp)) h
   refine kk d _ R g (sm.trans (ac.upd fp)) (ac.upd fp _ _ hd) fun x=>⟨hR x,fun r=>r.closed (R:=fun y=>y∈R) (fun y ed=>?_) fun x y hx ed=>?_⟩
   ·exact(hcl st (.inl rfl)).resolve_left (by rw[h];simp) y ed
   ·exact(hcl x (.inr hx)).resolve_left (by rw[h];simp) y ed
theorem qk(T:Txt K mg):Cal P w K mg base 2 "_law_pairs" ["_law_script","_law_layers","_law_many"] (xI K):=by
 refine T.d_law_pairs.cal cH (fun vs H Q E h=>?_) (fun f cdv A outer s H vs Q E hr h=>?_)
 ·obtain⟨a,l,m,is,ns,rfl,_⟩:=h;rfl
 ·obtain⟨a,l,m,is,ns,rfl,hs,hl,n1,n24,m100,kk⟩:=h;refine⟨_,(QSs.h (ae (aI 3 cH.nd rfl Z0 Z1 rfl (aD (db T) hr rfl rfl rfl rfl (paE rfl (vn 0 rfl Z0 rfl rfl) (paE rfl ap ah))))
   (ae (aI 4 cH.nd rfl Z0 Z1 rfl (cz ah))
   (ae (cA PassesOwn.never rfl rfl (jS rfl T.b_range rfl (paE rfl (vn 2 rfl Z0 rfl rfl) ah)) (au 5 cH.nd rfl Z0 Z1)
   (ae (bD rfl (bmE (K:=K) rfl plainAttrs_list PySem.F.slot_list_append PySem.F.type_list_append aV rfl rfl rfl rfl (vn 4 rfl Z0 rfl rfl) (paE rfl (gR (paE rfl (dj (K:=K) rfl (fun _ _=>rfl) (vn 1 rfl Z0 rfl rfl) (opE bH (opE hX (vn 3 rfl Z0 rfl rfl) (vn 5 rfl Z0 rfl rfl)) (cbE (bV (K:=K) rfl) rfl T.b_len PySem.boot_len rfl rfl rfl (paE rfl (vn 1 rfl Z0 rfl rfl) ah)))) (paE rfl (dj (K:=K) rfl (fun _ _=>rfl) (vn 1 rfl Z0 rfl rfl) (opE bH (opE cB (vn 3 rfl Z0 rfl rfl) (cbE (bV (K:=K) rfl) rfl T.b_len PySem.boot_len rfl rfl rfl (paE rfl (vn 1 rfl Z0 rfl rfl) ah))) (cbE (bV (K:=K) rfl) rfl T.b_len PySem.boot_len rfl rfl rfl (paE rfl (vn 1 rfl Z0 rfl rfl) ah)))) ah))) ah)))
    (am (aI 3 cH.nd rfl Z0 Z1 rfl (opE cB (opE cB (vn 3 rfl Z0 rfl rfl) (cbE (bV (K:=K) rfl) rfl T.b_len PySem.boot_len rfl rfl rfl (paE rfl (vn 1 rfl Z0 rfl rfl) ah))) (cbE (bV (K:=K) rfl) rfl T.b_len PySem.boot_len rfl rfl rfl (paE rfl (vn 1 rfl Z0 rfl rfl) ah)))))))
   (am (aK (vn 4 rfl Z0 rfl rfl))))))),?_⟩
  show bg _ _ _ [some (.ref a),some (.ref l),some (.int m),none,none,none] H;refine aj fun D1 k1 _=>?_
  walk_at "rd";refine⟨a,is,2,rfl,hs,by decide,k1 _ _ (aj fun D2 k2 _=>?_)⟩;walk_at "rd";refine⟨(show 0<=sizeLine by decide),fun pr fpr=>k2 _ _ (aj fun D3 k3 _=>av fun Kont hK=>?_)⟩;have s1:=ac.upd (o:= .lst []) fpr;have gpr:upd H pr (.lst []) pr=some (.lst ((([]:List (Addr×Str×Str)).map fun p=>V.ref p.1))):=aa
  generalize upd H pr (.lst [])=H1 at s1 gpr
  walk_at "rd";refine⟨by lia,by lia,hK _ _ (cP (fun i σ H'=>(∃(c:Int) (o5:Option V),σ=[some (.ref a),some (.ref l),some (.int m),some (.int c),some (.ref pr),o5])/\ac H H'/\∃ps:List (Addr×Str×Str),H' pr=some (.lst (ps.map fun p=>V.ref p.1))/\ps.length=i/\∀p∈ps,H' p.1=some (.tup [.str p.2.1,.str p.2.2])/\p.2.1∈ns/\p.2.2∈ns)
   ⟨⟨_,_,rfl⟩,s1,[],gpr,rfl,fun p hp=>(nomatch hp)⟩ ?_ ?_)⟩
  ·rintro i σ H' hi ⟨⟨c,o5,rfl⟩,sm,ps,hpr,hpl,hps⟩;show bg _ _ _ [some (.ref a),some (.ref l),some (.int m),some (.int c),some (.ref pr),some (.int (0+i))] H';refine aj fun D4 k4 _=>?_
   have hl':=sm _ _ hl;have nm:(ns.map V.str).length=ns.length:=Z5 _;walk_at "rd";obtain⟨x,hx,ex⟩:=xK n1 (c+i);obtain⟨y,hy,ey⟩:=xK n1 (c/(ns.length:Int));refine⟨.inl ⟨_,SqL.of hpr⟩,ns.length,.inl ⟨_,SqL.of hl',nm.symm⟩,by lia,_,SqL.of hl',_,ex,ns.length,.inl ⟨_,SqL.of hl',nm.symm⟩,⟨by lia,by lia⟩,ns.length,.inl ⟨_,SqL.of hl',nm.symm⟩,by lia,_,SqL.of hl',_,ey,(show 2<=sizeLine by decide),fun p fp=>?_⟩;have s2:=ac.upd (o:= .tup [.str x,.str y]) fp;have gp:upd H' p (.tup [.str x,.str y]) p=_:=aa;have hpr:=s2 _ _ hpr;have hps:∀q∈ps,upd H' p (.tup [.str x,.str y]) q.1=some (.tup [.str q.2.1,.str q.2.2])/\q.2.1∈ns/\q.2.2∈ns:=fun q hq=>⟨s2 _ _ (hps q hq).1,(hps q hq).2⟩
   have sm:=sm.trans s2
   generalize upd H' p (.tup [.str x,.str y])=H2 at gp hpr hps sm ⊢
   have keep:=i5 (ys:=(ps.map fun p=>V.ref p.1) ++[V.ref p]) hpr;refine⟨_,hpr,by rw[Z5];exact aH (by lia),k4 _ _ (aB fun D5 k5 _=>?_)⟩;have u:=ac.set (o:= .lst ((ps.map fun p=>V.ref p.1) ++[V.ref p])) sm fpr;have hp2:upd H2 pr (.lst ((ps.map fun p=>V.ref p.1) ++[V.ref p])) pr=some (.lst ((ps++[(p,x,y)]).map fun p=>V.ref p.1)):=by rw[aa,Zc];rfl
   have all:∀q∈ps++[(p,x,y)],upd H2 pr (.lst ((ps.map fun p=>V.ref p.1) ++[V.ref p])) q.1=some (.tup [.str q.2.1,.str q.2.2])/\q.2.1∈ns/\q.2.2∈ns:=fun q hq=>by
    rcases X7 hq with z|z
    ·exact⟨keep _ _ (hps q z).1,(hps q z).2⟩
    ·rw[X8 z];exact⟨keep _ _ gp,hx,hy⟩
   generalize upd H2 pr (.lst ((ps.map fun p=>V.ref p.1) ++[V.ref p]))=H3 at u hp2 all
   walk_at "rd";have hl3:=u _ _ hl;exact⟨ns.length,.inl ⟨_,SqL.of hl3,nm.symm⟩,⟨by lia,by lia⟩,ns.length,.inl ⟨_,SqL.of hl3,nm.symm⟩,⟨by lia,by lia⟩,k5 _ _ ⟨⟨_,_,rfl⟩,u,_,hp2,by rw[Z8,hpl];rfl,all⟩⟩
  ·rintro σ H' ⟨⟨c,o5,rfl⟩,sm,ps,hpr,hpl,hps⟩;refine k3 _ _ ?_;walk_at "rd";exact kk pr H' ps sm (by lia) hpr hps
def Add(ks ks':List (List Str))(u v:Str):Prop:=∀a b,Ed ks' a b↔Ed ks a b\/(a=u/\b=v)
section
variable{ks ks':List (List Str)}{u v:Str}
theorem Add.up(h:Add ks ks' u v)(r:Rch ks a b):Rch ks' a b:=by
 induction r with
 | one e=>exact .one ((h _ _).mpr (.inl e))
 | more _ e ih=>exact .more ih ((h _ _).mpr (.inl e))
theorem Add.rch(h:Add ks ks' u v):Rch ks' a b↔Rch ks a b\/((a=u\/Rch ks a u)/\(v=b\/Rch ks v b)):=by
 constructor
 ·intro r
  induction r with
  | one e=>
    rcases(h _ _).mp e with q|⟨q,q'⟩
    ·exact .inl (.one q)
    ·exact .inr ⟨.inl q,.inl q'.symm⟩
  | more _ e ih=>
    rcases(h _ _).mp e with q|⟨rfl,rfl⟩
    ·rcases ih with c|⟨c,d⟩
     ·exact .inl (.more c q)
     ·refine .inr ⟨c,.inr ?_⟩;rcases d with rfl|d
      ·exact .one q
      ·exact .more d q
    ·rcases ih with c|⟨c,_⟩
     ·exact .inr ⟨.inr c,.inl rfl⟩
     ·exact .inr ⟨c,.inl rfl⟩
 ·have new:Rch ks' u v:= .one ((h _ _).mpr (.inr ⟨rfl,rfl⟩));rintro(r|⟨c,d⟩)
  ·exact h.up r
  ·have:Rch ks' a v:=by
    rcases c with rfl|c
    ·exact new
    ·exact(h.up c).trans new
   rcases d with rfl|d
   ·exact this
   ·exact this.trans (h.up d)
theorem Add.ring(h:Add ks ks' u v)(nr:∀x,¬ Rch ks x x):(∃x,Rch ks' x x)↔u=v\/Rch ks v u:=by
 constructor
 ·rintro⟨x,r⟩;rcases h.rch.mp r with q|⟨c,d⟩
  ·exact absurd q (nr x)
  ·rcases c with rfl|c<;> rcases d with rfl|d
   ·exact .inl rfl
   ·exact .inr d
   ·exact .inr c
   ·exact .inr (d.trans c)
 ·rintro(rfl|q)
  ·exact⟨u,h.rch.mpr (.inr ⟨.inl rfl,.inl rfl⟩)⟩
  ·exact⟨u,h.rch.mpr (.inr ⟨.inl rfl,.inr q⟩)⟩
end
structure sN (S:Str->Str->Prop) (ls:List Str) (lk:List (List Str)) (a b:Str) (L:List Str):Prop where
 nd:L.Nodup
 mem:∀x,x∈L↔x∈ls/\bE S x x
 ord:∀(i:Nat) x,L[i]? =some x->∀y,Ed lk x y\/(x=b/\y=a)->y∈L.take i
def xM(mg:Str->Option Value):Sp:=fun vs H Q _=>∃(g:Addr) (qs:List (Addr×List V)) (ls:List Str) (ts:List (Addr×List Str)) (lk:List (List Str)) (a b:Str),vs=[.ref g,.str b,.str a]/\lM mg H g qs ls ts lk/\(a∈ls/\bE (be qs) a a)/\(b∈ls/\bE (be qs) b b)/\a≠b/\ ¬ Rch lk a b/\
 ∀l H' L,ac H H'->H l=none->H' l=some (.lst (L.map V.str))->sN (be qs) ls lk a b L->Q (.ref l) H'
def BA(mg:Str->Option Value):Sp:=fun vs H Q _=>∃(g:Addr) (qs:List (Addr×List V)) (ls:List Str) (ts:List (Addr×List Str)) (lk:List (List Str)) (z u:Str),vs=[.ref g,.str z,.str u]/\lM mg H g qs ls ts lk/\z∈ls/\u∈ls/\∀a b,bE (be qs) z a->bE (be qs) u b->(∀H',ac H H'->a=b\/Rch lk a b\/Rch lk b a->Q .non H')/\
 ∀t l1 l2 H' L1 L2,ac H H'->H l1=none->H l2=none->l1≠l2->H' t=some (.tup [.ref l1,.ref l2])->H' l1=some (.lst (L1.map V.str))->H' l2=some (.lst (L2.map V.str))->a≠b-> ¬ Rch lk a b-> ¬ Rch lk b a->sN (be qs) ls lk a b L1->sN (be qs) ls lk b a L2->Q (.ref t) H'
theorem i8(T:Txt K mg):Cal P w K mg base 6 "order_with" ["ground","later","earlier"] (xM mg):=by
 refine T.d_order_with.cal mh (fun vs H Q E h=>?_) (fun f cdv A outer s H vs Q E hr h=>?_)
 ·obtain⟨g,qs,ls,ts,lk,a,b,rfl,_⟩:=h;rfl
 ·obtain⟨g,qs,ls,ts,lk,a,b,rfl,⟨hg,hlk,nr⟩,ha,hb,nab,rab,kk⟩:=h;obtain⟨c2,c3,c4,gr⟩:=hg.gr;have ll:=hg.ll;refine⟨_,(QSs.h (am (aK (aD (gu T) hr rfl rfl rfl rfl (paE rfl (aD (dB T) hr rfl rfl rfl rfl (paE rfl (vn 0 rfl Z0 rfl rfl) ah)) (paE rfl (opE hX (aD (kA T) hr rfl rfl rfl rfl (paE rfl (vn 0 rfl Z0 rfl rfl) ah)) (cz (paE rfl (gR (paE rfl (vn 1 rfl Z0 rfl rfl) (paE rfl (vn 2 rfl Z0 rfl rfl) (paE rfl (gvE T.g_SUPPOSED rfl rfl) ah)))) ah))) ah)))))),?_⟩;show eM _ _ [some (.ref g),some (.str b),some (.str a)] H;walk_at "rd";refine⟨g,c2,c3,c4,qs,ls,ts,rfl,gr,hg.nd,hg.so,by lia,fun n H1 ms s1 fn hn hms=>?_⟩;refine⟨g,c2,c3,c4,qs,ls,ts,rfl,gr.up s1,hg.nd,hg.so,by lia,hg.tl,hg.t3,fun l H2 ss s2 fl hl tu lks sl=>?_⟩;obtain rfl:=hlk.one lks;refine⟨(show 3<=sizeLine by decide),fun t ft=>⟨(show 1<=sizeLine by decide),fun m fm=>?_⟩⟩;have u1:=ac.upd (o:= .tup [V.str b,V.str a,V.str "supposed"]) ft;have gt:upd H2 t (.tup [V.str b,V.str a,V.str "supposed"]) t=_:=aa
  generalize upd H2 t (.tup [V.str b,V.str a,V.str "supposed"])=Ha at u1 gt fm ⊢
  have u2:=ac.upd (o:= .lst [V.ref t]) fm;have gm:upd Ha m (.lst [V.ref t]) m=_:=aa
  generalize upd Ha m (.lst [V.ref t])=Hb at u2 gm ⊢
  refine⟨l,rfl,_,(u1.trans u2) _ _ hl,_,gm,by rw[Z5,PySem.sizeLine_eq,Yc];lia,fun p fp=>?_⟩;have u3:=ac.upd (o:= .lst ((ss.map fun t=>V.ref t.1) ++[V.ref t])) fp;have gp:upd Hb p (.lst ((ss.map fun t=>V.ref t.1) ++[V.ref t])) p=some (.lst ((ss++[(t,[b,a,("supposed":Str)])]).map fun t=>V.ref t.1)):=by rw[aa,Zc];rfl
  generalize upd Hb p (.lst ((ss.map fun t=>V.ref t.1) ++[V.ref t]))=Hc at u3 gp ⊢
  have u23:=u2.trans u3;have u13:=u1.trans u23;have s3:=s2.trans u13;have ml:=STab.nodup_sub hms.nd fun x hx=>((hms.mem x).mp hx).1
  have la:=i7 tu (hg.names lks hms);have ad:Add (ss.map (·.2)) ((ss++[(t,[b,a,("supposed":Str)])]).map (·.2)) b a:=fun x y=>by
   constructor
   ·rintro⟨z,hz⟩;rw[Zc]at hz;rcases X7 hz with c|c
    ·exact .inl ⟨z,c⟩
    ·have c:=X8 c;simp only[List.cons.injEq,and_true]at c;exact .inr ⟨c.1,c.2.1⟩
   ·rintro(⟨z,hz⟩|⟨rfl,rfl⟩)
    ·exact⟨z,by rw[Zc];exact Yl _ hz⟩
    ·exact⟨"supposed",by rw[Zc];exact Ym _ Zl⟩
  refine⟨n,p,ms,_,rfl,s3 _ _ hn,hms.nd,by lia,gp,fun q hq=>?_,by rw[Z8,Yc];lia,fun r H3 L s4 fr hL Ln Ls ord all=>?_⟩
  ·rcases X7 hq with c|c
   ·exact la.up u13 q c
   ·rw[X8 c];exact⟨u23 _ _ gt,b,a,_,rfl,(hms.mem b).mpr hb,(hms.mem a).mpr ha⟩
  ·have s13:=s1.trans s3;refine kk r H3 L (s13.trans s4) (s13.free fr) hL ⟨Ln,fun x=>⟨fun hx=>(hms.mem x).mp (Ls x hx),fun hx=>Decidable.byContradiction fun c=>?_⟩,fun i x hi y e=>ord i x hi y ((ad x y).mpr e)⟩;refine Bi (U:=ms.filter fun y=>decide (y∉L)) (ks:=(ss++[(t,[b,a,("supposed":Str)])]).map (·.2)) (fun y hy=>?_) (fun x r=>?_) (List.mem_filter.mpr ⟨(hms.mem x).mpr hx,Ze c⟩)
   ·obtain⟨a,b⟩:=List.mem_filter.mp hy;obtain⟨y',e,m1,m2⟩:=all y a (Zn b);exact⟨y',List.mem_filter.mpr ⟨m1,Ze m2⟩,e⟩
   ·exact((ad.ring nr).mp ⟨x,r⟩).elim (fun c=>nab c.symm) rab
theorem i9(T:Txt K mg):Cal P w K mg base 8 "two_orders" ["ground","one","other"] (BA mg):=by
 refine T.d_two_orders.cal eK (fun vs H Q E h=>?_) (fun f cdv A outer s H vs Q E hr h=>?_)
 ·obtain⟨g,qs,ls,ts,lk,z,u,rfl,_⟩:=h;rfl
 ·obtain⟨g,qs,ls,ts,lk,z,u,rfl,ak,hz,hu,kk⟩:=h;obtain⟨c2,c3,c4,gr⟩:=ak.gr.gr;have ll:=ak.gr.ll;refine⟨_,(QSs.h (ae (ifS (bu eA rfl (aD (rV T) hr rfl rfl rfl rfl (paE rfl (vn 0 rfl Z0 rfl rfl) (paE rfl (vn 1 rfl Z0 rfl rfl) (paE rfl (vn 2 rfl Z0 rfl rfl) ah)))) dh)
   (am (aK lU))
   aU)
   (ae (aI 3 eK.nd rfl Z0 Z1 rfl (aD (cc T) hr rfl rfl rfl rfl (paE rfl (vn 0 rfl Z0 rfl rfl) (paE rfl (vn 1 rfl Z0 rfl rfl) ah))))
   (ae (aI 4 eK.nd rfl Z0 Z1 rfl (aD (cc T) hr rfl rfl rfl rfl (paE rfl (vn 0 rfl Z0 rfl rfl) (paE rfl (vn 2 rfl Z0 rfl rfl) ah))))
   (am (aK (gR (paE rfl (aD (i8 T) hr rfl rfl rfl rfl (paE rfl (vn 0 rfl Z0 rfl rfl) (paE rfl (vn 4 rfl Z0 rfl rfl) (paE rfl (vn 3 rfl Z0 rfl rfl) ah)))) (paE rfl (aD (i8 T) hr rfl rfl rfl rfl (paE rfl (vn 0 rfl Z0 rfl rfl) (paE rfl (vn 3 rfl Z0 rfl rfl) (paE rfl (vn 4 rfl Z0 rfl rfl) ah)))) ah))))))))),?_⟩
  show bg _ _ _ [some (.ref g),some (.str z),some (.str u),none,none] H;refine aj fun D1 k1 r1=>?_
  walk_at "rd";refine⟨g,qs,ls,ts,lk,z,u,rfl,ak,hz,hu,fun H1 s a b s1 ha hb st=>?_⟩;obtain⟨kn,ky⟩:=kk a b ha hb;have a2:a∈ls/\bE (be qs) a a:=⟨ha.1.within (dq gr.sa) hz,c6 ha ha.1⟩
  have b2:b∈ls/\bE (be qs) b b:=⟨hb.1.within (dq gr.sa) hu,c6 hb hb.1⟩
  refine⟨rfl,?_⟩;rcases st with⟨h1,rfl⟩|⟨_,h2,rfl⟩|⟨_,_,h3,rfl⟩|⟨h1,h2,h3,rfl⟩
  ·rw[if_pos (by decide +kernel)];exact r1 _ _ (kn H1 s1 (.inl h1))
  ·rw[if_pos (by decide +kernel)];exact r1 _ _ (kn H1 s1 (.inr (.inl h2)))
  ·rw[if_pos (by decide +kernel)];exact r1 _ _ (kn H1 s1 (.inr (.inr h3)))
  ·rw[if_neg (by simp)];refine k1 _ _ (aj fun D2 k2 _=>?_);walk_at "rd";refine⟨g,c2,c3,c4,qs,ls,ts,z,rfl,gr.up s1,ak.gr.nd,ak.gr.so,by lia,hz,fun H2 a' s2 ha'=>k2 _ _ (aj fun D3 k3 _=>?_)⟩;obtain rfl:=ha'.one ha;have s12:=s1.trans s2;walk_at "rd";refine⟨g,c2,c3,c4,qs,ls,ts,u,rfl,gr.up s12,ak.gr.nd,ak.gr.so,by lia,hu,fun H3 b' s3 hb'=>k3 _ _ ?_⟩;obtain rfl:=hb'.one hb;have s13:=s12.trans s3;walk_at "rd";refine⟨g,qs,ls,ts,lk,a',b',rfl,ak.up s13,a2,b2,h1,h2,fun l1 H4 L1 s4 f1 hl1 o1=>?_⟩;have s14:=s13.trans s4;refine⟨g,qs,ls,ts,lk,b',a',rfl,ak.up s14,b2,a2,Ne.symm h1,h3,fun l2 H5 L2 s5 f2 hl2 o2=>⟨(show 2<=sizeLine by decide),fun t ft=>?_⟩⟩;have st:=ac.upd (o:= .tup [V.ref l1,V.ref l2]) ft;exact ky t l1 l2 _ L1 L2 (s14.trans (s5.trans st)) (s13.free f1) (s14.free f2) (fun c=>by rw[<-c,hl1]at f2;cases f2) aa (st _ _ (s5 _ _ hl1)) (st _ _ hl2) h1 h2 h3 o1 o2
theorem lO:∀{L:List Str} {k:Nat} {x:Str},L.Nodup->L[k]? =some x->L.idxOf x=k
 | y::L,0,x,_,h=>by rw[<-Z9 h];simp
 | y::L,k+1,x,nd,h=>by
   rw[nodup_cons]at nd;have h:L[k]? =some x:=h;rw[List.idxOf_cons,lO nd.2 h];have:y≠x:=fun c=>nd.1 (by rw[c];exact Z7 h)
   rw[beq_eq_false_iff_ne.mpr this];rfl
theorem xN{L:List Str}(nd:L.Nodup){i:Nat}{y:Str}(h:y∈L.take i):L.idxOf y<i:=by
 obtain⟨j,hj⟩:=X1 h;have jl:=(X6 hj).1;rw[Yd]at jl;rw[Y5 (by lia)]at hj;rw[lO nd hj]
 lia
def ql:Sp:=fun vs H Q _=>∃(f n l:Addr) (L ns:List Str) (ss:List (Addr×List Str)) (a b:Str),vs=[.ref f,.ref n,.ref l,.str a,.str b]/\H f=some (.lst (L.map V.str))/\H n=some (.lst (ns.map V.str))/\H l=some (.lst (ss.map fun t=>V.ref t.1))/\cJ H ns ss/\ns.Nodup/\ns.Pairwise (fun a b=>aR b a=false)/\L.Nodup/\L.length<=60/\(∀x,x∈L↔x∈ns)/\a∈ns/\b∈ns/\(∀(i:Nat) x,L[i]? =some x->∀y,Ed (ss.map (·.2)) x y\/(x=b/\y=a)->y∈L.take i)/\∀H',ac H H'->Q (.bl true) H'
theorem eF(T:Txt K mg):Cal P w K mg base 1 "_law_keeps" ["_law_found","_law_names","_law_some","_law_ahead","_law_behind"] ql:=by
 refine T.d_law_keeps.cal cb (fun vs H Q E h=>?_) (fun f cdv A outer s H vs Q E hr h=>?_)
 ·obtain⟨f,n,l,L,ns,ss,a,b,rfl,_⟩:=h;rfl
 ·obtain⟨fl,nl,sl,L,ns,ss,a,b,rfl,hL,hN,hS,hss,nn,nso,Ln,Ll,Lm,ha,hb,ord,kk⟩:=h;have lm:(L.map V.str).length=L.length:=Z5 _;refine⟨_,(QSs.h (ae (ifS (wT (orW (fS (ef (K:=K) rfl (fun _=>rfl) (cbE (fT (K:=K) rfl) rfl T.b_isinstance boot_isinstance rfl rfl rfl (paE rfl (vn 0 rfl Z0 rfl rfl) (paE rfl (blE (v:= .ty "list") rfl T.b_list boot_list rfl rfl rfl) ah))))) (j7 (bu (Cb hr) rfl (cbE (m8 (K:=K) rfl) rfl T.b_sorted boot_sorted rfl rfl rfl (paE rfl (vn 0 rfl Z0 rfl rfl) ah)) (vn 1 rfl Z0 rfl rfl)))))
   (am (aK eBl))
   aU)
   (ae (aI 5 cb.nd rfl Z0 Z1 rfl jT)
   (ae (cA PassesOwn.never rfl rfl (jS rfl T.b_range rfl (paE rfl (cbE (bV (K:=K) rfl) rfl T.b_len PySem.boot_len rfl rfl rfl (paE rfl (vn 0 rfl Z0 rfl rfl) ah)) ah)) (au 6 cb.nd rfl Z0 Z1)
   (am (iO hr rfl (vn 6 rfl Z0 rfl rfl) (vn 5 rfl Z0 rfl rfl) (dj (K:=K) rfl (fun _ _=>rfl) (vn 0 rfl Z0 rfl rfl) (vn 6 rfl Z0 rfl rfl)))))
   (ae (cA PassesOwn.never rfl rfl (cw (K:=K) rfl (vn 2 rfl Z0 rfl rfl)) (eN (K:=K) rfl rfl rfl (gsE rfl (au 7 cb.nd rfl Z0 Z1) (gsE rfl (au 8 cb.nd rfl Z0 Z1) (gsE rfl (au 9 cb.nd rfl Z0 Z1) cu))))
   (am (ifS (bu q_ge rfl (dk hr (fun _ _=>rfl) (vn 5 rfl Z0 rfl rfl) (vn 8 rfl Z0 rfl rfl)) (dk hr (fun _ _=>rfl) (vn 5 rfl Z0 rfl rfl) (vn 7 rfl Z0 rfl rfl)))
    (am (aK eBl))
    aU)))
   (am (aK (jo qN rfl (dk hr (fun _ _=>rfl) (vn 5 rfl Z0 rfl rfl) (vn 3 rfl Z0 rfl rfl)) (dk hr (fun _ _=>rfl) (vn 5 rfl Z0 rfl rfl) (vn 4 rfl Z0 rfl rfl)))))))))),?_⟩
  show bg _ _ _ [some (.ref fl),some (.ref nl),some (.ref sl),some (.str a),some (.str b),none,none,none,none,none] H;refine aj fun D1 k1 r1=>?_
  walk_at "rd";refine⟨.type "list",.lst hL,true,by rfl,?_⟩;rw[if_neg (by decide)];refine⟨L,SqL.of hL,by lia,fun q us fq pu uso=>?_⟩;obtain rfl:us=ns:=ic aR (fun _ _ a b=>dJ a b) uso nso (pu.nodup_iff.mpr Ln) nn fun x=>pu.mem_iff.trans (Lm x)
  have s1:=ac.upd (o:= .lst (us.map V.str)) fq;refine⟨us,aa,s1 _ _ hN,k1 _ _ (aj fun D2 k2 _=>?_)⟩
  generalize upd H q (.lst (us.map V.str))=H1 at s1 ⊢
  walk_at "rd";intro d fd;refine k2 _ _ (aj fun D3 k3 _=>av fun Kont hK=>?_);have s2:=ac.upd (o:= .dK []) fd;have gd:upd H1 d (.dK []) d=some (.dK (VD (L.take 0) fun x=> .int (L.idxOf x:Nat))):=aa;have s12:=s1.trans s2;have fd:=s1.free fd
  generalize upd H1 d (.dK [])=H2 at s12 gd ⊢
  walk_at "rd";refine⟨L.length,.inl ⟨_,SqL.of (s12 _ _ hL),lm.symm⟩,by lia,by lia,?_⟩;rw[Int.toNat_natCast];refine hK _ _ (cP (fun i σ H'=>(∃o6,σ=[some (.ref fl),some (.ref nl),some (.ref sl),some (.str a),some (.str b),some (.ref d),o6,none,none,none])/\ac H H'/\H' d=some (.dK (VD (L.take i) fun x=> .int (L.idxOf x:Nat)))) ⟨⟨_,rfl⟩,s12,gd⟩ ?_ ?_)
  ·rintro i σ H' hi ⟨⟨o6,rfl⟩,sm,hd⟩;have hx:=Z4 hi
   generalize L[i]=x at hx
   show kL _ _ _ _ [some (.ref fl),some (.ref nl),some (.ref sl),some (.str a),some (.str b),some (.ref d),some (.int (0+i)),none,none,none] H';refine aB fun D4 k4 _=>?_
   walk_at "rd";have zn:x∉L.take i:=fun h=>by have:=xN Ln h;rw[lO Ln hx]at this;lia
   refine⟨_,SqL.of (sm _ _ hL),_,ci (by rw[Zk,hx];rfl),_,jh.k (k:=Sum.inr x) hd (by unfold VD;rw[Z5,Yd];exact aH (by lia)),k4 _ _ ⟨⟨_,rfl⟩,ac.set sm fd,?_⟩⟩;rw[aa,fQ _ (gQ zn),Yx,hx];unfold VD;rw[Zc];show _=some (HO.dK (_++[(Sum.inr x,V.int (L.idxOf x:Nat))]));rw[lO Ln hx]
  ·rintro σ H' ⟨⟨o6,rfl⟩,sm,hd⟩;rw[Zm (Zh _)]at hd;refine k3 _ _ (aj fun D4 k4 _=>av fun Kont hK=>?_);walk_at "rd";refine .inl ⟨⟨_,SqL.of (sm _ _ hS)⟩,hK _ _ ?_⟩;have get:∀{H3:Hp} {x:Str},ac H' H3->x∈us->cf H3 d (.str x) (some (.int (L.idxOf x:Nat))):=fun{H3 x} s3 hx=>by
    have:=cf.k (k:=Sum.inr x) (s3 _ _ hd);rwa[gj ((Lm x).mpr hx)]at this
   have less:∀{x y:Str},x∈us->Ed (ss.map (·.2)) x y\/(x=b/\y=a)->L.idxOf y<L.idxOf x:=fun{x y} hx e=>by
    obtain⟨i,hi⟩:=X1 ((Lm x).mpr hx);rw[lO Ln hi];exact xN Ln (ord i x hi y e)
   refine bd (xs:=ss.map fun t=>V.ref t.1) (fun i σ H3=>(∃o6 o7 o8 o9,σ=[some (.ref fl),some (.ref nl),some (.ref sl),some (.str a),some (.str b),some (.ref d),o6,o7,o8,o9])/\ac H' H3)
    ⟨⟨_,_,_,_,rfl⟩,fun _ _ e=>e⟩ (fun i σ H3 _ h=>SqL.of (h.2 _ _ (sm _ _ hS))) ?_ ?_
   ·rintro i v σ H3 hv ⟨⟨o6,o7,o8,o9,rfl⟩,s3⟩;rw[Zk]at hv;obtain⟨t,ht,rfl⟩:=map_eq_some_iff.mp hv;have tm:=Z7 ht;obtain⟨htu,x,y,z,et,hx,hy⟩:=hss t tm;rw[et]at htu;refine⟨_,SqT.of (s3 _ _ (sm _ _ htu)),rfl,_,_,rfl,_,_,rfl,_,_,rfl,rfl,?_⟩;show j2 _ _ _ _ [some (.ref fl),some (.ref nl),some (.ref sl),some (.str a),some (.str b),some (.ref d),o6,some (.str x),some (.str y),some (.str z)] H3;refine aB fun D5 k5 _=>?_
    walk_at "rd";have lt:=less hx (.inl ⟨z,by rw[<-et];exact Xa ⟨t,tm,rfl⟩⟩);refine⟨_,get s3 hy,_,get s3 hx,_,rfl,_,rfl,?_⟩;rw[if_neg (by rw[decide_eq_true_eq];lia)];exact k5 _ _ ⟨⟨_,_,_,_,rfl⟩,s3⟩
   ·rintro σ H3 ⟨⟨o6,o7,o8,o9,rfl⟩,s3⟩;refine k4 _ _ ?_;walk_at "rd";have lt:=less hb (.inr ⟨rfl,rfl⟩);refine⟨_,get s3 ha,_,get s3 hb,_,rfl,_,rfl,?_⟩;rw[Ze (show((L.idxOf a:Nat):Int)<(L.idxOf b:Nat) by lia)];exact kk H3 (sm.trans s3)
theorem kB(n:Str)(c:Nat):lnS n (sgn c)=cN n c:=by
 refine gC ?_;show(#[] ++n.cps++ #[46] ++ #[c]).toList=(n.cps.toList++[46,c]).toArray.toList;simp
theorem oH:x∈lyr p↔∃c,Let p.2.2 c/\x=cN p.2.1 c:=by
 unfold lyr;rw[mem_map]
 constructor
 ·rintro⟨z,hz,rfl⟩;obtain⟨c,hc,rfl⟩:=fC hz;exact⟨c,ju.mp hc,kB _ _⟩
 ·rintro⟨c,hc,rfl⟩;exact⟨sgn c,bn.mpr (Xa ⟨c,ju.mpr hc,rfl⟩),kB _ _⟩
theorem lP(h:jY d):x∈(fD d).map (·.1)↔∃c,Let d.rows c/\x=cN d.name c:=by
 unfold fD Drn.rows;rw[Yj,mem_map]
 constructor
 ·rintro⟨a,ha,rfl⟩;obtain⟨a0,a7,hc⟩:=dL.mp ha;exact⟨sg a d.sh,(pZ h.2.2.2.2.2).mpr ⟨a,a0,a7,hc,rfl⟩,rfl⟩
 ·rintro⟨c,hc,rfl⟩;obtain⟨a,a0,a7,hcol,rfl⟩:=(pZ h.2.2.2.2.2).mp hc;exact⟨a,dL.mpr ⟨a0,a7,hcol⟩,rfl⟩
theorem lQ:∀{xs:List α},(xs.map nm).Nodup->(∀p∈xs,(f p).Nodup)->(∀p∈xs,∀x∈f p,∃c,x=cN (nm p) c)->(xs.flatMap f).Nodup
 |[],_,_,_=>Ys
 | p::xs,h1,h2,h3=>by
   rw[Yi,nodup_cons]at h1;rw[List.flatMap_cons,Yq];refine⟨h2 p Zl,lQ h1.2 (fun q hq=>h2 q (Zj _ hq)) (fun q hq=>h3 q (Zj _ hq)),fun a ha b hb e=>?_⟩;obtain⟨q,hq,hbq⟩:=mem_flatMap.mp hb;obtain⟨c,e1⟩:=h3 p Zl a ha;obtain⟨d,e2⟩:=h3 q (Zj _ hq) b hbq;have:=(jx (e1.symm.trans (e.trans e2))).1;exact h1.1 (Xa ⟨q,hq,this.symm⟩)
theorem uZ(p:Addr×Str×List Str):(lyr p).Nodup:=by
 unfold lyr;rw[Yr,Yw];refine X2 (fun{x y} hx hy hne he=>?_) (nodup_iff_pairwise_ne.mp (dQ ((bZ p.2.2).map sgn)));obtain⟨c,_,rfl⟩:=fC hx;obtain⟨d,_,rfl⟩:=fC hy;rw[kB,kB]at he;exact hne (by rw[(jx he).2])
theorem rX(d:Drn):((fD d).map (·.1)).Nodup:=by
 unfold fD;rw[Yj,Yr,Yw];refine X2 (fun{x y} hx hy hne he=>?_) (nodup_iff_pairwise_ne.mp (p7 d.cols));obtain⟨x0,x7,_⟩:=dL.mp hx;obtain⟨y0,y7,_⟩:=dL.mp hy;exact hne (Bl x0 x7 y0 y7 (jx he).2)
theorem no.mono(h:no ls xs)(s:∀x∈ls,x∈ms):no ms xs:=by
 rcases h with⟨w,a,b,e,h1,h2,h3,h4⟩|⟨w,a,y,e,h1,h2,h3⟩
 ·exact .inl ⟨w,a,b,e,h1,s _ h2,s _ h3,h4⟩
 ·exact .inr ⟨w,a,y,e,h1,s _ h2,h3⟩
theorem rY{cs:List (Addr×Str×List Str)}{ls:List Str}(h:ls.Perm (cs.flatMap lyr)){x:Str}:x∈ls↔∃p∈cs,∃c,Let p.2.2 c/\x=cN p.2.1 c:=by
 rw[h.mem_iff,mem_flatMap]
 constructor
 ·rintro⟨p,hp,hx⟩;exact⟨p,hp,oH.mp hx⟩
 ·rintro⟨p,hp,hx⟩;exact⟨p,hp,oH.mpr hx⟩
theorem u4(h:∀p∈ds,jY p.2):x∈(ds.flatMap fun p=>(fD p.2).map (·.1))↔∃p∈dcs ds,∃c,Let p.2.2 c/\x=cN p.2.1 c:=by
 rw[mem_flatMap];unfold dcs
 constructor
 ·rintro⟨p,hp,hx⟩;exact⟨_,Xa ⟨p,hp,rfl⟩,(lP (h p hp)).mp hx⟩
 ·rintro⟨q,hq,hx⟩;obtain⟨p,hp,rfl⟩:=X9 hq;exact⟨p,hp,(lP (h p hp)).mpr hx⟩
theorem zO{ds:List (Addr×Drn)}(h:∀p∈ds,jY p.2)(hn:(ds.map fun p=>p.2.name).Nodup):(ds.flatMap fun p=>(fD p.2).map (·.1)).Nodup:=
 lQ (nm:=fun p:Addr×Drn=>p.2.name) hn (fun p _=>rX p.2) fun p hp x hx=>by
  obtain⟨c,_,e⟩:=(lP (h p hp)).mp hx;exact⟨c,e⟩
theorem ja{cs:List (Addr×Str×List Str)}(hn:(cs.map fun p=>p.2.1).Nodup){ls:List Str}(h:ls.Perm (cs.flatMap lyr)):ls.Nodup:=by
 rw[h.nodup_iff];exact lQ (nm:=fun p:Addr×Str×List Str=>p.2.1) hn (fun p _=>uZ p) fun p hp x hx=>by
  obtain⟨c,_,e⟩:=oH.mp hx;exact⟨c,e⟩
structure lR (H:Hp) (cs:List (Addr×Str×List Str)) (qs:List (Addr×List V)):Prop where
 ca:bG H cs
 nd:(cs.map fun p=>p.2.1).Nodup
 p1:1<=cs.length
 p3:cs.length<=3
 few:∀p∈cs,uz p.2.2
 ly:(cs.flatMap lyr).length<=60
 sa:∀ls:List Str,ls.Perm (cs.flatMap lyr)->cr H ls qs
 q20:qs.length<=20
theorem lR.up(h:lR H cs qs)(s:ac H H'):lR H' cs qs:=
 ⟨h.ca.up s,h.nd,h.p1,h.p3,h.few,h.ly,fun ls p=>(h.sa ls p).up s,h.q20⟩
def oI(K:PySem.W.Frag):Sp:=fun vs H Q _=>∃(a:Addr) (ns:List Int),vs=[.ref a]/\SqL K H a (ns.map V.int)/\yv H/\ns.length<=63/\∀H',Q (.bl true) H'
theorem zy{R:Hp->Prop}(fg:H g=none)(fdx:H dx=none)(ha:H a=some (.lst (bU cs)))(hb:H b=some (.lst (qs.map fun q=>V.ref q.1)))(p:lR H cs qs)
 (k:∀H' ls ts,ac H H'->jK mg H' g qs ls ts->ls.Perm (cs.flatMap lyr)->R H'):
 sJ mg [.ref g,.ref a,.ref b] (upd (upd H dx (.own g)) g (.ins (b8 mg "Ground") dx [])) (fun v H2=>v= .non/\R H2) E0:=by
 have s0:ac H (upd (upd H dx (.own g)) g (.ins (b8 mg "Ground") dx [])):=fun b o e=>by
  rw[ai (aq e fg),ai (aq e fdx)];exact e
 refine⟨g,a,b,dx,cs,qs,rfl,aa,s0 _ _ ha,s0 _ _ hb,p.ca.up s0,p.nd,p.p1,p.p3,p.few,p.ly,fun ls q=>(p.sa ls q).up s0,p.q20,fun H' ls ts c2 c3 c4 bb gr tk tl pl so=>⟨rfl,k H' ls ts (fun b o e=>bb b o (aq e fg) (s0 _ _ e)) ⟨⟨c2,c3,c4,gr⟩,ja p.nd pl,so,by rw[pl.length_eq];exact p.ly,tl,fun k hk=>?_⟩ pl⟩⟩;obtain⟨t,ht,rfl⟩:=X9 hk;exact tk t ht
theorem BB(F:Fun K "law" "law" gX f fd)(T:Txt K mg):hJ P w K mg base CX0 12 f fd ["_law_script"] (oI K):=by
 refine F.ok cW (fun vs H Q E h=>?_) (fun cdv A outer s H vs Q E hr h=>?_)
 ·obtain⟨a,ns,rfl,_⟩:=h;rfl
 ·obtain⟨a,ns,rfl,hs,ho,hn,kk⟩:=h;refine⟨_,(QSs.h (ae (yK rfl rfl rfl (aD (oF T) hr rfl rfl rfl rfl (paE rfl (aD (uE T) hr rfl rfl rfl rfl (paE rfl (vn 0 rfl Z0 rfl rfl) (paE rfl ap ah))) ah)) (eN (K:=K) rfl rfl rfl (gsE rfl (au 1 cW.nd rfl Z0 Z1) (gsE rfl (au 2 cW.nd rfl Z0 Z1) (gsE rfl (au 3 cW.nd rfl Z0 Z1) cu)))))
   (ae (aI 4 cW.nd rfl Z0 Z1 rfl (B8 (xo T) T.o_Ground hr rfl rfl rfl rfl (paE rfl (ctE (hZ (K:=K) rfl) rfl T.b_list boot_list rfl rfl rfl (paE rfl (vn 1 rfl Z0 rfl rfl) ah)) (paE rfl (ctE (hZ (K:=K) rfl) rfl T.b_list boot_list rfl rfl rfl (paE rfl (vn 2 rfl Z0 rfl rfl) ah)) ah))))
   (ae (ifS (bu jp rfl (aD (Bz T) hr rfl rfl rfl rfl (paE rfl (vn 4 rfl Z0 rfl rfl) ah)) lU)
   (am (aK eBl))
   aU)
   (ae (aI 5 cW.nd rfl Z0 Z1 rfl (aD (kA T) hr rfl rfl rfl rfl (paE rfl (vn 4 rfl Z0 rfl rfl) ah)))
   (ae (iG 6 cW.nd rfl Z0 Z1 rfl (aE.of (show bT (af gX) ["_law_script","_law_cuts","_law_sayings","_law_layers","_law_ground_here","_law_some","_law_names","_law_one","_law_other","_law_first","_law_second","_law_found","_law_again"] _ ["_law_one"] []=true from by decide +kernel)) rfl rfl (cw (K:=K) rfl (aD (lL T) hr rfl rfl rfl rfl (paE rfl (vn 4 rfl Z0 rfl rfl) ah))) (fun _ _ _=>(au 0 (show(["_law_one"]:List Str).Nodup from by decide +kernel) rfl Z0 Z1)) (fun _ _ _=>j8) (fun _ _ _=>(dj (K:=K) rfl (fun _ _=>rfl) (vn 0 rfl Z0 rfl rfl) ap)))
   (ae (cA PassesOwn.never rfl rfl (cw (K:=K) rfl (aD (qk T) hr rfl rfl rfl rfl (paE rfl (vn 0 rfl Z0 rfl rfl) (paE rfl (vn 3 rfl Z0 rfl rfl) (paE rfl ap ah))))) (eN (K:=K) rfl rfl rfl (gsE rfl (au 7 cW.nd rfl Z0 Z1) (gsE rfl (au 8 cW.nd rfl Z0 Z1) cu)))
   (ae (aI 9 cW.nd rfl Z0 Z1 rfl (aD (cc T) hr rfl rfl rfl rfl (paE rfl (vn 4 rfl Z0 rfl rfl) (paE rfl (vn 7 rfl Z0 rfl rfl) ah))))
    (ae (aI 10 cW.nd rfl Z0 Z1 rfl (aD (cc T) hr rfl rfl rfl rfl (paE rfl (vn 4 rfl Z0 rfl rfl) (paE rfl (vn 8 rfl Z0 rfl rfl) ah))))
    (ae (aI 11 cW.nd rfl Z0 Z1 rfl (aD (i9 T) hr rfl rfl rfl rfl (paE rfl (vn 4 rfl Z0 rfl rfl) (paE rfl (vn 7 rfl Z0 rfl rfl) (paE rfl (vn 8 rfl Z0 rfl rfl) ah)))))
    (am (ifS (wT (orW (bu cL rfl (vn 9 rfl Z0 rfl rfl) (vn 10 rfl Z0 rfl rfl)) (orW (A6 hr rfl (vn 10 rfl Z0 rfl rfl) (aD (jZ T) hr rfl rfl rfl rfl (paE rfl (vn 5 rfl Z0 rfl rfl) (paE rfl (vn 9 rfl Z0 rfl rfl) ah)))) (j7 (A6 hr rfl (vn 9 rfl Z0 rfl rfl) (aD (jZ T) hr rfl rfl rfl rfl (paE rfl (vn 5 rfl Z0 rfl rfl) (paE rfl (vn 10 rfl Z0 rfl rfl) ah))))))))
    (am (ifS (bu jp rfl (vn 11 rfl Z0 rfl rfl) lU)
     (am (aK eBl))
     aU))
    (ae (ifS (wT (orW (fS (ef (K:=K) rfl (fun _=>rfl) (cbE (fT (K:=K) rfl) rfl T.b_isinstance boot_isinstance rfl rfl rfl (paE rfl (vn 11 rfl Z0 rfl rfl) (paE rfl (blE (v:= .ty "tuple") rfl T.b_tuple boot_tuple rfl rfl rfl) ah))))) (j7 (bu eA rfl (cbE (bV (K:=K) rfl) rfl T.b_len PySem.boot_len rfl rfl rfl (paE rfl (vn 11 rfl Z0 rfl rfl) ah)) ap))))
     (am (aK eBl))
     aU)
     (ae (ifS (fS (ef (K:=K) rfl (fun _=>rfl) (aD (eF T) hr rfl rfl rfl rfl (paE rfl (cn (K:=K) rfl (fun _ _=>rfl) (vn 11 rfl Z0 rfl rfl) ap) (paE rfl (vn 6 rfl Z0 rfl rfl) (paE rfl (vn 5 rfl Z0 rfl rfl) (paE rfl (vn 9 rfl Z0 rfl rfl) (paE rfl (vn 10 rfl Z0 rfl rfl) ah))))))))
     (am (aK eBl))
     aU)
     (ae (ifS (fS (ef (K:=K) rfl (fun _=>rfl) (aD (eF T) hr rfl rfl rfl rfl (paE rfl (cn (K:=K) rfl (fun _ _=>rfl) (vn 11 rfl Z0 rfl rfl) ap) (paE rfl (vn 6 rfl Z0 rfl rfl) (paE rfl (vn 5 rfl Z0 rfl rfl) (paE rfl (vn 10 rfl Z0 rfl rfl) (paE rfl (vn 9 rfl Z0 rfl rfl) ah))))))))
     (am (aK eBl))
     aU)
     (ae (bD rfl (B2 (K:=K) rfl plainAttrs_list PySem.F.slot_list_clear PySem.F.type_list_clear yL rfl rfl (cn (K:=K) rfl (fun _ _=>rfl) (vn 11 rfl Z0 rfl rfl) ap)))
     (ae (bD rfl (bmE (K:=K) rfl plainAttrs_list PySem.F.slot_list_append PySem.F.type_list_append aV rfl rfl rfl rfl (cn (K:=K) rfl (fun _ _=>rfl) (vn 11 rfl Z0 rfl rfl) ap) (paE rfl dh ah)))
     (ae (aI 12 cW.nd rfl Z0 Z1 rfl (aD (i9 T) hr rfl rfl rfl rfl (paE rfl (vn 4 rfl Z0 rfl rfl) (paE rfl (vn 7 rfl Z0 rfl rfl) (paE rfl (vn 8 rfl Z0 rfl rfl) ah)))))
     (ae (ifS (fS (ef (K:=K) rfl (fun _=>rfl) (aD (eF T) hr rfl rfl rfl rfl (paE rfl (cn (K:=K) rfl (fun _ _=>rfl) (vn 12 rfl Z0 rfl rfl) ap) (paE rfl (vn 6 rfl Z0 rfl rfl) (paE rfl (vn 5 rfl Z0 rfl rfl) (paE rfl (vn 9 rfl Z0 rfl rfl) (paE rfl (vn 10 rfl Z0 rfl rfl) ah))))))))
     (am (aK eBl))
     aU)
     (am (ifS (fS (ef (K:=K) rfl (fun _=>rfl) (aD (eF T) hr rfl rfl rfl rfl (paE rfl (cn (K:=K) rfl (fun _ _=>rfl) (vn 12 rfl Z0 rfl rfl) ap) (paE rfl (vn 6 rfl Z0 rfl rfl) (paE rfl (vn 5 rfl Z0 rfl rfl) (paE rfl (vn 10 rfl Z0 rfl rfl) (paE rfl (vn 9 rfl Z0 rfl rfl) ah))))))))
     (am (aK eBl))
     aU)))))))))))))))
   (am (aK eBl))))))))),?_⟩
  show bg _ _ _ [some (.ref a),none,none,none,none,none,none,none,none,none,none,none,none] H;refine aj fun D1 k1 _=>?_
  walk_at "rd";refine⟨a,ns,43,rfl,hs,by lia,by decide,by decide,fun l0 H0 xs s0 f0 h0 hx hb=>?_⟩;walk_at "rd";refine⟨l0,xs,rfl,SqL.of h0,fun H' sm=>SqL.of (sm _ _ h0),hx,hb,fun t l1 l2 l3 H1 ds qs s1 ft f1 f2 f3 n12 n13 n23 ht h1 h2 h3 d1 d3 hdo hnd hca hsa hq hnk hnl=>?_⟩;walk_at "rd";refine⟨_,SqT.of ht,rfl,_,_,rfl,_,_,rfl,_,_,rfl,rfl,k1 _ _ (aj fun D3 k3 _=>?_)⟩;have nm:((dcs ds).map fun p=>p.2.1).Nodup:=by
   unfold dcs;rw[Yj];exact hnd
  have dl:(dcs ds).length=ds.length:=by unfold dcs;rw[Z5]
  have sub:∀ls:List Str,ls.Perm ((dcs ds).flatMap lyr)->∀x,x∈ls↔x∈(ds.flatMap fun p=>(fD p.2).map (·.1)):=fun ls pl x=>by rw[rY pl,u4 hdo]
  have few:∀p∈dcs ds,uz p.2.2:=fun p hp=>by
   unfold dcs at hp;obtain⟨d,hd,rfl⟩:=X9 hp;exact xc (hdo d hd).2.2.2.2.2
  have ly:((dcs ds).flatMap lyr).length<=60:=by
   have:=STab.nodup_sub (ja nm (.refl _)) fun x hx=>(sub _ (.refl _) x).mp hx
   lia
  have P1:lR H1 (dcs ds) qs:=⟨hca,nm,by lia,by lia,few,ly,fun ls p q hq'=>⟨(hsa q hq').1,(hsa q hq').2.mono fun x=>(sub ls p x).mpr⟩,by lia⟩
  generalize (ds.flatMap fun p=>(fD p.2).map (·.1))=N at h3 sub hnl
  walk_at "rd";refine⟨_,.inl (SqL.of h1),fun a1 fa1=>⟨_,.inl (SqL.of (ac.upd fa1 _ _ h2)),fun b1 fb1=>?_⟩⟩;have t1:=ac.upd (o:= .lst (bU (dcs ds))) fa1;have ga1:upd H1 a1 (.lst (bU (dcs ds))) a1=some (.lst (bU (dcs ds))):=aa
  generalize upd H1 a1 (.lst (bU (dcs ds)))=H2 at t1 ga1 fb1 ⊢
  have t2:=ac.upd (o:= .lst (qs.map fun q=>V.ref q.1)) fb1;have gb1:upd H2 b1 (.lst (qs.map fun q=>V.ref q.1)) b1=some (.lst (qs.map fun q=>V.ref q.1)):=aa;have ga2:=t2 _ _ ga1
  generalize upd H2 b1 (.lst (qs.map fun q=>V.ref q.1))=H3 at t2 gb1 ga2 ⊢
  have t13:=t1.trans t2;refine fun g dx fg fdx ngd=>zy fg fdx ga2 gb1 (P1.up t13) fun H4 ls ts t4 gr pl=>k3 _ _ (aj fun D4 k4 r4=>?_)
  have t14:=t13.trans t4;have lsn:=sub ls pl;walk_at "rd";refine⟨g,qs,ls,ts,rfl,gr,fun H5 lk v t5 hlk hv=>?_⟩;rcases hv with⟨nr,rfl⟩|⟨⟨r,rfl⟩,_⟩
  ·rw[if_neg (by simp)];refine k4 _ _ (aj fun D5 k5 _=>?_);obtain⟨c2,c3,c4,grf⟩:=gr.gr;have ll:=gr.ll;walk_at "rd";refine⟨g,c2,c3,c4,qs,ls,ts,rfl,grf.up t5,gr.nd,gr.so,by lia,gr.tl,gr.t3,fun so H6 ss t6 fso hso tu hlk6 sl=>k5 _ _ (aj fun D6 k6 _=>aP fun Kont hK=>?_)⟩;obtain rfl:=hlk.one hlk6;have t56:=t5.trans t6;walk_at "rd";refine⟨g,c2,c3,c4,qs,ls,ts,rfl,grf.up t56,gr.nd,gr.so,by lia,fun dl H7 gs t7 fdl hdl la _ ⟨r,hr',ed⟩ hgl=> .inl ⟨dl,rfl,⟨_,SqL.of hdl⟩,hK _ _ fun nl fnl=>?_⟩⟩;have sg:gs.length=(grp r ls).length:=by
    have:=congrArg List.length ed;rwa[Z5,Z5]at this
   refine bC (J:=Itl K dl) (n:=gs.length) (D:=nl) (fun j vs σ H'=>(∃o1,σ=[o1])/\ac H7 H'/\H' nl=some (.lst vs)/\vs=(((grp r ls).take j).map (·.1)).map V.str)
    ⟨⟨none,rfl⟩,ac.upd fnl,aa,rfl⟩ (fun j _ _ H' hj ⟨_,sm,_⟩=>⟨_,V.ref gs[j].1,SqL.of (sm _ _ hdl),by simp[hj]⟩) (fun _ _ H' ⟨_,sm,_⟩=>⟨_,SqL.of (sm _ _ hdl),by simp⟩) ?_ ?_
   ·rintro j vs σ H3 hj ⟨⟨o1,rfl⟩,s3,hFv,hv⟩ x H4 ⟨e2,hx⟩;subst e2;have hxi:=hx _ (SqL.of (s3 _ _ hdl));rw[Zk,Z4 hj]at hxi;obtain rfl:x=V.ref gs[j].1:=(Z9 hxi).symm;have jg:j<(grp r ls).length:=by lia
    have e2:gs[j].2=(grp r ls)[j].2:=by
     have:=congrArg (fun z=>z[j]?) ed;simpa [hj,jg]using this
    have hd:=qg gr.so hr' (Y6 jg);walk_at "rd";refine⟨_,SqL.of (s3 _ _ (la _ (Y6 hj))),_,(show atI (gs[j].2.map V.str) ((0:Nat):Int)=some (.str (grp r ls)[j].1)from ci (by rw[Zk,e2,hd];rfl)),?_⟩;refine CK.mk hj hFv (by rw[hv,Z5,Z5,Yd];exact aH (by lia)) ⟨⟨_,rfl⟩,ac.set s3 fnl,aa,?_⟩;rw[hv,Yx,Z4 jg,Zc,Zc];rfl
   rintro vs σ H8 ⟨_,t8,hnl,hv⟩;rw[Zm (by lia)]at hv;rw[hv]at hnl;have nms:xy (be qs) ls ((grp r ls).map (·.1)):=⟨gP gr.nd,fun x=>by
    rw[gO];exact⟨fun h=>⟨h.1,by have:=(hr' x h.1).2;rwa[h.2]at this⟩,fun h=>⟨h.1,(hr' x h.1).2.one h.2⟩⟩⟩
   have nso:((grp r ls).map (·.1)).Pairwise (fun a b=>aR b a=false):=by
    unfold grp;rw[Yj,show((fun x:Str×List Str=>x.1) ∘ fun z=>(z,List.filter (fun x=>decide (r x=z)) ls))=id from rfl,map_id];exact gr.so.sublist List.filter_sublist
   generalize (grp r ls).map (·.1)=nm2 at hnl nms nso
   have t78:=t7.trans t8;have t58:=t56.trans t78;have t18:=t14.trans t58;refine k6 _ _ (aj fun D7 k7 _=>av fun Kont hK=>?_);walk_at "rd";refine⟨a,l3,16,ns,N,rfl,xJ hs (s0.trans (s1.trans t18)),t18 _ _ h3,by lia,by lia,by decide,fun pr H9 ps t9 _ hpr hps=> .inl ⟨pr,rfl,⟨_,SqL.of hpr⟩,hK _ _ ?_⟩⟩;have t59:=t58.trans t9;have ask:lM mg H9 g qs ls ts (ss.map (·.2)):=⟨gr.up t59,hlk,nr⟩
   have grf9:=grf.up t59;have t79:=t78.trans t9;have hso:=t79 _ _ hso;have hnl:=t9 _ _ hnl;have la9:cJ H9 nm2 ss:=(i7 tu (gr.names hlk nms)).up t79;refine bd (xs:=ps.map fun p=>V.ref p.1) (fun i σ H'=>(∃o7 o8 o9 o10 o11 o12,σ=[some (.ref a),some (.ref l1),some (.ref l2),some (.ref l3),some (.ref g),some (.ref so),some (.ref nl),o7,o8,o9,o10,o11,o12])/\ac H9 H')
    ⟨⟨_,_,_,_,_,_,rfl⟩,fun _ _ e=>e⟩ (fun i σ H' _ h=>SqL.of (h.2 _ _ hpr)) ?_ ?_
   ·rintro i v σ H' hv ⟨⟨o7,o8,o9,o10,o11,o12,rfl⟩,sm⟩;rw[Zk]at hv;obtain⟨p,hp,rfl⟩:=map_eq_some_iff.mp hv;obtain⟨htu,hx,hy⟩:=hps p (Z7 hp);have hx:=(lsn _).mpr hx;have hy:=(lsn _).mpr hy;refine⟨_,SqT.of (sm _ _ htu),rfl,_,_,rfl,_,_,rfl,rfl,?_⟩
    generalize p.2.1=x at hx ⊢
    generalize p.2.2=y at hy ⊢
    show bg _ _ _ [some (.ref a),some (.ref l1),some (.ref l2),some (.ref l3),some (.ref g),some (.ref so),some (.ref nl),some (.str x),some (.str y),o9,o10,o11,o12] H';refine aj fun D8 k8 _=>?_
    walk_at "rd";refine⟨g,c2,c3,c4,qs,ls,ts,x,rfl,grf9.up sm,gr.nd,gr.so,by lia,hx,fun H10 m1 s10 hm1=>k8 _ _ (aj fun D9 k9 _=>?_)⟩;have sm10:=sm.trans s10;walk_at "rd";refine⟨g,c2,c3,c4,qs,ls,ts,y,rfl,grf9.up sm10,gr.nd,gr.so,by lia,hy,fun H11 m2 s11 hm2=>k9 _ _ (aj fun D10 k10 _=>?_)⟩;have sm11:=sm10.trans s11;walk_at "rd";refine⟨g,qs,ls,ts,_,x,y,rfl,ask.up sm11,hx,hy,fun b1 b2 hb1 hb2=>?_⟩;obtain rfl:=hb1.one hm1;obtain rfl:=hb2.one hm2;have m1n:b1∈nm2:=(nms.mem _).mpr ⟨hm1.1.within (dq grf.sa) hx,c6 hm1 hm1.1⟩;have m2n:b2∈nm2:=(nms.mem _).mpr ⟨hm2.1.within (dq grf.sa) hy,c6 hm2 hm2.1⟩;have ins:∀{R:List Str} {g:Str->V} {y:Str},(bO (VD R g) (Sum.inr y)).isSome=true↔y∈R:=fun{R g y}=>by
     by_cases c:y∈R
     ·rw[gj c];exact⟨fun _=>c,fun _=>rfl⟩
     ·rw[gQ c];exact⟨fun q=>(nomatch q),fun q=>absurd q c⟩
    refine⟨fun H12 s12 rel=>k10 _ _ (aB fun D11 k11 _=>?_),fun t q1 q2 H12 L1 L2 s12 f1 f2 n12 ht hq1 hq2 nb r12 r21 o1 o2=>k10 _ _ (aB fun D11 k11 _=>?_)⟩
    ·walk_at "rd";have sm12:=sm11.trans s12;refine bw (fun _=>?_) fun h1=>⟨so,b1,nm2,ss,rfl,sm12 _ _ hso,la9.up sm12,sl,fun d H13 R _ s13 hd hR=>⟨d,rfl,_,cf.k (k:=Sum.inr b2) hd,bw (fun _=>?_) fun h2=>?_⟩⟩
     ·rw[if_neg (by simp)];exact k11 _ _ ⟨⟨_,_,_,_,_,_,rfl⟩,sm12⟩
     ·rw[if_neg (by simp)];exact k11 _ _ ⟨⟨_,_,_,_,_,_,rfl⟩,sm12.trans s13⟩
     have sm13:=sm12.trans s13;refine⟨so,b2,nm2,ss,rfl,sm13 _ _ hso,la9.up sm13,sl,fun d H14 R' _ s14 hd hR'=>⟨d,rfl,_,cf.k (k:=Sum.inr b1) hd,bw (fun _=>?_) fun h3=>?_⟩⟩
     ·rw[if_neg (by simp)];exact k11 _ _ ⟨⟨_,_,_,_,_,_,rfl⟩,sm13.trans s14⟩
     ·exact(rel.elim (fun c=>h1 (Ze c)) fun c=>c.elim (fun c=>h2 (ins.mpr ((hR _).mpr c))) fun c=>h3 (ins.mpr ((hR' _).mpr c))).elim
    ·have ord:∀{H':Hp} {q:Addr} {L:List Str} {c e:Str} {Qk:VK},ac H9 H'->H' q=some (.lst (L.map V.str))->sN (be qs) ls (ss.map (·.2)) c e L->c∈nm2->e∈nm2->(∀H2,ac H' H2->Qk (.bl true) H2)->ql [.ref q,.ref nl,.ref so,.str c,.str e] H' Qk E0:=fun{H' q L c e Qk} s hq o hc he kk'=>by
      have Ll:=STab.nodup_sub o.nd fun x hx=>((o.mem x).mp hx).1
      exact⟨q,nl,so,L,nm2,ss,c,e,rfl,hq,s _ _ hnl,s _ _ hso,la9.up s,nms.nd,nso,o.nd,by lia,fun x=>(o.mem x).trans (nms.mem x).symm,hc,he,o.ord,kk'⟩
     walk_at "rd";have sm12:=sm11.trans s12;rw[if_neg (by simpa using nb)];refine⟨so,b1,nm2,ss,rfl,sm12 _ _ hso,la9.up sm12,sl,fun d H13 R _ s13 hd hR=>⟨d,rfl,_,cf.k (k:=Sum.inr b2) hd,?_⟩⟩;rw[if_neg (fun c=>r12 ((hR _).mp (ins.mp c)))];have sm13:=sm12.trans s13;refine⟨so,b2,nm2,ss,rfl,sm13 _ _ hso,la9.up sm13,sl,fun d H14 R' _ s14 hd hR'=>⟨d,rfl,_,cf.k (k:=Sum.inr b1) hd,?_⟩⟩;rw[if_neg (fun c=>r21 ((hR' _).mp (ins.mp c)))];have s134:=s13.trans s14;have sm14:=sm12.trans s134;have ht:=s134 _ _ ht;refine⟨.type "tuple",.tup ht,true,by rfl,?_⟩;rw[if_neg (by decide)];refine⟨_,.inr ⟨_,SqT.of ht,rfl⟩,?_⟩;rw[if_neg (by simp)];refine⟨_,SqT.of ht,_,rfl,ord sm14 (s134 _ _ hq1) o1 m1n m2n fun H15 s15=>⟨true,rfl,?_⟩⟩;rw[if_neg (by simp)];refine⟨_,SqT.of (s15 _ _ ht),_,rfl,ord (sm14.trans s15) ((s134.trans s15) _ _ hq2) o2 m2n m1n fun H16 s16=>⟨true,rfl,?_⟩⟩;rw[if_neg (by simp)];have s156:=s15.trans s16;have s146:=s134.trans s156;have sm16:=sm12.trans s146;have ht:=s156 _ _ ht;have hq1:=s146 _ _ hq1;have hq2:=s146 _ _ hq2;have tq:t≠q1:=fun c=>by rw[c,hq1]at ht;cases ht
     have hq2:upd H16 q1 (.lst []) q2=_:=(ai n12.symm).trans hq2;have Ll:=STab.nodup_sub o2.nd fun x hx=>((o2.mem x).mp hx).1
     refine⟨_,SqT.of ht,_,rfl,.inl ⟨_,SqL.of hq1⟩,q1,rfl,⟨_,hq1⟩,_,SqT.of ((ai tq).trans ht),_,rfl,.inl ⟨_,SqL.of hq2⟩,q2,rfl,_,hq2,by rw[Z5];exact aH (by lia),?_⟩;have sm18:=ac.set (o:= .lst (L2.map V.str++[V.str ""])) (ac.set (o:= .lst []) sm16 (sm11.free f1)) (sm11.free f2)
     generalize upd (upd H16 q1 (.lst [])) q2 (.lst (L2.map V.str++[V.str ""]))=H18 at sm18 ⊢
     refine⟨g,qs,ls,ts,_,x,y,rfl,ask.up sm18,hx,hy,fun b3 b4 hb3 hb4=>?_⟩;rw[hb3.one hm1,hb4.one hm2];refine⟨fun H19 _ rel=>(rel.elim nb fun c=>c.elim r12 r21).elim,fun t2 q3 q4 H19 L3 L4 s19 _ _ _ ht2 hq3 hq4 _ _ _ o3 o4=>⟨t2,rfl,_,SqT.of ht2,_,rfl,ord (sm18.trans s19) hq3 o3 m1n m2n fun H20 s20=>⟨true,rfl,?_⟩⟩⟩;rw[if_neg (by simp)];have sm20:=sm18.trans (s19.trans s20);refine⟨t2,rfl,_,SqT.of (s20 _ _ ht2),_,rfl,ord sm20 (s20 _ _ hq4) o4 m2n m1n fun H21 s21=>⟨true,rfl,?_⟩⟩;rw[if_neg (by simp)];exact k11 _ _ ⟨⟨_,_,_,_,_,_,rfl⟩,sm20.trans s21⟩
   ·rintro σ H' ⟨⟨o7,o8,o9,o10,o11,o12,rfl⟩,sm⟩;refine k7 _ _ ?_;walk_at "rd";exact kk H'
  ·rw[if_pos (by simp)];exact r4 _ _ (kk H5)
end
def DI(K:PySem.W.Frag)(x:Str)(st:Stmt):Prop:=∃(f:Addr) (oc:Value) (od an:Option Addr) (sl:Array (Option Value)) (kV dc pm cd ct:Value),nsIn K mainGlobals x=some (some (.ref f))/\K.lookup f=some ⟨oc,od,.func (fnOf x x (bI st) (bi st) (af st) .none kV dc pm an cd ct),sl⟩/\codeIn K cd x=true/\keepIn K (.ref f)=true
theorem di_mk{K:PySem.W.Frag}{x:Str}{st:Stmt}{f:Addr}{oc:Value}{od an:Option Addr}{sl:Array (Option Value)}{kV dc pm cd ct:Value}(a:nsIn K mainGlobals x=some (some (.ref f)))(l:K.lookup f=some ⟨oc,od,.func (fnOf x x (bI st) (bi st) (af st) .none kV dc pm an cd ct),sl⟩)(c:codeIn K cd x=true)(k:keepIn K (.ref f)=true):DI K x st:=⟨f,oc,od,an,sl,kV,dc,pm,cd,ct,a,l,c,k⟩
theorem aw{K:PySem.W.Frag}{h:Heap}{mg:Str->Option Value}{x:Str}{st:Stmt}{ps:List Str}(X:K.In h)(G:h.Ns mainGlobals mg)(d:DI K x st)(b:∀(kV doc pm:Value) (an:Option Addr) (cdv ct:Value) (us:List Value),us.length=ps.length->bindArgs (fnOf x x (bI st) (bi st) (af st) .none kV doc pm an cdv ct) ⟨us,[]⟩=pure (ps.zip us)):aG K mg x st ps:=by
 obtain⟨f,oc,od,an,sl,kV,dc,pm,cd,ct,a,l,c,k⟩:=d;exact AV X G a l c k b
theorem all_mk{l:PySem.W.OpenLaw}{w:World}{K:PySem.W.Frag}{h:Heap}{mg:Str->Option Value}{fa f51:Addr}(X:K.In h)(G:h.Ns mainGlobals mg)(hfa:mg "law"=some (.ref fa))
 {od51 an51:Option Addr} {sl51:Array (Option Value)} {oc51 kV51 dc51 pm51 cd51 ct51:Value}
 (a1:DI K "names_by_layer" cR)
 (a2:DI K "join_deposits" dt)
 (a3:DI K "least_pointed_to" cp)
 (a4:DI K "deposits" ig)
 (a5:DI K "deposit_of" fc)
 (a6:DI K "deposit_names" ck)
 (a7:DI K "links" kr)
 (a8:DI K "links_by_later" cT)
 (a9:DI K "links_by_earlier" cq)
 (a10:DI K "grouped" jz)
 (a11:DI K "laid_in_turn" cE)
 (a12:DI K "shortest_way" dX)
 (a13:DI K "next_edge" fY)
 (a14:DI K "way_to" lA)
 (a15:DI K "ring" rC)
 (a16:DI K "shortest_ring" du)
 (a17:DI K "never_laid" ff)
 (a18:DI K "untorn_links" dY)
 (a19:DI K "standing" ik)
 (a20:DI K "two_orders" fh)
 (a21:DI K "order_with" fi)
 (a22:DI K "is_name" gH)
 (a23:DI K "rows_of" jA)
 (a24:DI K "is_row" iV)
 (a25:DI K "lies_beneath" cF)
 (a26:DI K "letters_in" dF)
 (a27:DI K "letters" jB)
 (a28:DI K "meetings" im)
 (a29:DI K "meetings_between" bK)
 (a30:DI K "check_cuts" fk)
 (a31:DI K "is_named_cut" dZ)
 (a32:DI K "is_cut" lB)
 (a33:DI K "check_sayings" dw)
 (a34:DI K "is_saying" fZ)
 (a35:DI K "is_text_among" dz)
 (a36:DI K "is_year" jD)
 (a37:DI K "layer_name" fo)
 (a38:DI K "layers_of" eE)
 (a39:DI K "ties_of_cuts" d5)
 (a40:DI K "ties_of_sayings" cG)
 (a41:DI K "_law_cell_at" eL)
 (a42:DI K "_law_row" jE)
 (a43:DI K "_law_column" fz)
 (a44:DI K "_law_sign" io)
 (a45:DI K "_law_cut" cV)
 (a46:DI K "_law_saying" fA)
 (a47:DI K "_law_ground" dH)
 (a48:DI K "_law_steps" f6)
 (a49:DI K "_law_pairs" f9)
 (a50:DI K "_law_keeps" gc)
 (a51:nsIn K mainGlobals "law"=some (some (.ref f51))) (l51:K.lookup f51=some ⟨oc51,od51,.func (fnOf "law" "law" (bI gX) (bi gX) (af gX) .none kV51 dc51 pm51 an51 cd51 ct51),sl51⟩) (c51:codeIn K cd51 "law"=true) (k51:keepIn K (.ref f51)=true)
 {u_LATER u_EARLIER u_SUPPOSED u_LONGEST_NAME u_LETTERS u_MOST_ROWS u_MOST_SIGNS u_AIR u_MOST_CUTS u_MOST_SAYINGS u_FIRST_YEAR u_LAST_YEAR:Value}
 (zb_min:nsIn K mainGlobals "min"=some none)
 (zb_max:nsIn K mainGlobals "max"=some none)
 (zb_list:nsIn K mainGlobals "list"=some none)
 (zb_set:nsIn K mainGlobals "set"=some none)
 (zb_sorted:nsIn K mainGlobals "sorted"=some none)
 (zb_len:nsIn K mainGlobals "len"=some none)
 (zb_reversed:nsIn K mainGlobals "reversed"=some none)
 (zb_all:nsIn K mainGlobals "all"=some none)
 (zb_str:nsIn K mainGlobals "str"=some none)
 (zb_isinstance:nsIn K mainGlobals "isinstance"=some none)
 (zb_enumerate:nsIn K mainGlobals "enumerate"=some none)
 (zb_zip:nsIn K mainGlobals "zip"=some none)
 (zb_tuple:nsIn K mainGlobals "tuple"=some none)
 (zb_int:nsIn K mainGlobals "int"=some none)
 (zb_bool:nsIn K mainGlobals "bool"=some none)
 (zb_range:nsIn K mainGlobals "range"=some none)
 (zb_abs:nsIn K mainGlobals "abs"=some none)
 (zg_LATER:nsIn K mainGlobals "LATER"=some (some u_LATER)) (rg_LATER:aJ (.int 0) u_LATER)
 (zg_EARLIER:nsIn K mainGlobals "EARLIER"=some (some u_EARLIER)) (rg_EARLIER:aJ (.int 1) u_EARLIER)
 (zg_SUPPOSED:nsIn K mainGlobals "SUPPOSED"=some (some u_SUPPOSED)) (rg_SUPPOSED:aJ (.str "supposed") u_SUPPOSED)
 (zg_LONGEST_NAME:nsIn K mainGlobals "LONGEST_NAME"=some (some u_LONGEST_NAME)) (rg_LONGEST_NAME:aJ (.int 8) u_LONGEST_NAME)
 (zg_LETTERS:nsIn K mainGlobals "LETTERS"=some (some u_LETTERS)) (rg_LETTERS:aJ (.str "abcdefghijklmnopqrstuvwxyz") u_LETTERS)
 (zg_MOST_ROWS:nsIn K mainGlobals "MOST_ROWS"=some (some u_MOST_ROWS)) (rg_MOST_ROWS:aJ (.int 40) u_MOST_ROWS)
 (zg_MOST_SIGNS:nsIn K mainGlobals "MOST_SIGNS"=some (some u_MOST_SIGNS)) (rg_MOST_SIGNS:aJ (.int 40) u_MOST_SIGNS)
 (zg_AIR:nsIn K mainGlobals "AIR"=some (some u_AIR)) (rg_AIR:aJ (.str ".") u_AIR)
 (zg_MOST_CUTS:nsIn K mainGlobals "MOST_CUTS"=some (some u_MOST_CUTS)) (rg_MOST_CUTS:aJ (.int 8) u_MOST_CUTS)
 (zg_MOST_SAYINGS:nsIn K mainGlobals "MOST_SAYINGS"=some (some u_MOST_SAYINGS)) (rg_MOST_SAYINGS:aJ (.int 60) u_MOST_SAYINGS)
 (zg_FIRST_YEAR:nsIn K mainGlobals "FIRST_YEAR"=some (some u_FIRST_YEAR)) (rg_FIRST_YEAR:aJ (.int (-9999)) u_FIRST_YEAR)
 (zg_LAST_YEAR:nsIn K mainGlobals "LAST_YEAR"=some (some u_LAST_YEAR)) (rg_LAST_YEAR:aJ (.int 9999) u_LAST_YEAR)
 {C_Ground:Addr}
 (zc_Ground:nsIn K mainGlobals "Ground"=some (some (.ref C_Ground)))
 (zo_Ground0:plainGet K C_Ground Str.empty=true)
 (zo_Ground1:hasDictIn K C_Ground=true)
 (zo_Ground2:plainOver K C_Ground=true)
 (zo_Ground3:findIn K (.ref C_Ground) "__setattr__"=some (some (.builtin "object.__setattr__")))
 (zn_Ground_kept_cuts:findIn K (.ref C_Ground) "kept_cuts"=some none)
 (zn_Ground_kept_sayings:findIn K (.ref C_Ground) "kept_sayings"=some none)
 (zn_Ground_kept_layers:findIn K (.ref C_Ground) "kept_layers"=some none)
 (zn_Ground_kept_ties:findIn K (.ref C_Ground) "kept_ties"=some none)
 {fi_Ground___init__:Addr} {od_Ground___init__ an_Ground___init__:Option Addr} {sl_Ground___init__:Array (Option Value)} {oc_Ground___init__ kV_Ground___init__ dc_Ground___init__ pm_Ground___init__ cd_Ground___init__ ct_Ground___init__:Value}
 (zm_Ground___init__0:findIn K (.ref C_Ground) "__init__"=some (some (.ref fi_Ground___init__)))
 (zm_Ground___init__1:K.lookup fi_Ground___init__=some ⟨oc_Ground___init__,od_Ground___init__,.func (fnOf "__init__" "Ground.__init__" (bI bB) (bi bB) (af bB) .none kV_Ground___init__ dc_Ground___init__ pm_Ground___init__ an_Ground___init__ cd_Ground___init__ ct_Ground___init__),sl_Ground___init__⟩)
 (zm_Ground___init__2:codeIn K cd_Ground___init__ "Ground.__init__"=true)
 (zm_Ground___init__3:keepIn K (.ref fi_Ground___init__)=true)
 (zm_Ground___init__4:isFn K (.ref fi_Ground___init__)=true)
 (zm_Ground___init__5:makesIn K C_Ground=true)
 (zm_Ground___init__6:keepIn K (.ref C_Ground)=true)
 {fi_Ground_sayings:Addr} {od_Ground_sayings an_Ground_sayings:Option Addr} {sl_Ground_sayings:Array (Option Value)} {oc_Ground_sayings kV_Ground_sayings dc_Ground_sayings pm_Ground_sayings cd_Ground_sayings ct_Ground_sayings:Value}
 (zm_Ground_sayings0:findIn K (.ref C_Ground) "sayings"=some (some (.ref fi_Ground_sayings)))
 (zm_Ground_sayings1:K.lookup fi_Ground_sayings=some ⟨oc_Ground_sayings,od_Ground_sayings,.func (fnOf "sayings" "Ground.sayings" (bI bF) (bi bF) (af bF) .none kV_Ground_sayings dc_Ground_sayings pm_Ground_sayings an_Ground_sayings cd_Ground_sayings ct_Ground_sayings),sl_Ground_sayings⟩)
 (zm_Ground_sayings2:codeIn K cd_Ground_sayings "Ground.sayings"=true)
 (zm_Ground_sayings3:keepIn K (.ref fi_Ground_sayings)=true)
 (zm_Ground_sayings4:isFn K (.ref fi_Ground_sayings)=true)
 {fi_Ground_layers:Addr} {od_Ground_layers an_Ground_layers:Option Addr} {sl_Ground_layers:Array (Option Value)} {oc_Ground_layers kV_Ground_layers dc_Ground_layers pm_Ground_layers cd_Ground_layers ct_Ground_layers:Value}
 (zm_Ground_layers0:findIn K (.ref C_Ground) "layers"=some (some (.ref fi_Ground_layers)))
 (zm_Ground_layers1:K.lookup fi_Ground_layers=some ⟨oc_Ground_layers,od_Ground_layers,.func (fnOf "layers" "Ground.layers" (bI bP) (bi bP) (af bP) .none kV_Ground_layers dc_Ground_layers pm_Ground_layers an_Ground_layers cd_Ground_layers ct_Ground_layers),sl_Ground_layers⟩)
 (zm_Ground_layers2:codeIn K cd_Ground_layers "Ground.layers"=true)
 (zm_Ground_layers3:keepIn K (.ref fi_Ground_layers)=true)
 (zm_Ground_layers4:isFn K (.ref fi_Ground_layers)=true)
 {fi_Ground_ties:Addr} {od_Ground_ties an_Ground_ties:Option Addr} {sl_Ground_ties:Array (Option Value)} {oc_Ground_ties kV_Ground_ties dc_Ground_ties pm_Ground_ties cd_Ground_ties ct_Ground_ties:Value}
 (zm_Ground_ties0:findIn K (.ref C_Ground) "ties"=some (some (.ref fi_Ground_ties)))
 (zm_Ground_ties1:K.lookup fi_Ground_ties=some ⟨oc_Ground_ties,od_Ground_ties,.func (fnOf "ties" "Ground.ties" (bI cg) (bi cg) (af cg) .none kV_Ground_ties dc_Ground_ties pm_Ground_ties an_Ground_ties cd_Ground_ties ct_Ground_ties),sl_Ground_ties⟩)
 (zm_Ground_ties2:codeIn K cd_Ground_ties "Ground.ties"=true)
 (zm_Ground_ties3:keepIn K (.ref fi_Ground_ties)=true)
 (zm_Ground_ties4:isFn K (.ref fi_Ground_ties)=true)
 {ta_YEAR_WORDS:Addr} {to_YEAR_WORDS:Obj} {ti_YEAR_WORDS:Array Value} {tn_YEAR_WORDS:Nat}
 (zt_YEAR_WORDS0:nsIn K mainGlobals "YEAR_WORDS"=some (some (.ref ta_YEAR_WORDS)))
 (zt_YEAR_WORDS1:K.lookup ta_YEAR_WORDS=some to_YEAR_WORDS)
 (zt_YEAR_WORDS2:to_YEAR_WORDS.cls= .type "tuple")
 (zt_YEAR_WORDS3:to_YEAR_WORDS.data= .seq ti_YEAR_WORDS tn_YEAR_WORDS)
 (zt_YEAR_WORDS4:ti_YEAR_WORDS.size<=sizeLine)
 (zt_YEAR_WORDS5:aF [.str "since",.str "by"] ti_YEAR_WORDS.toList)
 {ta_LAYER_WORDS:Addr} {to_LAYER_WORDS:Obj} {ti_LAYER_WORDS:Array Value} {tn_LAYER_WORDS:Nat}
 (zt_LAYER_WORDS0:nsIn K mainGlobals "LAYER_WORDS"=some (some (.ref ta_LAYER_WORDS)))
 (zt_LAYER_WORDS1:K.lookup ta_LAYER_WORDS=some to_LAYER_WORDS)
 (zt_LAYER_WORDS2:to_LAYER_WORDS.cls= .type "tuple")
 (zt_LAYER_WORDS3:to_LAYER_WORDS.data= .seq ti_LAYER_WORDS tn_LAYER_WORDS)
 (zt_LAYER_WORDS4:ti_LAYER_WORDS.size<=sizeLine)
 (zt_LAYER_WORDS5:aF [.str "later",.str "same"] ti_LAYER_WORDS.toList)
 :∃fd:FuncData,(∀(s:Shared) (v:Value),BindsTo s fd ⟨[v],[]⟩ [("_law_script",v)])/\∀base:Heap,K.In base->base.Ns mainGlobals mg->hJ l.prog w K mg base CX0 12 fa fd ["_law_script"] (oI K):=by
 have e:=hfa.symm.trans (mg_of X G a51);cases e;have e_Ground:=yO (mg_of X G zc_Ground);subst e_Ground;have T:Txt K mg:=⟨mg_none_of X G zb_min,
  mg_none_of X G zb_max,
  mg_none_of X G zb_list,
  mg_none_of X G zb_set,
  mg_none_of X G zb_sorted,
  mg_none_of X G zb_len,
  mg_none_of X G zb_reversed,
  mg_none_of X G zb_all,
  mg_none_of X G zb_str,
  mg_none_of X G zb_isinstance,
  mg_none_of X G zb_enumerate,
  mg_none_of X G zb_zip,
  mg_none_of X G zb_tuple,
  mg_none_of X G zb_int,
  mg_none_of X G zb_bool,
  mg_none_of X G zb_range,
  mg_none_of X G zb_abs,
  fG X G zg_LATER rg_LATER,
  fG X G zg_EARLIER rg_EARLIER,
  fG X G zg_SUPPOSED rg_SUPPOSED,
  fG X G zg_LONGEST_NAME rg_LONGEST_NAME,
  fG X G zg_LETTERS rg_LETTERS,
  fG X G zg_MOST_ROWS rg_MOST_ROWS,
  fG X G zg_MOST_SIGNS rg_MOST_SIGNS,
  fG X G zg_AIR rg_AIR,
  fG X G zg_MOST_CUTS rg_MOST_CUTS,
  fG X G zg_MOST_SAYINGS rg_MOST_SAYINGS,
  fG X G zg_FIRST_YEAR rg_FIRST_YEAR,
  fG X G zg_LAST_YEAR rg_LAST_YEAR,
  aw X G a1 (fun _ _ _ _ _ _ us hl=>match us,hl with|[_],_=>rfl),
  aw X G a2 (fun _ _ _ _ _ _ us hl=>match us,hl with|[_,_,_],_=>rfl),
  aw X G a3 (fun _ _ _ _ _ _ us hl=>match us,hl with|[_,_],_=>rfl),
  aw X G a4 (fun _ _ _ _ _ _ us hl=>match us,hl with|[_],_=>rfl),
  aw X G a5 (fun _ _ _ _ _ _ us hl=>match us,hl with|[_,_],_=>rfl),
  aw X G a6 (fun _ _ _ _ _ _ us hl=>match us,hl with|[_],_=>rfl),
  aw X G a7 (fun _ _ _ _ _ _ us hl=>match us,hl with|[_],_=>rfl),
  aw X G a8 (fun _ _ _ _ _ _ us hl=>match us,hl with|[_],_=>rfl),
  aw X G a9 (fun _ _ _ _ _ _ us hl=>match us,hl with|[_],_=>rfl),
  aw X G a10 (fun _ _ _ _ _ _ us hl=>match us,hl with|[_,_],_=>rfl),
  aw X G a11 (fun _ _ _ _ _ _ us hl=>match us,hl with|[_,_],_=>rfl),
  aw X G a12 (fun _ _ _ _ _ _ us hl=>match us,hl with|[_,_,_],_=>rfl),
  aw X G a13 (fun _ _ _ _ _ _ us hl=>match us,hl with|[_,_,_],_=>rfl),
  aw X G a14 (fun _ _ _ _ _ _ us hl=>match us,hl with|[_,_,_],_=>rfl),
  aw X G a15 (fun _ _ _ _ _ _ us hl=>match us,hl with|[_],_=>rfl),
  aw X G a16 (fun _ _ _ _ _ _ us hl=>match us,hl with|[_,_],_=>rfl),
  aw X G a17 (fun _ _ _ _ _ _ us hl=>match us,hl with|[_,_],_=>rfl),
  aw X G a18 (fun _ _ _ _ _ _ us hl=>match us,hl with|[_],_=>rfl),
  aw X G a19 (fun _ _ _ _ _ _ us hl=>match us,hl with|[_,_,_],_=>rfl),
  aw X G a20 (fun _ _ _ _ _ _ us hl=>match us,hl with|[_,_,_],_=>rfl),
  aw X G a21 (fun _ _ _ _ _ _ us hl=>match us,hl with|[_,_,_],_=>rfl),
  aw X G a22 (fun _ _ _ _ _ _ us hl=>match us,hl with|[_],_=>rfl),
  aw X G a23 (fun _ _ _ _ _ _ us hl=>match us,hl with|[_],_=>rfl),
  aw X G a24 (fun _ _ _ _ _ _ us hl=>match us,hl with|[_],_=>rfl),
  aw X G a25 (fun _ _ _ _ _ _ us hl=>match us,hl with|[_,_],_=>rfl),
  aw X G a26 (fun _ _ _ _ _ _ us hl=>match us,hl with|[_],_=>rfl),
  aw X G a27 (fun _ _ _ _ _ _ us hl=>match us,hl with|[_],_=>rfl),
  aw X G a28 (fun _ _ _ _ _ _ us hl=>match us,hl with|[_],_=>rfl),
  aw X G a29 (fun _ _ _ _ _ _ us hl=>match us,hl with|[_,_],_=>rfl),
  aw X G a30 (fun _ _ _ _ _ _ us hl=>match us,hl with|[_],_=>rfl),
  aw X G a31 (fun _ _ _ _ _ _ us hl=>match us,hl with|[_],_=>rfl),
  aw X G a32 (fun _ _ _ _ _ _ us hl=>match us,hl with|[_],_=>rfl),
  aw X G a33 (fun _ _ _ _ _ _ us hl=>match us,hl with|[_,_],_=>rfl),
  aw X G a34 (fun _ _ _ _ _ _ us hl=>match us,hl with|[_,_],_=>rfl),
  aw X G a35 (fun _ _ _ _ _ _ us hl=>match us,hl with|[_,_],_=>rfl),
  aw X G a36 (fun _ _ _ _ _ _ us hl=>match us,hl with|[_],_=>rfl),
  aw X G a37 (fun _ _ _ _ _ _ us hl=>match us,hl with|[_,_],_=>rfl),
  aw X G a38 (fun _ _ _ _ _ _ us hl=>match us,hl with|[_],_=>rfl),
  aw X G a39 (fun _ _ _ _ _ _ us hl=>match us,hl with|[_],_=>rfl),
  aw X G a40 (fun _ _ _ _ _ _ us hl=>match us,hl with|[_],_=>rfl),
  aw X G a41 (fun _ _ _ _ _ _ us hl=>match us,hl with|[_,_],_=>rfl),
  aw X G a42 (fun _ _ _ _ _ _ us hl=>match us,hl with|[_,_],_=>rfl),
  aw X G a43 (fun _ _ _ _ _ _ us hl=>match us,hl with|[_,_,_],_=>rfl),
  aw X G a44 (fun _ _ _ _ _ _ us hl=>match us,hl with|[_,_],_=>rfl),
  aw X G a45 (fun _ _ _ _ _ _ us hl=>match us,hl with|[_,_],_=>rfl),
  aw X G a46 (fun _ _ _ _ _ _ us hl=>match us,hl with|[_,_,_],_=>rfl),
  aw X G a47 (fun _ _ _ _ _ _ us hl=>match us,hl with|[_],_=>rfl),
  aw X G a48 (fun _ _ _ _ _ _ us hl=>match us,hl with|[_,_],_=>rfl),
  aw X G a49 (fun _ _ _ _ _ _ us hl=>match us,hl with|[_,_,_],_=>rfl),
  aw X G a50 (fun _ _ _ _ _ _ us hl=>match us,hl with|[_,_,_,_,_],_=>rfl),
  ⟨mg_of X G zc_Ground,zo_Ground0,zo_Ground1,zo_Ground2,zo_Ground3⟩,
  zn_Ground_kept_cuts,
  zn_Ground_kept_sayings,
  zn_Ground_kept_layers,
  zn_Ground_kept_ties,
  ⟨fi_Ground___init__,_,⟨zm_Ground___init__5,zm_Ground___init__0,zm_Ground___init__4,zm_Ground___init__6⟩,dP zm_Ground___init__1 zm_Ground___init__2 zm_Ground___init__3,(dP zm_Ground___init__1 zm_Ground___init__2 zm_Ground___init__3).binds (fun _ _ _ _ _ _ us hl=>match us,hl with|[_,_,_],_=>rfl)⟩,
  ⟨fi_Ground_sayings,_,⟨zm_Ground_sayings0,zm_Ground_sayings4,zm_Ground_sayings3⟩,dP zm_Ground_sayings1 zm_Ground_sayings2 zm_Ground_sayings3,(dP zm_Ground_sayings1 zm_Ground_sayings2 zm_Ground_sayings3).binds (fun _ _ _ _ _ _ us hl=>match us,hl with|[_],_=>rfl)⟩,
  ⟨fi_Ground_layers,_,⟨zm_Ground_layers0,zm_Ground_layers4,zm_Ground_layers3⟩,dP zm_Ground_layers1 zm_Ground_layers2 zm_Ground_layers3,(dP zm_Ground_layers1 zm_Ground_layers2 zm_Ground_layers3).binds (fun _ _ _ _ _ _ us hl=>match us,hl with|[_],_=>rfl)⟩,
  ⟨fi_Ground_ties,_,⟨zm_Ground_ties0,zm_Ground_ties4,zm_Ground_ties3⟩,dP zm_Ground_ties1 zm_Ground_ties2 zm_Ground_ties3,(dP zm_Ground_ties1 zm_Ground_ties2 zm_Ground_ties3).binds (fun _ _ _ _ _ _ us hl=>match us,hl with|[_],_=>rfl)⟩,
  wN X G zt_YEAR_WORDS0 zt_YEAR_WORDS1 zt_YEAR_WORDS2 zt_YEAR_WORDS3 zt_YEAR_WORDS4 zt_YEAR_WORDS5,
  wN X G zt_LAYER_WORDS0 zt_LAYER_WORDS1 zt_LAYER_WORDS2 zt_LAYER_WORDS3 zt_LAYER_WORDS4 zt_LAYER_WORDS5⟩
 exact⟨fnOf "law" "law" (bI gX) (bi gX) (af gX) .none kV51 dc51 pm51 an51 cd51 ct51,fun s v=> .of_eq rfl,fun base _ _=>BB (dP (st:=gX) l51 c51 k51) T⟩
theorem walk{l:PySem.W.OpenLaw}{q:Program}{loose:List Str}{XP:(Str->Option Value)->Heap->Prop}{YP:World->Heap->Prop}{d:DefRec}{K:Params->PySem.W.Frag}(hn:l.most=some 63)(hdf:d.params.defaults=[])
 (hY:∀(w:World) (h:Heap),YP w h->(K w.params).In h)
 (F:∀(w:World) (mg:Str->Option Value) (fa:Addr) (h:Heap),(K w.params).In h->h.Ns mainGlobals mg->mg d.name=some (.ref fa)->
  ∃fd:FuncData,(∀(s:Shared) (u:Value),BindsTo s fd ⟨[u],[]⟩ [("_law_script",u)])/\∀base:Heap,(K w.params).In base->base.Ns mainGlobals mg->hJ l.prog w (K w.params) mg base CX0 12 fa fd ["_law_script"] (oI (K w.params))):
 PySem.W.WalkO q loose XP YP l.row.toRowW d [] (fun f vs=>PySem.call f vs):=
 L2.walk_of (n:=63) (k:=12) (x:="_law_script") (CX:=fun _=>CX0) (sp:=fun w=>oI (K w.params)) hn (by decide) hdf ⟨rfl,by decide,by decide⟩ hY F (fun _ _ a ns hl hO hS=>⟨a,ns,rfl,hS,hO,hl,fun _=>rfl⟩) fun _ _ _ _ _ z=>z
end K43
open PySem PySem.W PyProof.Rows
set_option maxRecDepth 100000 in
theorem PySem.Challenge.cw_digbook_k43_two_orders_holds : PySem.Challenge.rw_digbook_k43_two_orders.Holds := by
 w_on;o_law;k_head;(case hw=>w_witness2)
 k_fill
 refine K43.walk (l:=PySem.Challenge.rw_digbook_k43_two_orders) rfl rfl (fun w h Y=>PySem.W.kIn_of Y) ?F
 case F=>
  intro w mg fa h KX G hmg;refine' K43.all_mk KX G hmg ?_ ?_ ?_ ?_ ?_ ?_ ?_ ?_ ?_ ?_ ?_ ?_ ?_ ?_ ?_ ?_ ?_ ?_ ?_ ?_ ?_ ?_ ?_ ?_ ?_ ?_ ?_ ?_ ?_ ?_ ?_ ?_ ?_ ?_ ?_ ?_ ?_ ?_ ?_ ?_ ?_ ?_ ?_ ?_ ?_ ?_ ?_ ?_ ?_ ?_ ?a51 ?l51 ?c51 ?k51 ?zb_min ?zb_max ?zb_list ?zb_set ?zb_sorted ?zb_len ?zb_reversed ?zb_all ?zb_str ?zb_isinstance ?zb_enumerate ?zb_zip ?zb_tuple ?zb_int ?zb_bool ?zb_range ?zb_abs ?zg_LATER ?rg_LATER ?zg_EARLIER ?rg_EARLIER ?zg_SUPPOSED ?rg_SUPPOSED ?zg_LONGEST_NAME ?rg_LONGEST_NAME ?zg_LETTERS ?rg_LETTERS ?zg_MOST_ROWS ?rg_MOST_ROWS ?zg_MOST_SIGNS ?rg_MOST_SIGNS ?zg_AIR ?rg_AIR ?zg_MOST_CUTS ?rg_MOST_CUTS ?zg_MOST_SAYINGS ?rg_MOST_SAYINGS ?zg_FIRST_YEAR ?rg_FIRST_YEAR ?zg_LAST_YEAR ?rg_LAST_YEAR ?zc_Ground ?zo_Ground0 ?zo_Ground1 ?zo_Ground2 ?zo_Ground3 ?zn_Ground_kept_cuts ?zn_Ground_kept_sayings ?zn_Ground_kept_layers ?zn_Ground_kept_ties ?zm_Ground___init__0 ?zm_Ground___init__1 ?zm_Ground___init__2 ?zm_Ground___init__3 ?zm_Ground___init__4 ?zm_Ground___init__5 ?zm_Ground___init__6 ?zm_Ground_sayings0 ?zm_Ground_sayings1 ?zm_Ground_sayings2 ?zm_Ground_sayings3 ?zm_Ground_sayings4 ?zm_Ground_layers0 ?zm_Ground_layers1 ?zm_Ground_layers2 ?zm_Ground_layers3 ?zm_Ground_layers4 ?zm_Ground_ties0 ?zm_Ground_ties1 ?zm_Ground_ties2 ?zm_Ground_ties3 ?zm_Ground_ties4 ?zt_YEAR_WORDS0 ?zt_YEAR_WORDS1 ?zt_YEAR_WORDS2 ?zt_YEAR_WORDS3 ?zt_YEAR_WORDS4 ?zt_YEAR_WORDS5 ?zt_LAYER_WORDS0 ?zt_LAYER_WORDS1 ?zt_LAYER_WORDS2 ?zt_LAYER_WORDS3 ?zt_LAYER_WORDS4 ?zt_LAYER_WORDS5
  any_goals (refine' K43.di_mk ?a ?l ?c ?k;(case a=>k_is);(case l=>k_is);(case c=>k_is);(case k=>k_is))
  (case a51=>k_is)
  (case l51=>k_is)
  (case c51=>k_is)
  (case k51=>k_is)
  (case zb_min=>k_is)
  (case zb_max=>k_is)
  (case zb_list=>k_is)
  (case zb_set=>k_is)
  (case zb_sorted=>k_is)
  (case zb_len=>k_is)
  (case zb_reversed=>k_is)
  (case zb_all=>k_is)
  (case zb_str=>k_is)
  (case zb_isinstance=>k_is)
  (case zb_enumerate=>k_is)
  (case zb_zip=>k_is)
  (case zb_tuple=>k_is)
  (case zb_int=>k_is)
  (case zb_bool=>k_is)
  (case zb_range=>k_is)
  (case zb_abs=>k_is)
  (case zg_LATER=>k_is)
  (case rg_LATER=>exact⟨_,rfl⟩)
  (case zg_EARLIER=>k_is)
  (case rg_EARLIER=>exact⟨_,rfl⟩)
  (case zg_SUPPOSED=>k_is)
  (case rg_SUPPOSED=>exact⟨_,rfl⟩)
  (case zg_LONGEST_NAME=>k_is)
  (case rg_LONGEST_NAME=>exact⟨_,rfl⟩)
  (case zg_LETTERS=>k_is)
  (case rg_LETTERS=>exact⟨_,rfl⟩)
  (case zg_MOST_ROWS=>k_is)
  (case rg_MOST_ROWS=>exact⟨_,rfl⟩)
  (case zg_MOST_SIGNS=>k_is)
  (case rg_MOST_SIGNS=>exact⟨_,rfl⟩)
  (case zg_AIR=>k_is)
  (case rg_AIR=>exact⟨_,rfl⟩)
  (case zg_MOST_CUTS=>k_is)
  (case rg_MOST_CUTS=>exact⟨_,rfl⟩)
  (case zg_MOST_SAYINGS=>k_is)
  (case rg_MOST_SAYINGS=>exact⟨_,rfl⟩)
  (case zg_FIRST_YEAR=>k_is)
  (case rg_FIRST_YEAR=>exact⟨_,rfl⟩)
  (case zg_LAST_YEAR=>k_is)
  (case rg_LAST_YEAR=>exact⟨_,rfl⟩)
  (case zc_Ground=>k_is)
  (case zo_Ground0=>k_is)
  (case zo_Ground1=>k_is)
  (case zo_Ground2=>k_is)
  (case zo_Ground3=>k_is)
  (case zn_Ground_kept_cuts=>k_is)
  (case zn_Ground_kept_sayings=>k_is)
  (case zn_Ground_kept_layers=>k_is)
  (case zn_Ground_kept_ties=>k_is)
  (case zm_Ground___init__0=>k_is)
  (case zm_Ground___init__1=>k_is)
  (case zm_Ground___init__2=>k_is)
  (case zm_Ground___init__3=>k_is)
  (case zm_Ground___init__4=>k_is)
  (case zm_Ground___init__5=>k_is)
  (case zm_Ground___init__6=>k_is)
  (case zm_Ground_sayings0=>k_is)
  (case zm_Ground_sayings1=>k_is)
  (case zm_Ground_sayings2=>k_is)
  (case zm_Ground_sayings3=>k_is)
  (case zm_Ground_sayings4=>k_is)
  (case zm_Ground_layers0=>k_is)
  (case zm_Ground_layers1=>k_is)
  (case zm_Ground_layers2=>k_is)
  (case zm_Ground_layers3=>k_is)
  (case zm_Ground_layers4=>k_is)
  (case zm_Ground_ties0=>k_is)
  (case zm_Ground_ties1=>k_is)
  (case zm_Ground_ties2=>k_is)
  (case zm_Ground_ties3=>k_is)
  (case zm_Ground_ties4=>k_is)
  (case zt_YEAR_WORDS0=>k_is)
  (case zt_YEAR_WORDS1=>k_is)
  (case zt_YEAR_WORDS2=>rfl)
  (case zt_YEAR_WORDS3=>rfl)
  (case zt_YEAR_WORDS4=>decide)
  (case zt_YEAR_WORDS5=>exact .cons ⟨_,rfl⟩ (.cons ⟨_,rfl⟩ (.nil)))
  (case zt_LAYER_WORDS0=>k_is)
  (case zt_LAYER_WORDS1=>k_is)
  (case zt_LAYER_WORDS2=>rfl)
  (case zt_LAYER_WORDS3=>rfl)
  (case zt_LAYER_WORDS4=>decide)
  (case zt_LAYER_WORDS5=>exact .cons ⟨_,rfl⟩ (.cons ⟨_,rfl⟩ (.nil)))
