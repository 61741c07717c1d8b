import PyProof.Rows.All
import Wide.All
import OpenK.AllK
import Wide.FinOn
import Lean
import PyProof.EqAt
import PyProof.EqKinds
import PyProof.TupleCall
import PyProof.NeKinds
import PyProof.ConsumeWalk
import PyProof.ZipIter
import PyProof.EnumMake
import PyProof.EnumFor
import PyProof.StrWalks
import PyProof.ListStr
import PyProof.SliceStr2
import PyProof.StrBlockI
import PyProof.Rows.StrWeight2
import PyProof.Rows.ZipGen
import PyProof.Rows.StrIndexOr
import PyProof.Draws
import PyProof.RaisesStr
import PyProof.Rows.StrCountLaw
import PyProof.SumWalk
import PyProof.ReprRoads
import PyProof.ReprLen
import PyProof.CallFns
import PyProof.SumAny
import PyProof.SumAnyB
import PySem.Challenge.RW_wordrules_k39_words_and_rules_exchanged
set_option Elab.async false
set_option linter.all false
set_option maxRecDepth 100000
namespace PySem.W.Fast
def tw8723746853064619642:=0
def tw18025881003647343701:=0
def tw585049007102089409:=0
def tw9977021156021858698:=0
def tw11844428772134034782:=0
def tw15718728397428066332:=0
def tw16579096368149961428:=0
def tw12096066462639008078:=0
def tw4664366722219255867:=0
def tw9386260685988972401:=0
def tw17449957381251923342:=0
def tw756407109023253903:=0
def tw18374185804783976607:=0
def tw7268572355472927269:=0
def tw6559443928165419250:=0
def tw9331199015900210064:=0
def tw4860329025119307391:=0
def tw16823759848884597492:=0
def tw8935578112302317130:=0
def tw18253541342963222156:=0
def tw13925124590623652380:=0
def tw18413129160886745735:=0
def tw8549836915166975835:=0
def tw9174219757014121822:=0
def tw1831572149098289075:=0
def tw10331326119258123583:=0
def tw2324615270457941850:=0
def tw5854018848609833551:=0
def tw15839140230748724118:=0
def tw9627591184961015041:=0
def tw14530685409485029843:=0
def tw16362101267534584576:=0
def tw18195072567101744675:=0
def tw17036356877214826548:=0
def tw3097969526120460542:=0
def tw11503065636101754818:=0
def tw9813013302888702778:=0
def tw742449225978364967:=0
def tw8540596984449639365:=0
def tw2484340715506461286:=0
def tw8160283755941006612:=0
def tw10362460334449590982:=0
def tw8969289444360401755:=0
def tw14058475904305181335:=0
def tw9016857946688861251:=0
def tw6375545231268521783:=0
def tw3065983970641572645:=0
def tw5802744119137494822:=0
def tw17240566292241566393:=0
def tw14212035448104196590:=0
def tw4711182415079600810:=0
def tw5759872073763959700:=0
def tw2717993145548712922:=0
def tw940299157734528964:=0
def tw8568787962372824732:=0
def tw2137767411721193970:=0
def tw3311033420584091404:=0
def tw10744854232453121429:=0
def tw6971056833741629391:=0
def tw12781410783889087471:=0
def tw6340636293804974944:=0
def tw14124146294029324730:=0
def tw637789658586825954:=0
def tw3022049996027460046:=0
def tw17312531690759469205:=0
def tw9374937358203765347:=0
def tw16638778392002887383:=0
def tw3374462496457319915:=0
def tw2674879029732023228:=0
def tw14833385663490705410:=0
def tw16912395329307430740:=0
def tw10769497846395787850:=0
def tw14346308810142532114:=0
def tw8996974789758505116:=0
def tw859526945776084253:=0
def tw17214364542371841761:=0
def tw13665223290655623421:=0
def tw10569038203428998571:=0
def tw9487000718372229212:=0
def tw15824957556920081786:=0
def tw219210893734885111:=0
def tw14892639206794246499:=0
def tw14703722125451713655:=0
def tw609834873610669779:=0
def tw6987125002896417102:=0
def tw18105272388116862731:=0
def tw4263928854163246071:=0
def tw16224347291247635274:=0
def tw6496641081865115929:=0
def tw11274646697791556984:=0
def tw5189142537674828984:=0
def tw17760056964075374970:=0
def tw8697971543584072258:=0
def tw14245771071495204229:=0
def tw1653944726403954978:=0
def tw10824129722626088148:=0
def tw3110688985144290110:=0
def tw7682495646218865690:=0
def tw7450651298881810898:=0
def tw13009930347162961263:=0
def tw14119869409754380281:=0
def tw16954389730824475570:=0
def tw3511655851616065032:=0
def tw3701369845063719789:=0
def tw17302803416198444281:=0
def tw7163022962729484340:=0
def tw9395930630944698801:=0
def tw17557463072752899186:=0
def tw14852989926069044431:=0
def tw5316570030670291780:=0
def tw14049742740114908873:=0
def tw7517052615835737505:=0
def tw13326257711399845615:=0
def tw12256109539321990228:=0
def tw8671567994415483016:=0
def tw7342803103822397355:=0
def tw13041513746616128722:=0
def tw14881183797385371812:=0
def tw5168156613731262889:=0
def tw12371355514733877290:=0
def tw11726672822142240040:=0
def tw8158209996796670756:=0
def tw1084160277459315569:=0
def tw17193039507921809850:=0
def tw51489191012595807:=0
def tw16388391704869216603:=0
def tw16388240831398173895:=0
def tw10687522984421032356:=0
def tw1648468377599470680:=0
def tw12002834331165384719:=0
def tw16498178600773207514:=0
def tw9204404612657700982:=0
def tw3796079505380610531:=0
def tw10340661103592058806:=0
def tw8082005778184394537:=0
def tw12601188395268095534:=0
def tw12473376310478019587:=0
def tw14355578824197520999:=0
def tw4353555704342767380:=0
def tw4427011788790898679:=0
def tw18213733854853392149:=0
def tw652330224486375893:=0
def tw15418186707851632976:=0
def tw16127911563391325829:=0
def tw18066702904778096848:=0
def tw1084307251726666759:=0
def tw9681238749537141723:=0
def tw2199490271648394337:=0
def tw15744899760550516341:=0
def tw17944109125687072191:=0
def tw6176953306562728967:=0
def tw403764729343105161:=0
def tw4263161307871861887:=0
def tw10869252949550723571:=0
def tw12935666616743189218:=0
def tw17848526254642647122:=0
def tw11702485044178745667:=0
def tw11683369354704385455:=0
def tw2012546737613777281:=0
def tw5959549478552922471:=0
def tw1088132736498321935:=0
def tw17559516511141389553:=0
def tw8457150899773299162:=0
def tw15651912805249235355:=0
def tw13893181830608340746:=0
def tw11059493356600678962:=0
def tw5864473986306263548:=0
def tw3441374334817604283:=0
def tw29066772804188725:=0
def tw16866514037830191593:=0
def tw187800662752115400:=0
def tw2442314065015872075:=0
def tw13944722511772276243:=0
def tw5246222803657226394:=0
def tw12065400467108665850:=0
def tw10249669463976860931:=0
def tw13787225396288050447:=0
def tw13600113371026850630:=0
def tw14930577249480769678:=0
def tw12907383616979036569:=0
def tw4764394973245402701:=0
def tw5146407309851739706:=0
def tw9927587582224733933:=0
def tw14936100632363362391:=0
def tw9328068079717775960:=0
def tw58417004392182080:=0
def tw11375002380139487552:=0
def tw14702155915316300644:=0
def tw6767540418322603138:=0
def tw8183351542452454746:=0
def tw17942657098759542073:=0
def tw8125618598492937821:=0
def tw13982314481570523010:=0
def tw18313823262377031624:=0
def tw1342716465701588385:=0
def tw5476113947958233977:=0
def tw5434482310159113451:=0
def tw7565866564951463570:=0
def tw8847664581197480274:=0
def tw4661421727871440323:=0
def tw2126256491613774990:=0
def tw11839038836690624879:=0
def tw5936675890274618035:=0
def tw16753304015911283571:=0
def tw4575789458461521840:=0
def tw15597096621208901503:=0
def tw9313232837330592929:=0
def tw16991257991804794077:=0
def tw12929281134295942394:=0
def tw8792631834391528625:=0
def tw17628735335656110804:=0
def tw5728286409473334109:=0
def tw12935693172024550467:=0
def tw13797055217072852063:=0
def tw11803353431002068755:=0
def tw15238583802099593190:=0
def tw1434569413413621595:=0
def tw231203439271764622:=0
def tw5619426284818859357:=0
def tw506813353344788333:=0
def tw1409860087094969812:=0
def tw5169368252961829243:=0
def tw14655833820703662517:=0
def tw16535057128761746080:=0
def tw16342140251752269377:=0
def tw3375760653816570:=0
def tw6666297006129701960:=0
def tw12009970456188302639:=0
def tw15181741536588328615:=0
def tw18359035775439520947:=0
def tw704934713834353326:=0
def tw1706380147243519397:=0
def tw16811536709743892288:=0
def tw6137660427205773403:=0
def tw1954818468957102576:=0
def tw12325538924507020185:=0
def tw4887650123917247704:=0
def tw10009284969417662536:=0
def tw13879755349888698653:=0
def tw13091740316133096726:=0
def tw17090464437379705838:=0
def tw11242477045410206118:=0
def tw18046860367707854236:=0
def tw4546841019467825514:=0
def tw13688570909361405980:=0
def tw14348999109185111317:=0
def tw4151805034250678752:=0
def tw18160023923371247905:=0
def tw11183185492919436803:=0
def tw4048710789641770432:=0
def tw10514735185648172199:=0
def tw2229258155856611706:=0
def tw7832520481712638457:=0
def tw2159892420564049091:=0
def tw3657441386128287051:=0
def tw576980001728911085:=0
def tw11253813739765258984:=0
def tw3693300665558080788:=0
def tw2330061367013423954:=0
def tw14738616393826929551:=0
def tw4839915000838964514:=0
def tw6566809803466408285:=0
def tw1291499005147263065:=0
def tw5254298108544589230:=0
def tw2697667781793945854:=0
def tw11879116665502282041:=0
def tw17729564781347331157:=0
def tw2796102528013639116:=0
def tw12601172991363737185:=0
def tw11133565322669895314:=0
def tw12785087595798731896:=0
def tw9476146842959597480:=0
def tw94625056036740732:=0
def tw17702095827447361522:=0
def tw1051130581684701494:=0
def tw5277932284165696053:=0
def tw15234426043845421371:=0
def tw9285905568130631988:=0
def tw7624227623276192254:=0
def tw8398437688876131565:=0
def tw14454712784669040858:=0
def tw14489247500745190320:=0
def tw2455802582455003295:=0
def tw16840954048048034700:=0
def tw9416815773853512964:=0
def tw5897055507028130469:=0
def tw16587975543872790060:=0
def tw3793379212271837715:=0
def tw6981587306260405682:=0
def tw5431426642013233881:=0
def tw15165814793182455982:=0
def tw16639902652685589018:=0
def tw13404870255519470514:=0
def tw5670115421500622667:=0
def tw8012409919212271116:=0
def tw1976774287632987630:=0
end PySem.W.Fast
namespace L2
open PySem PySem.Spec PyProof.Rows
abbrev Key:=Sum Int Str
def lW:Key→Value→Bool
 | .inl k,v=>Value.isInt k v
 | .inr x,v=>Value.isStrOf x v
def JR (w:World):Key→Int
 | .inl k=>hashInt k
 | .inr x=>hashStr w x
theorem cI:∀ {k:Key} {v:Value},lW k v=true→(∃ i t,k=Sum.inl i∧v=Value.int i t)∨(∃ x t,k=Sum.inr x∧v=Value.str x t)
 | .inl i,v,h=>by
  obtain ⟨t,e⟩:=Value.isInt_shape (k:=i) (v:=v) h
  exact .inl ⟨i,t,rfl,e⟩
 | .inr x,v,h=>by
  obtain ⟨t,e⟩:=Value.isStrOf_shape (x:=x) (v:=v) h
  exact .inr ⟨x,t,rfl,e⟩
theorem uY (i:Int) (t:Tok):lW (.inl i) (.int i t)=true:=by simp [lW,Value.isInt]
theorem uX (x:Str) (t:Tok):lW (.inr x) (.str x t)=true:=by simp [lW,Value.isStrOf]
theorem Hq (a b:Int):decide ((Sum.inl a:Key)=Sum.inl b)=(a == b):=by
 by_cases e:a=b
 ·subst e; simp
 ·have h:¬ (Sum.inl a:Key)=Sum.inl b:=fun q=>e (Sum.inl.inj q)
  rw [decide_eq_false h]
  exact (beq_eq_false_iff_ne.mpr e).symm
theorem Hl (a b:Str):decide ((Sum.inr a:Key)=Sum.inr b)=decide (a=b):=by
 by_cases e:a=b
 ·subst e; simp
 ·have h:¬ (Sum.inr a:Key)=Sum.inr b:=fun q=>e (Sum.inr.inj q)
  rw [decide_eq_false h,decide_eq_false e]
theorem Ho (a:Int) (b:Str):decide ((Sum.inl a:Key)=Sum.inr b)=false:=decide_eq_false (fun q=>nomatch q)
theorem Hm (a:Str) (b:Int):decide ((Sum.inr a:Key)=Sum.inl b)=false:=decide_eq_false (fun q=>nomatch q)
def cX (prog:Program) (w:World):PySem.KeyKind prog w Key where
 is:=lW
 hash:=JR w
 inj:=fun v a b ha hb=>by
  rcases cI ha with ⟨i,t,rfl,rfl⟩ | ⟨x,t,rfl,rfl⟩
  ·rcases cI hb with ⟨j,u,rfl,e⟩ | ⟨y,u,rfl,e⟩
   ·injection e with e1 _; rw [e1]
   ·exact nomatch e
  ·rcases cI hb with ⟨j,u,rfl,e⟩ | ⟨y,u,rfl,e⟩
   ·exact nomatch e
   ·injection e with e1 _; rw [e1]
 byValue:=fun k v h=>by
  rcases cI h with ⟨i,t,rfl,rfl⟩ | ⟨x,t,rfl,rfl⟩ <;> rfl
 pyHash:=fun hv h=>by
  rcases cI hv with ⟨i,t,rfl,rfl⟩ | ⟨x,t,rfl,rfl⟩
  ·exact wpAny_pyHash_int h
  ·exact wpAny_pyHash_str h
 eqBool:=fun hu hv h=>by
  rcases cI hu with ⟨i,t,rfl,rfl⟩ | ⟨x,t,rfl,rfl⟩
  ·rcases cI hv with ⟨j,u,rfl,rfl⟩ | ⟨y,u,rfl,rfl⟩
   ·rw [Hq] at h; exact wpAny_eqBool_int h
   ·rw [Ho] at h; exact SeqAt.EqAt.int_str i t y u _ _ _ _ h
  ·rcases cI hv with ⟨j,u,rfl,rfl⟩ | ⟨y,u,rfl,rfl⟩
   ·rw [Hm] at h; exact SeqAt.EqAt.str_int x t j u _ _ _ _ h
   ·rw [Hl] at h; exact wpAny_eqBool_str h
 «strs»:=fun k x t v h=>by
  rcases cI h with ⟨i,u,rfl,e⟩ | ⟨y,u,rfl,e⟩
  ·exact nomatch e
  ·injection e with e1 _
   subst e1
   cases v <;> rfl
theorem rX (prog:Program) (w:World) (i:Int) (t:Tok):(cX prog w).is (.inl i) (.int i t)=true:=uY i t
theorem rW (prog:Program) (w:World) (x:Str) (t:Tok):(cX prog w).is (.inr x) (.str x t)=true:=uX x t
end L2
namespace L2
open PySem PySem.Spec PyProof.Rows
inductive V where
 | non | bl (b:Bool) | int (i:Int) | str (x:Str) | byt (b:Array UInt8) | flt (b:UInt64) | ref (a:Addr) | ty (n:String)
 deriving DecidableEq
def RelV:V→Value→Prop
 | .non,u=>u=Value.none
 | .bl b,u=>u=Value.bool b
 | .int i,u=>∃ t,u=Value.int i t
 | .str x,u=>∃ t,u=Value.str x t
 | .byt b,u=>∃ t,u=Value.bytes b t
 | .flt b,u=>∃ t,u=Value.float b t
 | .ref a,u=>u=Value.ref a
 | .ty n,u=>u=Value.type n
abbrev Vals:List V→List Value→Prop:=Paired RelV
theorem Vals.length {xs:List V} {us:List Value} (r:Vals xs us):xs.length=us.length:=Paired.length r
theorem Vals.get:∀ {xs:List V} {us:List Value} {i:Nat} {x:V},Vals xs us→xs[i]?=some x→∃ u,us[i]?=some u∧RelV x u
 | _,_,_,_,.nil,e=>by simp at e
 | _,_,0,_,.cons r _,e=>by simp at e; subst e; exact ⟨_,rfl,r⟩
 | _,_,i+1,x,.cons _ t,e=>by
  obtain ⟨u,h1,h2⟩:=Vals.get (i:=i) (x:=x) t (by simpa using e)
  exact ⟨u,by simpa using h1,h2⟩
theorem Vals.set {x:V} {u:Value} (r:RelV x u):∀ {xs:List V} {us:List Value} (i:Nat),Vals xs us→Vals (xs.set i x) (us.set i u)
 | _,_,_,.nil=>.nil
 | _,_,0,.cons _ t=>.cons r t
 | _,_,i+1,.cons q t=>.cons q (Vals.set r i t)
theorem Vals.append:∀ {xs ys:List V} {us ws:List Value},Vals xs us→Vals ys ws→Vals (xs++ys) (us++ws)
 | _,_,_,_,.nil,s=>s
 | _,_,_,_,.cons r t,s=>.cons r (Vals.append t s)
theorem Vals.take:∀ {xs:List V} {us:List Value} (n:Nat),Vals xs us→Vals (xs.take n) (us.take n)
 | _,_,0,_=>.nil
 | _,_,_+1,.nil=>.nil
 | _,_,n+1,.cons r t=>.cons r (Vals.take n t)
theorem Vals.drop:∀ {xs:List V} {us:List Value} (n:Nat),Vals xs us→Vals (xs.drop n) (us.drop n)
 | _,_,0,r=>r
 | _,_,_+1,.nil=>.nil
 | _,_,n+1,.cons _ t=>Vals.drop n t
def xx:Option V→Option Value→Prop
 | some v,some u=>RelV v u
 | none,none=>True
 | _,_=>False
def KV {κ:Type}:List (κ × V)→List (κ × Value)→Prop:=Paired fun (p:κ × V) (q:κ × Value)=>p.1=q.1∧RelV p.2 q.2
def kV:Key→V
 | .inl i=>.int i
 | .inr x=>.str x
inductive HO where
 | lst (xs:List V)
 | tup (xs:List V)
 | dK (kvs:List (Key × V)) | dT (kvs:List (List Key × V))
 | set (S:Int→Bool) (n:Nat)
 | ins (C dx:Addr) (fs:List (Str × V))
 | own (x:Addr)
 | xd (fs:List (Str × V))
 | met (f x:Addr)
 | rng (lo hi:Int)
 | frz (o:Obj) (u:HO)
 | tbl (ps:Array Value)
 | ext (φ:Heap→Prop)
abbrev Hp:=Addr→Option HO
def upd (H:Hp) (a:Addr) (o:HO):Hp:=fun b=>if b=a then some o else H b
theorem bC {H:Hp} {a:Addr} {o:HO}:upd H a o a=some o:=by unfold upd; rw [if_pos rfl]
theorem bj {H:Hp} {a b:Addr} {o:HO} (h:b≠a):upd H a o b=H b:=by unfold upd; rw [if_neg h]
theorem gy {H:Hp} {a b:Addr} {o:HO} (h:H a=some o) (h':H b=none):a≠b:=by
 intro e; subst e; rw [h] at h'; cases h'
def IsTupN (h:Heap) (a:Addr) (its:Array Value):Prop:=∃ o,h.get? a=some o∧o.cls=.type "tuple"∧∃ n,o.data=.seq its n∧o.dict=none
theorem IsTupN.tup {h:Heap} {a:Addr} {its:Array Value} (x:IsTupN h a its):IsTup h a its:=by
 obtain ⟨o,h1,h2,n,h3,_⟩:=x
 exact ⟨o,h1,h2,n,h3⟩
theorem IsTupN.lt {h:Heap} {a:Addr} {its:Array Value} (x:IsTupN h a its):a < h.objs.size:=Heap.lt_size x.choose_spec.1
theorem IsTupN.new (h:Heap) (its:Array Value):IsTupN (h.push { cls:=.type "tuple",data:=.seq its }) h.objs.size its:=⟨_,Heap.get?_push_size _ rfl,rfl,_,rfl,rfl⟩
section
variable (P:Program) (w:World)
def ObjOk (H:Hp) (h:Heap) (a:Addr):HO→Prop
 | .lst xs=>xs.length≤sizeLine∧∃ (its:List Value) (n:Nat),Vals xs its∧h.get? a=some { cls:=.type "list",data:=.seq its.toArray n }
 | .tup xs=>xs.length≤sizeLine∧∃ its:List Value,Vals xs its∧IsTupN h a its.toArray
 | .dK kvs=>kvs.length≤sizeLine∧(a == sysModules)=false∧∃ vs,KV kvs vs∧h.DictOf (cX P w) a vs
 | .dT kvs=>kvs.length≤sizeLine∧(a == sysModules)=false∧∃ xs:List (List Key × Addr × Value),
   Paired (fun (p:List Key × V) (q:List Key × Addr × Value)=>p.1=q.1∧H q.2.1=some (.tup (p.1.map kV))∧RelV p.2 q.2.2) kvs xs ∧
   ∃ o es ep,h.get? a=some o∧o.ExactDict∧o.data=.dict es ep∧es.toList=xs.map (entryOfKey (tupleKind (cX P w)))∧(xs.map (·.1)).Nodup
 | .set S n=>h.SetOf (intKind P w) a S n
 | .ins C dx fs=>H dx=some (.own a)∧fs.length≤1000∧dx≠a∧h.get? a=some (PySem.W.instObj C dx) ∧
   ∃ mA,h.Ns1 dx mA∧(∀ f,xx (fs.lookup f) (mA f))∧PySem.Within mA (fs.map (·.1))
 | .own _=>∃ o,h.get? a=some o
 | .xd fs=>∃ mA,h.Ns1 a mA∧∀ f,xx (fs.lookup f) (mA f)
 | .rng lo hi=>∃ t u v,h.get? a=some { cls:=.type "range",data:=.fields #[.int lo t,.int hi u,.int 1 v] }
 | .frz o u=>h.get? a=some o∧ObjOk H h a u
 | .tbl ps=>h.get? a=some { cls:=.none,data:=.fields ps }
 | .met f x=>h.get? a=some (PySem.W.methodObj (.ref f) (.ref x))
 | .ext φ=>φ h∧(∃ o,h.get? a=some o)∧∀ h1 h2:Heap,φ h1→(∀ o,h1.get? a=some o→h2.get? a=some o)→φ h2
def HOk (H:Hp) (h:Heap):Prop:=∀ a o,H a=some o→ObjOk P w H h a o
end
section
variable {P:Program} {w:World} {H H':Hp} {h h':Heap} {a:Addr} {o:HO}
theorem ObjOk.lt (x:ObjOk P w H h a o):a < h.objs.size:=by
 cases o with
 | lst xs=>obtain ⟨_,_,_,_,e⟩:=x; exact Heap.lt_size e
 | tup xs=>obtain ⟨_,_,_,p⟩:=x; exact p.lt
 | dK kvs=>obtain ⟨_,_,_,_,o,_,_,e,_⟩:=x; exact Heap.lt_size e
 | dT kvs=>obtain ⟨_,_,_,_,o,_,_,e,_⟩:=x; exact Heap.lt_size e
 | set S n=>obtain ⟨o,_,_,_,e,_⟩:=x; exact Heap.lt_size e
 | ins C dx fs=>obtain ⟨_,_,_,e,_⟩:=x; exact Heap.lt_size e
 | own y=>obtain ⟨_,e⟩:=x; exact Heap.lt_size e
 | xd fs=>obtain ⟨_,⟨_,_,_,e,_⟩,_⟩:=x; exact Heap.lt_size e
 | rng lo hi=>obtain ⟨_,_,_,e⟩:=x; exact Heap.lt_size e
 | frz ob u=>obtain ⟨e,_⟩:=x; exact Heap.lt_size e
 | tbl ps=>exact Heap.lt_size (show h.get? a=some _ from x)
 | met f y=>exact Heap.lt_size (show h.get? a=some _ from x)
 | ext φ=>obtain ⟨_,⟨_,e⟩,_⟩:=x; exact Heap.lt_size e
theorem Paired.mapP {α β:Type} {F G:α→β→Prop}:∀ {l₁:List α} {l₂:List β},Paired F l₁ l₂→(∀ a b,F a b→G a b)→Paired G l₁ l₂
 | _,_,.nil,_=>.nil
 | _,_,.cons r t,f=>.cons (f _ _ r) (Paired.mapP t f)
theorem ObjOk.stay (x:ObjOk P w H h a o) (k:∀ b u,(b=a∨H b=some (.own a))→h.get? b=some u→h'.get? b=some u)
  (ho:∀ b,H b=some (.own a)→H' b=some (.own a)) (ht:∀ b xs,H b=some (.tup xs)→H' b=some (.tup xs)):ObjOk P w H' h' a o:=by
 induction o with
 | lst xs=>obtain ⟨z,its,n,r,e⟩:=x; exact ⟨z,its,n,r,k _ _ (.inl rfl) e⟩
 | tup xs=>obtain ⟨z,its,r,ob,e,c⟩:=x; exact ⟨z,its,r,ob,k _ _ (.inl rfl) e,c⟩
 | dK kvs=>obtain ⟨z,y,vs,r,ob,es,ep,e,c⟩:=x; exact ⟨z,y,vs,r,ob,es,ep,k _ _ (.inl rfl) e,c⟩
 | dT kvs =>
  obtain ⟨z,y,xs,r,ob,es,ep,e,c⟩:=x
  exact ⟨z,y,xs,Paired.mapP r fun p q z=>⟨z.1,ht _ _ z.2.1,z.2.2⟩,ob,es,ep,k _ _ (.inl rfl) e,c⟩
 | set S n=>obtain ⟨ob,es,ep,t,e,c⟩:=x; exact ⟨ob,es,ep,t,k _ _ (.inl rfl) e,c⟩
 | ins C dx fs =>
  obtain ⟨d,z,ne,e,mA,⟨od,es,ep,e2,c⟩,r⟩:=x
  exact ⟨ho _ d,z,ne,k _ _ (.inl rfl) e,mA,⟨od,es,ep,k _ _ (.inr d) e2,c⟩,r⟩
 | own y=>obtain ⟨ob,e⟩:=x; exact ⟨ob,k _ _ (.inl rfl) e⟩
 | xd fs=>obtain ⟨mA,⟨od,es,ep,e,c⟩,r⟩:=x; exact ⟨mA,⟨od,es,ep,k _ _ (.inl rfl) e,c⟩,r⟩
 | rng lo hi=>obtain ⟨t,u,v,e⟩:=x; exact ⟨t,u,v,k _ _ (.inl rfl) e⟩
 | frz ob u ih=>obtain ⟨e,q⟩:=x; exact ⟨k _ _ (.inl rfl) e,ih q⟩
 | tbl ps =>
  have e:h.get? a=some { cls:=.none,data:=.fields ps }:=x
  show h'.get? a=some { cls:=.none,data:=.fields ps }
  exact k a _ (.inl rfl) e
 | met f y =>
  have e:h.get? a=some (PySem.W.methodObj (.ref f) (.ref y)):=x
  show h'.get? a=some (PySem.W.methodObj (.ref f) (.ref y))
  exact k a _ (.inl rfl) e
 | ext φ=>obtain ⟨p,⟨o,e⟩,st⟩:=x; exact ⟨st _ _ p fun o q=>k _ _ (.inl rfl) q,⟨o,k _ _ (.inl rfl) e⟩,st⟩
theorem HOk.lt (x:HOk P w H h) (e:H a=some o):a < h.objs.size:=(x a o e).lt
theorem HOk.fresh (x:HOk P w H h) (e:h.objs.size≤a):H a=none:=by
 cases q:H a with
 | none=>rfl
 | some u=>exact absurd (Nat.lt_of_lt_of_le (x.lt q) e) (Nat.lt_irrefl _)
theorem HOk.kept (x:HOk P w H h) (k:∀ b u,h.get? b=some u→h'.get? b=some u):HOk P w H h':=fun a o e =>
 (x a o e).stay (fun b u _ q=>k b u q) (fun _ q=>q) fun _ _ q=>q
theorem HOk.laid (x:HOk P w H h) (k:∀ b u,h.get? b=some u→h'.get? b=some u) (hp:h.objs.size≤a) (new:ObjOk P w (upd H a o) h' a o):HOk P w (upd H a o) h':=fun b u e=>by
 have hn:=x.fresh hp
 by_cases hb:b=a
 ·subst hb; rw [bC] at e; cases e; exact new
 ·rw [bj hb] at e
  exact (x b u e).stay (fun c v _ q=>k c v q) (fun c q=>by rw [bj (gy q hn)]; exact q) fun c xs q=>by rw [bj (gy q hn)]; exact q
end
def Rd (H:Hp) (a:Addr) (u:HO):Prop:=H a=some u∨∃ o,H a=some (.frz o u)
theorem Rd.ok {P:Program} {w:World} {H:Hp} {h:Heap} {a:Addr} {u:HO} (r:Rd H a u) (x:HOk P w H h):ObjOk P w H h a u:=by
 rcases r with r | ⟨o,r⟩
 ·exact x a u r
 ·obtain ⟨_,q⟩:=x a _ r
  exact q
def Mut:Option HO→Prop
 | some (.lst _)=>True
 | some (.dK _)=>True
 | some (.dT _)=>True
 | some (.set _ _)=>True
 | some (.ins _ _ _)=>True
 | some (.ext _)=>True
 | _=>False
section
variable {P:Program} {w:World} {H:Hp} {h h':Heap} {x e:Addr} {o':HO}
theorem HOk.write (ok:HOk P w H h) (mu:Mut (H x)) (he:e=x∨H e=some (.own x)) (k:∀ b u,b≠e→h.get? b=some u→h'.get? b=some u) (heo:∃ u,h'.get? e=some u)
  (new:ObjOk P w (upd H x o') h' x o'):HOk P w (upd H x o') h':=fun b u q=>by
 have nown:∀ c y,H c=some (.own y)→c≠x:=fun c y r z=>by subst z; rw [r] at mu; exact mu
 have ntup:∀ c xs,H c=some (.tup xs)→c≠x:=fun c xs r z=>by subst z; rw [r] at mu; exact mu
 by_cases hb:b=x
 ·subst hb; rw [bC] at q; cases q; exact new
 ·rw [bj hb] at q
  by_cases hbe:b=e
  ·have q':H b=some (.own x):=by
    rcases he with z | z
    ·exact absurd (hbe.trans z) hb
    ·rw [hbe]; exact z
   rw [q] at q'; cases q'
   obtain ⟨v,hv⟩:=heo
   exact ⟨v,by rw [hbe]; exact hv⟩
  ·refine (ok b u q).stay (fun c v hc r=>k c v ?_ r) (fun c r=>by rw [bj (nown c b r)]; exact r) fun c xs r=>by rw [bj (ntup c xs r)]; exact r
   rcases hc with rfl | hc
   ·exact hbe
   ·rintro rfl
    rcases he with z | z
    ·exact nown c b hc z
    ·rw [hc] at z; cases z; exact hb rfl
end
structure Un (fs ex:List Addr) (H H':Hp) (h h':Heap):Prop where
 keep:∀ b o,h.get? b=some o→H b=none→b ∉ fs→b ∉ ex→h'.get? b=some o
 slot:∀ b o,h.get? b=some o→H b=none→b∈fs→b ∉ ex→∃ sl,h'.get? b=some { o with slots:=sl }
 free:∀ b o,h.get? b=some o→H b=none→b ∉ ex→H' b=none
 there:∀ b o,h.get? b=some o→b ∉ ex→∃ o',h'.get? b=some o'
 tups:∀ b xs,H b=some (.tup xs)→H' b=some (.tup xs)
 frzs:∀ b o u,H b=some (.frz o u)→H' b=some (.frz o u)
 tbls:∀ b ps,H b=some (.tbl ps)→∃ more,H' b=some (.tbl (ps++more))
section
variable {fs fs' ex ex':List Addr} {H H1 H2:Hp} {h h1 h2 h':Heap} {a x e:Addr} {o:HO}
theorem Un.any (u:Un fs ex H H1 h h1) {b:Addr} {ob:Obj} (q:h.get? b=some ob) (n:H b=none) (hx:b ∉ ex):∃ sl,h1.get? b=some { ob with slots:=sl }:=by
 by_cases hb:b∈fs
 ·exact u.slot b ob q n hb hx
 ·exact ⟨ob.slots,u.keep b ob q n hb hx⟩
theorem Un.trans (a:Un fs ex H H1 h h1) (b:Un fs ex H1 H2 h1 h2):Un fs ex H H2 h h2 where
 keep:=fun c ob q n hc hx=>b.keep c ob (a.keep c ob q n hc hx) (a.free c ob q n hx) hc hx
 slot:=fun c ob q n hc hx=>by
  obtain ⟨sl,e1⟩:=a.slot c ob q n hc hx
  obtain ⟨sl',e2⟩:=b.slot c _ e1 (a.free c ob q n hx) hc hx
  exact ⟨sl',e2⟩
 free:=fun c ob q n hx=>by
  obtain ⟨o',e1⟩:=a.there c ob q hx
  exact b.free c o' e1 (a.free c ob q n hx) hx
 there:=fun c ob q hx=>by
  obtain ⟨o',e1⟩:=a.there c ob q hx
  exact b.there c o' e1 hx
 tups:=fun c xs q=>b.tups c xs (a.tups c xs q)
 frzs:=fun c ob xs q=>b.frzs c ob xs (a.frzs c ob xs q)
 tbls:=fun c ps q=>by
  obtain ⟨m1,e1⟩:=a.tbls c ps q
  obtain ⟨m2,e2⟩:=b.tbls c _ e1
  exact ⟨m1++m2,by rw [e2,Array.append_assoc]⟩
theorem Un.kept (k:∀ b u,h.get? b=some u→h'.get? b=some u):Un fs ex H H h h' :=
 ⟨fun b ob q _ _ _=>k b ob q,fun b ob q _ _ _=>⟨ob.slots,k b ob q⟩,fun _ _ _ n _=>n,fun b ob q _=>⟨ob,k b ob q⟩,fun _ _ q=>q,fun _ _ _ q=>q,fun _ ps q=>⟨#[],by rw [q]; simp⟩⟩
theorem Un.refl:Un fs ex H H h h:=Un.kept fun _ _ q=>q
theorem Un.laid (k:∀ b u,h.get? b=some u→h'.get? b=some u) (hp:h.objs.size≤a) (hn:H a=none):Un fs ex H (upd H a o) h h' where
 keep:=fun b u q _ _ _=>k b u q
 slot:=fun b u q _ _ _=>⟨u.slots,k b u q⟩
 free:=fun b u q n _=>by rw [bj (Nat.ne_of_lt (Nat.lt_of_lt_of_le (Heap.lt_size q) hp))]; exact n
 there:=fun b u q _=>⟨u,k b u q⟩
 tups:=fun b xs q=>by rw [bj (gy q hn)]; exact q
 frzs:=fun b u xs q=>by rw [bj (gy q hn)]; exact q
 tbls:=fun b ps q=>⟨#[],by rw [bj (gy q hn),q]; simp⟩
theorem Un.write (mu:Mut (H x)) (he:e=x∨H e=some (.own x)) (k:∀ b u,b≠e→h.get? b=some u→h'.get? b=some u) (heo:∃ u,h'.get? e=some u):Un fs ex H (upd H x o) h h':=by
 have hx:∀ b,H b=none→b≠x:=fun b n z=>by subst z; rw [n] at mu; exact mu
 have hb:∀ b,H b=none→b≠e:=fun b n z=>by
  subst z
  rcases he with r | r
  ·exact hx b n r
  ·rw [n] at r; cases r
 have hm:∀ b u,H b=some u→¬ Mut (some u)→b≠x:=fun b u q nm z=>by subst z; rw [q] at mu; exact nm mu
 refine ⟨fun b u q n _ _=>k b u (hb b n) q,fun b u q n _ _=>⟨u.slots,k b u (hb b n) q⟩,fun b u q n _=>by rw [bj (hx b n)]; exact n,fun b u q _=>?_,
  fun b xs q=>by rw [bj (hm b _ q fun z=>z)]; exact q,fun b u xs q=>by rw [bj (hm b _ q fun z=>z)]; exact q,fun b ps q=>⟨#[],by rw [bj (hm b _ q fun z=>z),q]; simp⟩⟩
 by_cases hbe:b=e
 ·subst hbe; exact heo
 ·exact ⟨u,k b u hbe q⟩
end
def trk (h:Heap) (H:Hp):List Addr:=(List.range h.objs.size).filter fun a=>(H a).isSome
def jo (h:Heap) (H:Hp):Heap:=PySem.W.hideAll h (trk h H)
theorem u7 (h:Heap) (H:Hp):(jo h H).objs.size=h.objs.size:=PySem.W.hideAll_size _ _
theorem qZ {h:Heap} {H:Hp} {b:Addr} {o:Obj} (e:h.get? b=some o) (n:H b=none):(jo h H).get? b=some o :=
 PySem.W.hideAll_get _ e fun hm=>by
  have q:(H b).isSome=true:=(List.mem_filter.mp hm).2
  rw [n] at q; simp at q
theorem sF {h:Heap} {H:Hp} {b:Addr} {o:Obj} (e:(jo h H).get? b=some o):h.get? b=some o∧H b=none:=by
 have e':h.get? b=some o:=PySem.W.of_hideAll (trk h H) e
 refine ⟨e',?_⟩
 cases q:H b with
 | none=>rfl
 | some x =>
  have hm:b∈trk h H:=List.mem_filter.mpr ⟨List.mem_range.mpr (Heap.lt_size e'),by simp [q]⟩
  have z:(jo h H).get? b=none:=PySem.W.hideAll_none (trk h H) hm
  rw [z] at e; cases e
def Ep (g h:Heap) (L:Addr):List (Addr × Obj):=(List.range h.objs.size).filterMap fun a=>if a=L∨(g.get? a).isSome=true then none else (h.get? a).map fun o=>(a,o)
def rest (g h:Heap) (L d:Addr):List (Addr × Obj):=(Ep g h L).filter fun p=>decide (p.1≠d)
end L2
namespace L2
open PySem PySem.Spec PyProof.Rows
structure Mod (K:PySem.W.Frag) (mg:Str→Option Value) (base:Heap):Prop where
 kin:K.In base
 glob:base.Ns mainGlobals mg
 blt:∃ mb,base.Ns builtinsNs mb∧∀ x:Str,x≠"__name__"→mb x=bootBuiltins x
 nolimit:base.NoLimit
 mods:∃ mm,base.Ns sysModules mm
structure Cx where
 prog:Program
 w:World
 K:PySem.W.Frag
 mg:Str→Option Value
 base:Heap
 A:Around
 N:List Str
 s₀:Shared
 H₀:Hp
 env:Env
 outer:List Env
 stack:List Env
 ex:List Addr
 fn:Str→Bool
 calm:Bool
 pn:List (Addr × Obj)
 xe:Value→Shared→Prop
def frs (l:List Env):List Addr:=l.filterMap (·.frame)
abbrev Cx.fs (X:Cx):List Addr:=frs X.outer
def Vis (sc:Scope) (x:Str):Prop:=sc.names.lookup x=some .local∨sc.names.lookup x=some .cell∨sc.names.lookup x=some .free
def Loc (sc:Scope) (x:Str):Prop:=sc.names.lookup x=some .local∨sc.names.lookup x=some .cell
def ID (env:Env) (h:Heap) (m:Str→Option Value) (x:Str) (u:Value):Prop :=
 (env.kindOf x=some .local∧m x=some u)∨((env.kindOf x=some .cell∨env.kindOf x=some .free)∧∃ c,env.cells.lookup x=some c∧h.IsCell c (some u))
structure Cx.Ok (X:Cx):Prop where
 mod:Mod X.K X.mg X.base
 kind:X.env.scope.kind=.function
 glob:X.env.globals=mainGlobals
 blt:X.env.builtins=builtinsNs
 above:X.s₀.heap.objs.size≤X.env.locals
 inj:∀ x y c,X.env.cells.lookup x=some c→X.env.cells.lookup y=some c→x=y
 has:∀ x,(X.env.kindOf x=some .cell∨X.env.kindOf x=some .free)→∃ c,X.env.cells.lookup x=some c
 cab:∀ x c,X.fn x=true→X.env.cells.lookup x=some c→X.s₀.heap.objs.size≤c
 hd:X.calm=true→X.A.handled=none
 frames:X.A.frames=some X.stack
 stk:X.stack=X.outer∨(X.stack=X.env :: X.outer∧X.env.frame=some X.env.locals)
 exf:∀ b∈X.ex,b≠X.env.locals∧∀ x c,X.env.cells.lookup x=some c→c≠b
 bs:∀ b o,X.base.get? b=some o→X.s₀.heap.get? b=some o∧X.H₀ b=none
 bsz:X.base.objs.size≤X.s₀.heap.objs.size
 noex:∀ b o,X.base.get? b=some o→b ∉ X.ex
 exfs:∀ b∈X.ex,b ∉ X.fs
 funs:X.s₀.heap.FunFrames X.base X.outer
 frf:∀ b∈X.fs,X.H₀ b=none
structure Inv (X:Cx) (pins:List (Addr × Obj)) (σ:List (Option V)) (H:Hp) (s:Shared):Prop where
 ok:X.Ok
 os:s.os=X.s₀.os
 bare:AllBare s.gens
 base:Un X.fs X.ex X.H₀ H X.s₀.heap s.heap
 loc:∃ m,s.heap.Ns X.env.locals m∧∀ (i:Nat) (x:Str) (v:V),X.N[i]?=some x→σ[i]?=some (some v)→Vis X.env.scope x→∃ u,RelV v u∧ID X.env s.heap m x u
 cell:∀ x c,X.env.cells.lookup x=some c→∃ v,s.heap.IsCell c v
 free:H X.env.locals=none
 freeC:∀ x c,X.env.cells.lookup x=some c→H c=none
 pin:∀ p∈X.pn++pins,s.heap.get? p.1=some p.2∧H p.1=none∧p.1≠X.env.locals∧p.1 ∉ X.fs∧∀ v,p.2.data≠.cell v
 hok:HOk X.prog X.w H s.heap
 len:σ.length=X.N.length
section
variable {X:Cx} {pins:List (Addr × Obj)} {σ:List (Option V)} {H H':Hp} {s:Shared} {h':Heap}
theorem Cx.Ok.nofr (ok:X.Ok) {b:Addr} {o:Obj} (e:X.base.get? b=some o):b ∉ X.fs:=fun hb=>by
 have:=(ok.funs.mem hb).1
 rw [e] at this; cases this
theorem Inv.bs (I:Inv X pins σ H s):∀ b o,X.base.get? b=some o→s.heap.get? b=some o∧H b=none:=fun b o e =>
 ⟨I.base.keep b o (I.ok.bs b o e).1 (I.ok.bs b o e).2 (I.ok.nofr e) (I.ok.noex b o e),I.base.free b o (I.ok.bs b o e).1 (I.ok.bs b o e).2 (I.ok.noex b o e)⟩
theorem Inv.bk (I:Inv X pins σ H s):∀ b o,X.base.get? b=some o→s.heap.get? b=some o:=fun b o e=>(I.bs b o e).1
theorem Inv.mod (I:Inv X pins σ H s):Mod X.K X.mg X.base:=I.ok.mod
theorem Inv.kIn (I:Inv X pins σ H s):X.K.In s.heap:=I.ok.mod.kin.keeps I.bk
theorem Inv.lt (I:Inv X pins σ H s):X.env.locals < s.heap.objs.size:=let ⟨_,hn,_⟩:=I.loc; hn.lt
theorem Inv.sz (I:Inv X pins σ H s):X.s₀.heap.objs.size≤s.heap.objs.size:=Nat.le_trans I.ok.above (Nat.le_of_lt I.lt)
theorem Inv.nofs (I:Inv X pins σ H s) {a:Addr} (h:s.heap.objs.size≤a):a ∉ X.fs:=fun hb=>by
 obtain ⟨_,o,ho,_⟩:=I.ok.funs.mem hb
 exact absurd (Nat.lt_of_lt_of_le (Heap.lt_size ho) (Nat.le_trans I.sz h)) (Nat.lt_irrefl _)
theorem Inv.cne (I:Inv X pins σ H s):∀ x c,X.env.cells.lookup x=some c→c≠X.env.locals:=fun x c e z=>by
 obtain ⟨v,o,ho,hd⟩:=I.cell x c e
 obtain ⟨m,⟨o',es,ep,ho',hd',_⟩,_⟩:=I.loc
 rw [z,ho'] at ho; cases ho; rw [hd'] at hd; cases hd
theorem Inv.funs (I:Inv X pins σ H s):s.heap.FunFrames X.base X.outer:=by
 have all:∀ (l:List Env),(∀ b∈frs l,b∈X.fs)→X.s₀.heap.FunFrames X.base l→s.heap.FunFrames X.base l:=by
  intro l
  induction l with
  | nil=>intro _ _; trivial
  | cons env r ih =>
   intro hs hl
   obtain ⟨hk,⟨L,o,hf,hn,ho,hd⟩,hr⟩:=hl
   have hL:L∈X.fs:=hs L (by unfold frs; rw [List.filterMap_cons,hf]; exact List.mem_cons_self)
   obtain ⟨sl,e⟩:=I.base.slot L o ho (I.ok.frf L hL) hL fun z=>I.ok.exfs L z hL
   exact ⟨hk,⟨L,_,hf,hn,e,hd⟩,ih (fun b hb=>hs b (by unfold frs; rw [List.filterMap_cons,hf]; exact List.mem_cons_of_mem _ hb)) hr⟩
 exact all X.outer (fun _ hb=>hb) I.ok.funs
theorem Inv.stack (I:Inv X pins σ H s):s.heap.FunFrames X.base X.stack:=by
 rcases I.ok.stk with e | ⟨e,hf⟩
 ·rw [e]; exact I.funs
 ·rw [e]
  obtain ⟨m,hn,_⟩:=I.loc
  refine .cons (by rw [I.ok.kind]; decide) hf hn ?_ I.funs
  exact Heap.get?_none_of_le (Nat.le_trans I.ok.bsz I.ok.above)
theorem Inv.stkSub (I:Inv X pins σ H s):∀ b∈frs X.stack,b∈X.env.locals :: X.fs:=fun b hb=>by
 rcases I.ok.stk with e | ⟨e,hf⟩
 ·rw [e] at hb; exact List.mem_cons_of_mem _ hb
 ·rw [e] at hb
  unfold frs at hb
  rw [List.filterMap_cons,hf] at hb
  exact hb
theorem Inv.stkFree (I:Inv X pins σ H s):∀ b∈frs X.stack,H b=none:=fun b hb=>by
 rcases List.mem_cons.mp (I.stkSub b hb) with e | hb
 ·rw [e]; exact I.free
 ·obtain ⟨_,o,ho,_⟩:=I.ok.funs.mem hb
  exact I.base.free b o ho (I.ok.frf b hb) fun z=>I.ok.exfs b z hb
theorem Inv.step {g':Array GenState} {t':Nat} {d':Drawn} {ch:List Addr} (I:Inv X pins σ H s)
  (hch:∀ b∈ch,(b∈X.ex∨X.s₀.heap.objs.size≤b)∧b≠X.env.locals∧(∀ x c,X.env.cells.lookup x=some c→c≠b)∧∀ p∈X.pn++pins,p.1≠b)
  (keep:∀ b o,b≠X.env.locals→b ∉ X.fs→b ∉ ch→s.heap.get? b=some o→H b=none→h'.get? b=some o)
  (slot:∀ b o,b≠X.env.locals→b∈X.fs→b ∉ ch→s.heap.get? b=some o→H b=none→∃ sl,h'.get? b=some { o with slots:=sl }) (free:∀ b o,b ∉ ch→s.heap.get? b=some o→H b=none→H' b=none)
  (there:∀ b o,b ∉ ch→s.heap.get? b=some o→∃ o',h'.get? b=some o')
  (tups:∀ b xs,H b=some (.tup xs)→H' b=some (.tup xs)) (frzs:∀ b o u,H b=some (.frz o u)→H' b=some (.frz o u)) (tbls:∀ b ps,H b=some (.tbl ps)→∃ more,H' b=some (.tbl (ps++more)))
  (ns:∀ m,s.heap.Ns X.env.locals m→h'.Ns X.env.locals m) (hok:HOk X.prog X.w H' h') (hg:AllBare g') :
  Inv X pins σ H' { s with heap:=h',gens:=g',drawn:=d',toks:=t' }:=by
 have neL:∀ b o,X.s₀.heap.get? b=some o→b≠X.env.locals:=fun b o e=>Nat.ne_of_lt (Nat.lt_of_lt_of_le (Heap.lt_size e) I.ok.above)
 have neC:∀ b o,X.s₀.heap.get? b=some o→b ∉ X.ex→b ∉ ch:=fun b o e hx hb=>by
  rcases (hch b hb).1 with z | z
  ·exact hx z
  ·exact absurd (Nat.lt_of_lt_of_le (Heap.lt_size e) z) (Nat.lt_irrefl _)
 have cellK:∀ x c,X.env.cells.lookup x=some c→∀ v,s.heap.IsCell c v→h'.IsCell c v:=fun x c e v ⟨o,ho,hd⟩=>by
  have nch:c ∉ ch:=fun z=>(hch c z).2.2.1 x c e rfl
  by_cases hc:c∈X.fs
  ·obtain ⟨sl,q⟩:=slot c o (I.cne x c e) hc nch ho (I.freeC x c e)
   exact ⟨_,q,hd⟩
  ·exact ⟨o,keep c o (I.cne x c e) hc nch ho (I.freeC x c e),hd⟩
 refine ⟨I.ok,I.os,hg,⟨fun b o e n hb hx=>?_,fun b o e n hb hx=>?_,fun b o e n hx=>?_,fun b o e hx=>?_,fun b xs e=>tups b xs (I.base.tups b xs e),fun b o xs e=>frzs b o xs (I.base.frzs b o xs e),fun b ps e=>?_⟩,?_,fun x c e=>?_,?_,fun x c e=>?_,fun p hp=>?_,hok,I.len⟩
 ·exact keep b o (neL b o e) hb (neC b o e hx) (I.base.keep b o e n hb hx) (I.base.free b o e n hx)
 ·obtain ⟨sl,e1⟩:=I.base.slot b o e n hb hx
  obtain ⟨sl',e2⟩:=slot b _ (neL b o e) hb (neC b o e hx) e1 (I.base.free b o e n hx)
  exact ⟨sl',e2⟩
 ·obtain ⟨o',e1⟩:=I.base.there b o e hx
  exact free b o' (neC b o e hx) e1 (I.base.free b o e n hx)
 ·obtain ⟨o',e1⟩:=I.base.there b o e hx
  exact there b o' (neC b o e hx) e1
 ·obtain ⟨m1,e1⟩:=I.base.tbls b ps e
  obtain ⟨m2,e2⟩:=tbls b _ e1
  exact ⟨m1++m2,by rw [e2,Array.append_assoc]⟩
 ·obtain ⟨m,hn,hl⟩:=I.loc
  refine ⟨m,ns m hn,fun i x v e1 e2 e3=>?_⟩
  obtain ⟨u,r,l⟩:=hl i x v e1 e2 e3
  refine ⟨u,r,?_⟩
  rcases l with l | ⟨k,c,e,z⟩
  ·exact .inl l
  ·exact .inr ⟨k,c,e,cellK x c e _ z⟩
 ·obtain ⟨v,z⟩:=I.cell x c e
  exact ⟨v,cellK x c e v z⟩
 ·obtain ⟨m,⟨o,_,_,ho,_⟩,_⟩:=I.loc
  exact free _ o (fun z=>(hch _ z).2.1 rfl) ho I.free
 ·obtain ⟨v,o,ho,hd⟩:=I.cell x c e
  exact free c o (fun z=>(hch c z).2.2.1 x c e rfl) ho (I.freeC x c e)
 ·obtain ⟨e,n,ne,nf,d⟩:=I.pin p hp
  have nch:p.1 ∉ ch:=fun z=>(hch p.1 z).2.2.2 p hp rfl
  exact ⟨keep p.1 p.2 ne nf nch e n,free p.1 p.2 nch e n,ne,nf,d⟩
theorem Inv.un {t':Nat} (I:Inv X pins σ H s) (u:Un X.fs [] H H' s.heap h') (hok:HOk X.prog X.w H' h'):Inv X pins σ H' { s with heap:=h',toks:=t' }:=by
 obtain ⟨m,⟨o,es,ep,ho,r⟩,_⟩:=id I.loc
 obtain ⟨sl,hL⟩:=u.any ho I.free (by simp)
 exact I.step (g':=s.gens) (d':=s.drawn) (ch:=[]) (fun _ z=>nomatch z) (fun b o _ hb _ e n=>u.keep b o e n hb (by simp)) (fun b o _ hb _ e n=>u.slot b o e n hb (by simp)) (fun b o _ e n=>u.free b o e n (by simp)) (fun b o _ e=>u.there b o e (by simp)) u.tups u.frzs u.tbls (fun m' hm=>by
  obtain ⟨o',es',ep',ho',r'⟩:=hm
  rw [ho] at ho'; cases ho'
  exact ⟨_,es',ep',hL,r'⟩) hok I.bare
theorem Inv.call {g':Array GenState} {t':Nat} {d':Drawn} {ch:List Addr} (I:Inv X pins σ H s) (u:Un (frs X.stack) ch H H' s.heap h') (hok:HOk X.prog X.w H' h') (hg:AllBare g')
  (hch:∀ b∈ch,(b∈X.ex∨X.s₀.heap.objs.size≤b)∧b≠X.env.locals∧(∀ x c,X.env.cells.lookup x=some c→c≠b)∧∀ p∈X.pn++pins,p.1≠b) :
  Inv X pins σ H' { s with heap:=h',gens:=g',drawn:=d',toks:=t' }:=by
 obtain ⟨m,⟨o,es,ep,ho,r⟩,_⟩:=id I.loc
 obtain ⟨sl,hL⟩:=u.any ho I.free fun z=>(hch _ z).2.1 rfl
 exact I.step (ch:=ch) hch (fun b o hL hb hc e n=>u.keep b o e n (fun z=>(List.mem_cons.mp (I.stkSub b z)).elim hL hb) hc) (fun b o _ _ hc e n=>u.any e n hc) (fun b o hc e n=>u.free b o e n hc) (fun b o hc e=>u.there b o e hc) u.tups u.frzs u.tbls (fun m' hm=>by
  obtain ⟨o',es',ep',ho',r'⟩:=hm
  rw [ho] at ho'; cases ho'
  exact ⟨_,es',ep',hL,r'⟩) hok hg
theorem Inv.turned {t':Nat} {it:Addr} (I:Inv X pins σ H s) (k:∀ b o,b≠it→s.heap.get? b=some o→h'.get? b=some o) (hn:H it=none) (hL:it≠X.env.locals)
  (h1:it∈X.ex∨X.s₀.heap.objs.size≤it) (h2:∀ x c,X.env.cells.lookup x=some c→c≠it) (h3:∀ p∈X.pn++pins,p.1≠it):Inv X pins σ H { s with heap:=h',toks:=t' }:=by
 have nit:∀ b u,H b=some u→b≠it:=fun b u e z=>by rw [z,hn] at e; cases e
 refine I.step (g':=s.gens) (d':=s.drawn) (ch:=[it]) (fun b hb=>?_) (fun b o _ _ hc e _=>k b o (fun z=>hc (by simp [z])) e) (fun b o _ _ hc e _=>⟨o.slots,k b o (fun z=>hc (by simp [z])) e⟩) (fun _ _ _ _ n=>n)
  (fun b o hc e=>⟨o,k b o (fun z=>hc (by simp [z])) e⟩) (fun _ _ e=>e) (fun _ _ _ e=>e) (fun b ps e=>⟨#[],by rw [e]; simp⟩) (fun m hm=>?_) (fun b u e=>?_) I.bare
 ·have e:b=it:=by simpa using hb
  subst e
  exact ⟨h1,hL,h2,h3⟩
 ·obtain ⟨o,es,ep,ho,r⟩:=hm
  exact ⟨o,es,ep,k _ o (Ne.symm hL) ho,r⟩
 ·refine (I.hok b u e).stay (fun c v hc q=>k c v ?_ q) (fun _ q=>q) fun _ _ q=>q
  rcases hc with z | z
  ·rw [z]; exact nit b u e
  ·exact nit c _ z
theorem Inv.tok (I:Inv X pins σ H s) (t:Nat):Inv X pins σ H { s with toks:=t }:=I.un (h':=s.heap) (t':=t) Un.refl I.hok
theorem Inv.kept {t':Nat} (I:Inv X pins σ H s) (k:∀ b u,s.heap.get? b=some u→h'.get? b=some u):Inv X pins σ H { s with heap:=h',toks:=t' }:=I.un (Un.kept k) (I.hok.kept k)
theorem Inv.laid {a:Addr} {o:HO} {t':Nat} (I:Inv X pins σ H s) (k:∀ b u,s.heap.get? b=some u→h'.get? b=some u) (hp:s.heap.objs.size≤a) (new:ObjOk X.prog X.w (upd H a o) h' a o) :
  Inv X pins σ (upd H a o) { s with heap:=h',toks:=t' }:=I.un (Un.laid k hp (I.hok.fresh hp)) (I.hok.laid k hp new)
theorem Inv.write {x e:Addr} {o:HO} {t':Nat} (I:Inv X pins σ H s) (mu:Mut (H x)) (he:e=x∨H e=some (.own x)) (k:∀ b u,b≠e→s.heap.get? b=some u→h'.get? b=some u) (heo:∃ u,h'.get? e=some u)
  (new:ObjOk X.prog X.w (upd H x o) h' x o):Inv X pins σ (upd H x o) { s with heap:=h',toks:=t' }:=I.un (Un.write mu he k heo) (I.hok.write mu he k heo new)
theorem Inv.pins_of {pins':List (Addr × Obj)} (I:Inv X pins σ H s) (h:∀ p∈pins',s.heap.get? p.1=some p.2∧H p.1=none∧p.1≠X.env.locals∧p.1 ∉ X.fs∧∀ v,p.2.data≠.cell v):Inv X pins' σ H s :=
 ⟨I.ok,I.os,I.bare,I.base,I.loc,I.cell,I.free,I.freeC,fun p hp=>(List.mem_append.mp hp).elim (fun z=>I.pin p (List.mem_append_left _ z)) (h p),I.hok,I.len⟩
theorem mJ {N:List Str} (hN:N.Nodup) {i j:Nat} {x:Str} (a:N[i]?=some x) (b:N[j]?=some x):i=j:=by
 obtain ⟨h1,e1⟩:=List.getElem?_eq_some_iff.mp a
 obtain ⟨h2,e2⟩:=List.getElem?_eq_some_iff.mp b
 exact (List.getElem_inj hN).mp (e1.trans e2.symm)
theorem kS {M:Model} {A:Around} {E:Value→Shared→Prop} {i:Nat} {x:Str} {v:V} {u:Value} {Q:Unit→Shared→Prop} (I:Inv X pins σ H s) (hN:X.N.Nodup) (hi:X.N[i]?=some x) (hx:Loc X.env.scope x) (r:RelV v u)
  (h:∀ s',Inv X pins (σ.set i (some v)) H s'→(∃ a,Heap.SameBut a s.heap s'.heap∧(a=X.env.locals∨X.env.cells.lookup x=some a))→Q () s') (hf:X.fn x=true∨X.env.scope.names.lookup x=some .local:=by first | exact .inl rfl | exact .inr rfl | assumption):wpAny M A (storeName X.env x u) Q E s:=by
 obtain ⟨m,hn,hl⟩:=id I.loc
 have hcls:(X.env.scope.kind == .class || (X.env.scope.kind == .module && X.env.locals != X.env.globals))=false:=by rw [I.ok.kind]; rfl
 have hiσ:i < σ.length:=by rw [I.len]; exact (List.getElem?_eq_some_iff.mp hi).1
 have cne:=I.cne
 have tracked:∀ {a:Addr} {h':Heap},(∃ o,s.heap.get? a=some o∧H a=none)→Heap.SameBut a s.heap h'→HOk X.prog X.w H h':=fun {a h'} ha hs b ob e=>by
  obtain ⟨_,_,hfree⟩:=ha
  refine (I.hok b ob e).stay (fun c w' hc q=>(hs.2 c ?_).trans q) (fun _ q=>q) fun _ _ q=>q
  rintro rfl
  rcases hc with rfl | hc
  ·rw [hfree] at e; cases e
  ·rw [hfree] at hc; cases hc
 rcases hx with hk | hk
 ·refine wpAny_storeName_local hk hn (fun h' hn' hs=>?_) hcls
  obtain ⟨oL,_,_,hoL,_⟩:=id hn
  refine h _ ⟨I.ok,I.os,I.bare,⟨fun b o e n hb hx=>?_,fun b o e n hb hx=>?_,I.base.free,fun b o e hx=>?_,I.base.tups,I.base.frzs,I.base.tbls⟩,⟨_,hn',fun j y v' e1 e2 e3=>?_⟩,fun y c e=>?_,I.free,I.freeC,fun p hp=>?_,tracked ⟨oL,hoL,I.free⟩ hs,by simpa using I.len⟩ ⟨_,hs,.inl rfl⟩
  ·exact (hs.2 b (Nat.ne_of_lt (Nat.lt_of_lt_of_le (Heap.lt_size e) I.ok.above))).trans (I.base.keep b o e n hb hx)
  ·obtain ⟨sl,e1⟩:=I.base.slot b o e n hb hx
   exact ⟨sl,(hs.2 b (Nat.ne_of_lt (Nat.lt_of_lt_of_le (Heap.lt_size e) I.ok.above))).trans e1⟩
  ·obtain ⟨o',e1⟩:=I.base.there b o e hx
   exact ⟨o',(hs.2 b (Nat.ne_of_lt (Nat.lt_of_lt_of_le (Heap.lt_size e) I.ok.above))).trans e1⟩
  ·by_cases hj:j=i
   ·subst hj
    rw [hi] at e1; cases e1
    rw [List.getElem?_set_self hiσ] at e2
    cases e2
    exact ⟨u,r,.inl ⟨hk,by simp⟩⟩
   ·rw [List.getElem?_set_ne (Ne.symm hj)] at e2
    obtain ⟨u',r',q⟩:=hl j y v' e1 e2 e3
    refine ⟨u',r',?_⟩
    rcases q with ⟨k,e⟩ | ⟨k,c,e,z⟩
    ·refine .inl ⟨k,?_⟩
     have:y≠x:=fun e=>hj (mJ hN e1 (e ▸ hi))
     simp [this,e]
    ·exact .inr ⟨k,c,e,z.sameBut hs (cne y c e)⟩
  ·obtain ⟨w',z⟩:=I.cell y c e
   exact ⟨w',z.sameBut hs (cne y c e)⟩
  ·obtain ⟨e,n,ne,nf,d⟩:=I.pin p hp
   exact ⟨(hs.2 p.1 ne).trans e,n,ne,nf,d⟩
 ·have hfn:X.fn x=true:=by
   rcases hf with z | z
   ·exact z
   ·rw [z] at hk; cases hk
  obtain ⟨c,hc⟩:=I.ok.has x (.inl hk)
  obtain ⟨w',z⟩:=I.cell x c hc
  refine wpAny_storeName_cell I.ok.kind hk hc z (fun h' hc' hs=>?_)
  obtain ⟨oc,hoc,hocd⟩:=id z
  refine h { s with heap:=h' } ⟨I.ok,I.os,I.bare,⟨fun b o e n hb hx=>?_,fun b o e n hb hx=>?_,I.base.free,fun b o e hx=>?_,I.base.tups,I.base.frzs,I.base.tbls⟩,⟨m,hn.sameBut hs (Ne.symm (cne x c hc)),fun j y v' e1 e2 e3=>?_⟩,fun y c' e=>?_,I.free,I.freeC,fun p hp=>?_,tracked ⟨oc,hoc,I.freeC x c hc⟩ hs,by simpa using I.len⟩ ⟨c,hs,.inr hc⟩
  ·exact (hs.2 b (Nat.ne_of_lt (Nat.lt_of_lt_of_le (Heap.lt_size e) (I.ok.cab x c hfn hc)))).trans (I.base.keep b o e n hb hx)
  ·obtain ⟨sl,e1⟩:=I.base.slot b o e n hb hx
   exact ⟨sl,(hs.2 b (Nat.ne_of_lt (Nat.lt_of_lt_of_le (Heap.lt_size e) (I.ok.cab x c hfn hc)))).trans e1⟩
  ·obtain ⟨o',e1⟩:=I.base.there b o e hx
   exact ⟨o',(hs.2 b (Nat.ne_of_lt (Nat.lt_of_lt_of_le (Heap.lt_size e) (I.ok.cab x c hfn hc)))).trans e1⟩
  ·by_cases hj:j=i
   ·subst hj
    rw [hi] at e1; cases e1
    rw [List.getElem?_set_self hiσ] at e2
    cases e2
    exact ⟨u,r,.inr ⟨.inl hk,c,hc,hc'⟩⟩
   ·rw [List.getElem?_set_ne (Ne.symm hj)] at e2
    obtain ⟨u',r',q⟩:=hl j y v' e1 e2 e3
    refine ⟨u',r',?_⟩
    rcases q with q | ⟨k,c',e,z'⟩
    ·exact .inl q
    ·refine .inr ⟨k,c',e,z'.sameBut hs ?_⟩
     rintro rfl
     exact hj (mJ hN e1 (I.ok.inj _ _ _ e hc ▸ hi))
  ·by_cases hcc:c'=c
   ·subst hcc; exact ⟨_,hc'⟩
   ·obtain ⟨w2,z2⟩:=I.cell y c' e
    exact ⟨w2,z2.sameBut hs hcc⟩
  ·obtain ⟨e,n,ne,nf,d⟩:=I.pin p hp
   refine ⟨(hs.2 p.1 ?_).trans e,n,ne,nf,d⟩
   intro q
   rw [q,hoc] at e
   have q':oc=p.2:=Option.some.inj e
   exact d w' (by rw [← q']; exact hocd)
theorem qw {M:Model} {A:Around} {E:Value→Shared→Prop} {i:Nat} {x:Str} {v:V} {u:Value} {Q:Unit→Shared→Prop} (I:Inv X pins σ H s) (hN:X.N.Nodup) (hi:X.N[i]?=some x) (hx:Loc X.env.scope x) (r:RelV v u)
  (h:∀ s',Inv X pins (σ.set i (some v)) H s'→Q () s') (hf:X.fn x=true∨X.env.scope.names.lookup x=some .local:=by first | exact .inl rfl | exact .inr rfl | assumption):wpAny M A (storeName X.env x u) Q E s :=
 kS I hN hi hx r (fun s' I' _=>h s' I') hf
theorem Inv.call' {s':Shared} {ch:List Addr} (I:Inv X pins σ H s) (ho:s'.os=s.os) (u:Un (frs X.stack) ch H H' s.heap s'.heap) (hok:HOk X.prog X.w H' s'.heap) (hg:AllBare s'.gens)
  (hch:∀ b∈ch,(b∈X.ex∨X.s₀.heap.objs.size≤b)∧b≠X.env.locals∧(∀ x c,X.env.cells.lookup x=some c→c≠b)∧∀ p∈X.pn++pins,p.1≠b):Inv X pins σ H' s':=by
 obtain ⟨h',g',d',t',o'⟩:=s'
 have e:o'=s.os:=ho
 subst e
 exact I.call (g':=g') (t':=t') (d':=d') u hok hg hch
end
abbrev XK:=Value→Option Addr→Hp→Prop
abbrev St:=List (Option V)
abbrev VK:=V→Hp→Prop
abbrev TE:=St→Hp→VK→Prop
abbrev TT:=St→Hp→(Bool→Hp→Prop)→Prop
abbrev TA:=St→Hp→(List V→Hp→Prop)→Prop
structure Ends where
 nx:St→Hp→Prop
 rt:VK
 bk:St→Hp→Prop:=fun _ _=>False
 ct:St→Hp→Prop:=fun _ _=>False
abbrev TS:=Ends→St→Hp→Prop
def EP (X:Cx) (pins:List (Addr × Obj)) (σ:St) (Q:VK) (u:Value) (s':Shared):Prop:=∃ v H',Inv X pins σ H' s'∧RelV v u∧Q v H'
def TP (X:Cx) (pins:List (Addr × Obj)) (σ:St) (Q:Bool→Hp→Prop) (b:Bool) (s':Shared):Prop:=∃ H',Inv X pins σ H' s'∧Q b H'
def AP (X:Cx) (pins:List (Addr × Obj)) (σ:St) (Q:List V→Hp→Prop) (us:List Value) (s':Shared):Prop:=∃ vs H',Inv X pins σ H' s'∧Vals vs us∧Q vs H'
def SP (X:Cx) (pins:List (Addr × Obj)) (D:Ends) (f:Flow) (s':Shared):Prop :=
 match f with
 | .next=>∃ σ' H',Inv X pins σ' H' s'∧D.nx σ' H'
 | .brk=>∃ σ' H',Inv X pins σ' H' s'∧D.bk σ' H'
 | .cont=>∃ σ' H',Inv X pins σ' H' s'∧D.ct σ' H'
 | .ret u=>∃ v σ' H',Inv X pins σ' H' s'∧RelV v u∧D.rt v H'
def PE (X:Cx) (e:Expr) (t:TE):Prop :=
 ∀ (pins:List (Addr × Obj)) (s:Shared) (σ:St) (H:Hp) (Q:VK),Inv X pins σ H s→t σ H Q→wpAny (model X.prog X.w) X.A (eval e X.env) (EP X pins σ Q) X.xe s
def PT (X:Cx) (e:Expr) (t:TT):Prop :=
 ∀ (pins:List (Addr × Obj)) (s:Shared) (σ:St) (H:Hp) (Q:Bool→Hp→Prop),Inv X pins σ H s→t σ H Q→wpAny (model X.prog X.w) X.A (isTrue e X.env (eval e X.env)) (TP X pins σ Q) X.xe s
def PW (X:Cx) (e:Expr) (t:TT):Prop :=
 ∀ (whole:Sem Value) (pins:List (Addr × Obj)) (s:Shared) (σ:St) (H:Hp) (Q:Bool→Hp→Prop),Inv X pins σ H s→t σ H Q→wpAny (model X.prog X.w) X.A (isTrue e X.env whole) (TP X pins σ Q) X.xe s
theorem PW.pt {X:Cx} {e:Expr} {t:TT} (h:PW X e t):PT X e t:=h _
def PA (X:Cx) (es:List Expr) (t:TA):Prop :=
 ∀ (pos:Pos) (pins:List (Addr × Obj)) (s:Shared) (σ:St) (H:Hp) (Q:List V→Hp→Prop),Inv X pins σ H s→t σ H Q→wpAny (model X.prog X.w) X.A (spliced (backTo pos (starEach es X.env))) (AP X pins σ Q) X.xe s
def PS (X:Cx) (st:Stmt) (t:TS):Prop :=
 ∀ (pins:List (Addr × Obj)) (s:Shared) (σ:St) (H:Hp) (D:Ends),Inv X pins σ H s→t D σ H→wpAny (model X.prog X.w) X.A (exec st X.env) (SP X pins D) X.xe s
def PSs (X:Cx) (st:List Stmt) (t:TS):Prop :=
 ∀ (pins:List (Addr × Obj)) (s:Shared) (σ:St) (H:Hp) (D:Ends),Inv X pins σ H s→t D σ H→wpAny (model X.prog X.w) X.A (execs st X.env) (SP X pins D) X.xe s
theorem thn {α:Type} {t:Sem α} {Q Q':α→Shared→Prop} {M:Model} {A:Around} {E:Value→Shared→Prop} {s:Shared} (h:wpAny M A t Q E s) (hQ:∀ a s,Q a s→Q' a s):wpAny M A t Q' E s:=wpAny_mono h hQ fun _ _ x=>x
end L2
namespace L2
open PySem PySem.Spec PyProof.Rows
section
variable {X:Cx}
def mx (i:Nat):TE:=fun σ H Q=>∃ v,σ[i]?=some (some v)∧Q v H
def tC (v:V):TE:=fun _ H Q=>Q v H
theorem kZ {i:Nat} {x:Str} {pos:Pos} (hN:X.N[i]?=some x) (hv:Vis X.env.scope x) (hd:(x == ("__debug__" : Str))=false:=by decide) (hcd:(x == ("__classdict__" : Str))=false:=by decide):PE X (.Name x pos) (mx i):=by
 intro pins s σ H Q I h
 obtain ⟨v,e,h⟩:=h
 obtain ⟨m,hn,hl⟩:=I.loc
 obtain ⟨u,r,l⟩:=hl i x v hN e hv
 have fin:EP X pins σ Q u s:=⟨v,H,I,r,h⟩
 rcases l with ⟨hk,hm⟩ | ⟨hk,c,hc,hcell⟩
 ·exact wpAny_Name (wpAny_loadName_local I.ok.kind hk hn hm fin) hd
 ·rcases hk with hk | hk
  ·exact wpAny_Name (wpAny_loadName_cell I.ok.kind hk hc hcell fin) hd
  ·exact wpAny_Name (wpAny_loadName_free I.ok.kind hk hc hcell fin hcd) hd
theorem pe_int {i j pos}:PE X (.Constant (.int i) j pos) (tC (.int i)):=fun _ _ _ H _ I h=>wpAny_Constant_int ⟨.int i,H,I.tok _,⟨_,rfl⟩,h⟩
theorem pe_bl {b j pos}:PE X (.Constant (.bool b) j pos) (tC (.bl b)):=fun _ _ _ H _ I h=>Constant_bool ⟨.bl b,H,I,rfl,h⟩
theorem pe_non {j pos}:PE X (.Constant .none j pos) (tC .non):=fun _ _ _ H _ I h=>Constant_none ⟨.non,H,I,rfl,h⟩
theorem pe_str {x j pos}:PE X (.Constant (.str x) j pos) (tC (.str x)):=fun _ _ _ H _ I h=>Calls.Constant_str ⟨.str x,H,I.tok _,⟨_,rfl⟩,h⟩
def Gl (X:Cx) (x:Str):Prop:=X.env.kindOf x=some .globalImplicit
theorem jK {E:Value→Shared→Prop} {pins:List (Addr × Obj)} {s:Shared} {σ:St} {H:Hp} {x:Str} {u:Value} {pos:Pos} {Q:Value→Shared→Prop} (I:Inv X pins σ H s) (hg:Gl X x) (hm:X.mg x=some u) (h:Q u s)
  (hd:(x == ("__debug__" : Str))=false:=by decide):wpAny (model X.prog X.w) X.A (eval (.Name x pos) X.env) Q E s :=
 Calls.Name_function_global I.ok.kind hg (Calls.loadGlobal_global (by rw [I.ok.glob]; exact I.mod.glob.keeps I.bk) hm h) hd
theorem nA {E:Value→Shared→Prop} {pins:List (Addr × Obj)} {s:Shared} {σ:St} {H:Hp} {x:Str} {u:Value} {pos:Pos} {Q:Value→Shared→Prop} (I:Inv X pins σ H s) (hg:Gl X x) (hm:X.mg x=none) (hv:bootBuiltins x=some u) (h:Q u s)
  (hn:x≠"__name__":=by decide) (hd:(x == ("__debug__" : Str))=false:=by decide):wpAny (model X.prog X.w) X.A (eval (.Name x pos) X.env) Q E s:=by
 obtain ⟨mb,h1,h2⟩:=I.mod.blt
 exact Calls.Name_function_global I.ok.kind hg (Calls.loadGlobal_builtin (by rw [I.ok.glob]; exact I.mod.glob.keeps I.bk) hm (by rw [I.ok.blt]; exact h1.keeps I.bk) ((h2 x hn).trans hv) h) hd
theorem sC {x:Str} {v:V} {u:Value} {pos:Pos} (hg:Gl X x) (hm:X.mg x=some u) (r:RelV v u) (hd:(x == ("__debug__" : Str))=false:=by decide):PE X (.Name x pos) (tC v) :=
 fun _ _ _ H _ I h=>jK I hg hm ⟨v,H,I,r,h⟩ hd
theorem sE {x:Str} {v:V} {u:Value} {pos:Pos} (hg:Gl X x) (hm:X.mg x=none) (hv:bootBuiltins x=some u) (r:RelV v u) (hn:x≠"__name__":=by decide) (hd:(x == ("__debug__" : Str))=false:=by decide):PE X (.Name x pos) (tC v) :=
 fun _ _ _ H _ I h=>nA I hg hm hv ⟨v,H,I,r,h⟩ hn hd
variable {a b:Expr} {ta tb:TE} {pos:Pos}
def PC (X:Cx) (op:CmpOp) (a b:Expr) (t:TE):Prop :=
 ∀ (pins:List (Addr × Obj)) (s:Shared) (σ:St) (H:Hp) (Q:VK),Inv X pins σ H s→t σ H Q →
  wpAny (model X.prog X.w) X.A (eval a X.env) (fun v s₁=>wpAny (model X.prog X.w) X.A (eval b X.env) (fun u s₂=>wpAny (model X.prog X.w) X.A (compareOp op v u) (EP X pins σ Q) X.xe s₂) X.xe s₁) X.xe s
def tB (t:TE):TT:=fun σ H Q=>t σ H fun x H1=>∃ c,x=.bl c∧Q c H1
theorem GO {e:Expr} {t:TE} (h:PE X e t) (he:∀ whole,isTrue e X.env whole=(do let v ← whole; standAt e.pos; holding [v] (truthy v)):=by intro _; rfl):PT X e (tB t):=by
 intro pins s σ H Q I hw
 refine isTrue_plain (thn (h pins s σ H _ I hw) fun v s1 ⟨x,H1,I1,r1,q1⟩=>?_) (he _)
 obtain ⟨d,rfl,q⟩:=q1
 cases r1
 exact wpAny_truthy_bool ⟨H1,I1,q⟩
variable {tA tB':TT} {rest:List Expr}
def GB (t u:TT):TT:=fun σ H Q=>t σ H fun c H1=>if c=true then u σ H1 Q else Q false H1
def tOr (t u:TT):TT:=fun σ H Q=>t σ H fun c H1=>if c=true then Q true H1 else u σ H1 Q
def Gw (t:TT):TT:=fun σ H Q=>t σ H fun c H1=>Q (!c) H1
theorem Dk (ha:PT X a tA):PW X (.BoolOp .And [a] pos) tA:=by
 intro wh pins s σ H Q I h
 refine isTrue_and (thn (ha pins s σ H Q I h) fun c s1 e=>?_)
 cases c with
 | true=>exact isTrue_and_nil e
 | false=>exact e
theorem GM (ha:PT X a tA):PW X (.BoolOp .Or [a] pos) tA:=by
 intro wh pins s σ H Q I h
 refine isTrue_or (thn (ha pins s σ H Q I h) fun c s1 e=>?_)
 cases c with
 | false=>exact isTrue_or_nil e
 | true=>exact e
theorem GN (ha:PT X a tA) (hb:PW X (.BoolOp .And (b :: rest) pos) tB'):PW X (.BoolOp .And (a :: b :: rest) pos) (GB tA tB'):=by
 intro wh pins s σ H Q I h
 refine isTrue_and (thn (ha pins s σ H _ I h) fun c s1 ⟨H1,I1,q1⟩=>?_)
 cases c with
 | true=>exact hb wh pins s1 σ H1 Q I1 q1
 | false=>exact ⟨H1,I1,q1⟩
theorem IR (ha:PT X a tA) (hb:PW X (.BoolOp .Or (b :: rest) pos) tB'):PW X (.BoolOp .Or (a :: b :: rest) pos) (tOr tA tB'):=by
 intro wh pins s σ H Q I h
 refine isTrue_or (thn (ha pins s σ H _ I h) fun c s1 ⟨H1,I1,q1⟩=>?_)
 cases c with
 | true=>exact ⟨H1,I1,q1⟩
 | false=>exact hb wh pins s1 σ H1 Q I1 q1
theorem GP (ha:PT X a tA):PT X (.UnaryOp .Not a pos) (Gw tA):=by
 intro pins s σ H Q I h
 exact isTrue_not (ha pins s σ H (fun c H1=>Q (!c) H1) I h)
def CD (ta tb:TE):TE:=fun σ H Q=>ta σ H fun x H1=>∃ c,x=.bl c∧if c=true then tb σ H1 Q else Q (.bl false) H1
theorem G3 {op} {t:TE} (h:PE X a t):PE X (.BoolOp op [a] pos) t:=fun pins s σ H Q I hw=>BoolOp_one (h pins s σ H Q I hw)
theorem G6 (ha:PE X a ta) (hb:PE X (.BoolOp .And (b :: rest) pos) tb):PE X (.BoolOp .And (a :: b :: rest) pos) (CD ta tb):=by
 intro pins s σ H Q I h
 refine BoolOp_and (thn (ha pins s σ H _ I h) fun v s1 ⟨x,H1,I1,r1,q1⟩=>?_)
 obtain ⟨c,rfl,q1⟩:=q1
 cases r1
 refine wpAny_truthy_bool ?_
 cases c with
 | true=>exact hb pins s1 σ H1 Q I1 q1
 | false=>exact ⟨.bl false,H1,I1,rfl,q1⟩
end
end L2
namespace L2
open PySem PySem.Spec PyProof.Rows
def SqL (K:PySem.W.Frag) (H:Hp) (a:Addr) (xs:List V):Prop :=
 Rd H a (.lst xs) ∨
  ∃ (o:Obj) (its:Array Value) (n:Nat),K.lookup a=some o∧o.cls=.type "list"∧o.dict=none∧o.data=.seq its n∧its.size≤sizeLine∧Vals xs its.toList
def SqT (K:PySem.W.Frag) (H:Hp) (a:Addr) (xs:List V):Prop :=
 Rd H a (.tup xs) ∨
  ∃ (o:Obj) (its:Array Value) (n:Nat),K.lookup a=some o∧o.cls=.type "tuple"∧o.data=.seq its n∧its.size≤sizeLine∧Vals xs its.toList
def J2:Value→Option V
 | .none=>some .non
 | .bool b=>some (.bl b)
 | .int i _=>some (.int i)
 | .str x _=>some (.str x)
 | .bytes b _=>some (.byt b)
 | .float b _=>some (.flt b)
 | .ref a=>some (.ref a)
 | .type n=>some (.ty n)
 | _=>none
theorem RelV.abs {x:V} {u:Value} (r:RelV x u):J2 u=some x:=by
 cases x with
 | non=>cases r; rfl
 | bl _=>cases r; rfl
 | int _=>obtain ⟨t,rfl⟩:=r; rfl
 | str _=>obtain ⟨t,rfl⟩:=r; rfl
 | byt _=>obtain ⟨t,rfl⟩:=r; rfl
 | flt _=>obtain ⟨t,rfl⟩:=r; rfl
 | ref _=>cases r; rfl
 | ty _=>cases r; rfl
theorem RelV.inj {x y:V} {u:Value} (r:RelV x u) (q:RelV y u):x=y:=Option.some.inj (r.abs.symm.trans q.abs)
theorem Vals.inj:∀ {xs ys:List V} {us:List Value},Vals xs us→Vals ys us→xs=ys
 | _,_,_,.nil,.nil=>rfl
 | _,_,_,.cons r t,.cons r' t'=>by rw [r.inj r',Vals.inj t t']
section
variable {X:Cx} {pins:List (Addr × Obj)} {σ:St} {H:Hp} {s:Shared} {a:Addr} {xs ys:List V}
theorem SqL.of {K:PySem.W.Frag} (h:H a=some (.lst xs)):SqL K H a xs:=.inl (.inl h)
theorem SqT.of {K:PySem.W.Frag} (h:H a=some (.tup xs)):SqT K H a xs:=.inl (.inl h)
theorem Inv.list (I:Inv X pins σ H s) (h:SqL X.K H a xs):∃ its:List Value,Vals xs its∧PlainL s.heap a its.toArray∧xs.length≤sizeLine:=by
 rcases h with h | ⟨o,its,n,hk,hc,hd,hs,hz,r⟩
 ·obtain ⟨z,its,n,r,e⟩:=h.ok I.hok
  exact ⟨its,r,⟨_,n,e,rfl,rfl,rfl⟩,z⟩
 ·refine ⟨its.toList,r,⟨o,n,I.kIn a o hk,hc,hd,by simpa using hs⟩,?_⟩
  have e:=r.length
  simp only [Array.length_toList] at e
  omega
theorem Inv.tuple (I:Inv X pins σ H s) (h:SqT X.K H a xs):∃ its:List Value,Vals xs its∧IsTup s.heap a its.toArray∧xs.length≤sizeLine:=by
 rcases h with h | ⟨o,its,n,hk,hc,hs,hz,r⟩
 ·obtain ⟨z,its,r,p⟩:=h.ok I.hok
  exact ⟨its,r,p.tup,z⟩
 ·refine ⟨its.toList,r,⟨o,I.kIn a o hk,hc,n,by simpa using hs⟩,?_⟩
  have e:=r.length
  simp only [Array.length_toList] at e
  omega
theorem Inv.list_inj (I:Inv X pins σ H s) (h:SqL X.K H a xs) (h':SqL X.K H a ys):xs=ys:=by
 obtain ⟨its,r,⟨o,n,e,_,_,d⟩,_⟩:=I.list h
 obtain ⟨its',r',⟨o',n',e',_,_,d'⟩,_⟩:=I.list h'
 rw [e] at e'; cases e'
 rw [d] at d'
 injection d' with d1 _
 have:its=its':=by simpa using congrArg Array.toList d1
 subst this
 exact r.inj r'
theorem Inv.tuple_inj (I:Inv X pins σ H s) (h:SqT X.K H a xs) (h':SqT X.K H a ys):xs=ys:=by
 obtain ⟨its,r,⟨o,e,_,n,d⟩,_⟩:=I.tuple h
 obtain ⟨its',r',⟨o',e',_,n',d'⟩,_⟩:=I.tuple h'
 rw [e] at e'; cases e'
 rw [d] at d'
 injection d' with d1 _
 have:its=its':=by simpa using congrArg Array.toList d1
 subst this
 exact r.inj r'
end
abbrev Cx.wish (X:Cx) (E:Value→Shared→Prop):Cx:={ X with xe:=E }
abbrev Cx.nox (X:Cx):Cx:=X.wish fun _ _=>False
theorem Cx.Ok.wish {X:Cx} (ok:X.Ok) (E:Value→Shared→Prop):(X.wish E).Ok :=
 ⟨ok.mod,ok.kind,ok.glob,ok.blt,ok.above,ok.inj,ok.has,ok.cab,ok.hd,ok.frames,ok.stk,ok.exf,ok.bs,ok.bsz,ok.noex,ok.exfs,ok.funs,ok.frf⟩
theorem Cx.Ok.unwish {X:Cx} {E:Value→Shared→Prop} (ok:(X.wish E).Ok):X.Ok :=
 ⟨ok.mod,ok.kind,ok.glob,ok.blt,ok.above,ok.inj,ok.has,ok.cab,ok.hd,ok.frames,ok.stk,ok.exf,ok.bs,ok.bsz,ok.noex,ok.exfs,ok.funs,ok.frf⟩
section
variable {X:Cx} {pins:List (Addr × Obj)} {σ:St} {H:Hp} {s:Shared} {E:Value→Shared→Prop}
theorem Inv.wish (I:Inv X pins σ H s) (E:Value→Shared→Prop):Inv (X.wish E) pins σ H s:=⟨I.ok.wish E,I.os,I.bare,I.base,I.loc,I.cell,I.free,I.freeC,I.pin,I.hok,I.len⟩
theorem Inv.unwish (I:Inv (X.wish E) pins σ H s):Inv X pins σ H s:=⟨I.ok.unwish,I.os,I.bare,I.base,I.loc,I.cell,I.free,I.freeC,I.pin,I.hok,I.len⟩
theorem SP.unwish {D:Ends} {f:Flow} {s':Shared} (h:SP (X.wish E) pins D f s'):SP X pins D f s':=by
 cases f with
 | next=>obtain ⟨σ',H',I,q⟩:=h; exact ⟨σ',H',I.unwish,q⟩
 | brk=>obtain ⟨σ',H',I,q⟩:=h; exact ⟨σ',H',I.unwish,q⟩
 | cont=>obtain ⟨σ',H',I,q⟩:=h; exact ⟨σ',H',I.unwish,q⟩
 | ret u=>obtain ⟨v,σ',H',I,r,q⟩:=h; exact ⟨v,σ',H',I.unwish,r,q⟩
theorem PT.nox {e:Expr} {t:TT} (h:PT X.nox e t):PT X e t:=fun pins s σ H Q I hw =>
 wpAny_mono (h pins s σ H Q (I.wish _) hw) (fun _ _ ⟨H',I',q⟩=>⟨H',I'.unwish,q⟩) fun _ _ z=>False.elim z
theorem PSs.nox {st:List Stmt} {t:TS} (h:PSs X.nox st t):PSs X st t:=fun pins s σ H D I hw =>
 wpAny_mono (h pins s σ H D (I.wish _) hw) (fun _ _ q=>q.unwish) fun _ _ z=>False.elim z
end
section
variable {X:Cx} {st:Stmt} {rest:List Stmt} {t u:TS} {e:Expr} {te:TE} {pos:Pos}
def CB:TS:=fun D σ H=>D.nx σ H
def Gr (t u:TS):TS:=fun D σ H=>t { D with nx:=u D } σ H
theorem pss_nil:PSs X [] CB:=fun _ _ σ H _ I h=>wpAny_execs_nil ⟨σ,H,I,h⟩
theorem qD (h1:PS X st t) (h2:PSs X rest u):PSs X (st :: rest) (Gr t u):=by
 intro pins s σ H D I h
 refine wpAny_execs_cons (thn (h1 pins s σ H { D with nx:=u D } I h) fun f s1 q=>?_)
 cases f with
 | next =>
  obtain ⟨σ',H',I',q⟩:=q
  exact h2 pins s1 σ' H' D I' q
 | ret v=>exact q
 | brk=>exact q
 | cont=>exact q
theorem Do (h1:PS X st t):PSs X [st] t:=by
 intro pins s σ H D I h
 refine wpAny_execs_cons (thn (h1 pins s σ H D I h) fun f s1 q=>?_)
 cases f with
 | next=>exact wpAny_execs_nil q
 | ret v=>exact q
 | brk=>exact q
 | cont=>exact q
theorem Inv.quiet {pins:List (Addr × Obj)} {σ:St} {H:Hp} {s:Shared} (I:Inv X pins σ H s):interactive X.env=false:=by simp [interactive,I.ok.kind]
def CC (te:TE):TS:=fun D σ H=>te σ H fun _ H1=>D.nx σ H1
theorem Dp (he:PE X e te) (hs:swapsWith e none pos.line X.env=pure false:=by rfl):PS X (.Expr e pos) (CC te):=by
 intro pins s σ H D I h
 exact wpAny_Expr_any (thn (he pins s σ H _ I h) fun v s1 ⟨x,H1,I1,r1,q1⟩=>⟨σ,H1,I1,q1⟩) I.quiet hs
def Gs (te:TE):TS:=fun D σ H=>te σ H D.rt
theorem GR (he:PE X e te):PS X (.Return (some e) pos) (Gs te):=by
 intro pins s σ H D I h
 exact wpAny_Return_some (thn (he pins s σ H _ I h) fun v s1 ⟨x,H1,I1,r1,q1⟩=>⟨x,σ,H1,I1,r1,q1⟩)
def Gy (c:TT) (t u:TS):TS:=fun D σ H=>c σ H fun b H1=>if b=true then t D σ H1 else u D σ H1
theorem CL {c:Expr} {a b:List Stmt} {tc:TT} (hc:PT X c tc) (ha:PSs X a t) (hb:PSs X b u):PS X (.If c a b pos) (Gy tc t u):=by
 intro pins s σ H D I h
 refine wpAny_If (thn (hc pins s σ H _ I h) fun d s1 ⟨H1,I1,q1⟩=>?_)
 cases d with
 | true=>exact ha pins s1 σ H1 D I1 q1
 | false=>exact hb pins s1 σ H1 D I1 q1
def qt:TS:=fun _ _ _=>False
theorem ps_never:PS X st qt:=fun _ _ _ _ _ _ h=>h.elim
theorem uF {sts:List Stmt}:PSs X sts qt:=fun _ _ _ _ _ _ h=>h.elim
end
abbrev TG:=V→St→Hp→(St→Hp→Prop)→Prop
abbrev TGs:=List V→St→Hp→(St→Hp→Prop)→Prop
def PG (X:Cx) (target:Expr) (t:TG):Prop :=
 ∀ (pins:List (Addr × Obj)) (s:Shared) (σ:St) (H:Hp) (v:V) (u:Value) (Q:St→Hp→Prop),Inv X pins σ H s→RelV v u→t v σ H Q →
  wpAny (model X.prog X.w) X.A (assign target X.env u) (fun _ s'=>∃ σ' H',Inv X pins σ' H' s'∧Q σ' H') X.xe s
abbrev xw:=V→V→V→Hp→(Hp→Prop)→Prop
def IC (X:Cx) (t:xw):Prop :=
 ∀ (pins:List (Addr × Obj)) (s:Shared) (σ:St) (H:Hp) (o i v:V) (ov iv u:Value) (Q:Hp→Prop),Inv X pins σ H s→RelV o ov→RelV i iv→RelV v u→t o i v H Q →
  wpAny (model X.prog X.w) X.A (setItem ov iv u) (fun _ s'=>∃ H',Inv X pins σ H' s'∧Q H') X.xe s
section
variable {X:Cx} {pos:Pos}
def nK (i:Nat):TG:=fun v σ H Q=>Q (σ.set i (some v)) H
theorem Dr {i:Nat} {x:Str} (hN:X.N.Nodup) (hi:X.N[i]?=some x) (hx:Loc X.env.scope x) (hf:X.fn x=true∨X.env.scope.names.lookup x=some .local:=by first | exact .inl rfl | exact .inr rfl | assumption):PG X (.Name x pos) (nK i):=by
 intro pins s σ H v u Q I r h
 exact wpAny_assign_Name (qw I hN hi hx r (fun s' I'=>⟨_,H,I',h⟩) hf)
def HC (to ti:TE) (t:xw):TG:=fun v σ H Q=>to σ H fun o H1=>ti σ H1 fun i H2=>t o i v H2 fun H3=>Q σ H3
theorem GV {o i:Expr} {to ti:TE} {t:xw} (ho:PE X o to) (hi:PE X i ti) (hs:IC X t)
  (ha:∀ v,assign (.Subscript o i pos) X.env v=(do
   let ov ← holding [v] (eval o X.env)
   let iv ← holding [v,ov] (eval i X.env)
   standAt pos
   holding [v,ov,iv] (setItem ov iv v)
   release [v,ov,iv] []):=by intro _; rfl):PG X (.Subscript o i pos) (HC to ti t):=by
 intro pins s σ H v u Q I r h
 rw [ha]
 refine wpAny_bind (wpAny_holding (thn (ho pins s σ H _ I h) fun ov s1 ⟨x,H1,I1,r1,q1⟩=>?_))
 refine wpAny_bind (wpAny_holding (thn (hi pins s1 σ H1 _ I1 q1) fun iv s2 ⟨y,H2,I2,r2,q2⟩=>?_))
 refine wpAny_bind (wpAny_standAt (wpAny_bind (wpAny_holding (thn (hs pins s2 σ H2 x y v ov iv u _ I2 r1 r2 r q2) fun _ s3 ⟨H3,I3,q3⟩=>?_))))
 exact wpAny_release ⟨σ,H3,I3,q3⟩
def qv (te:TE) (g:TG):TS:=fun D σ H=>te σ H fun x H1=>g x σ H1 D.nx
theorem GT {tg e:Expr} {te:TE} {g:TG} (he:PE X e te) (hg:PG X tg g) (hs:swapsWithSole [tg] e pos.line X.env=pure false:=by rfl) (hw:swappedStores [tg] e X.env=pure none:=by rfl)
  (h1:(assignEach [tg] X.env).map (·.2)=[assign tg X.env]:=by rfl):PS X (.Assign [tg] e pos) (qv te g):=by
 intro pins s σ H D I h
 refine wpAny_Assign_stores (thn (he pins s σ H _ I h) fun v s1 ⟨x,H1,I1,r1,q1⟩=>?_) hs hw
 rw [h1]
 exact thn (hg pins s1 σ H1 x v _ I1 r1 q1) fun _ s2 q=>q
theorem GQ {i:Nat} {x:Str} {e:Expr} {te:TE} {pos':Pos} (hN:X.N.Nodup) (hi:X.N[i]?=some x) (hx:Loc X.env.scope x) (he:PE X e te) (hs:swapsWith e (some (.Name x pos')) pos.line X.env=pure false:=by rfl) (hf:X.fn x=true∨X.env.scope.names.lookup x=some .local:=by first | exact .inl rfl | exact .inr rfl | assumption) :
  PS X (.Assign [.Name x pos'] e pos) (qv te (nK i)):=by
 intro pins s σ H D I h
 refine wpAny_Assign_Name (thn (he pins s σ H _ I h) fun v s1 ⟨y,H1,I1,r1,q1⟩=>?_) hs
 exact qw I1 hN hi hx r1 (fun s2 I2=>⟨_,H1,I2,q1⟩) hf
end
section
variable {X:Cx} {pos:Pos}
def uz (c:TT) (tb:TS):TS:=fun D σ H=>∃ W:Nat→St→Hp→Prop,(∃ m,W m σ H)∧∀ m σ H,W m σ H →
 c σ H fun b H1=>if b=true then ∃ N:St→Hp→Prop,(∀ σ' H',N σ' H'→∃ m',m' < m∧W m' σ' H')∧tb { D with nx:=N,ct:=N,bk:=D.nx } σ H1 else D.nx σ H1
theorem v9 {c:Expr} {body:List Stmt} {tc:TT} {tb:TS} (hp:PassesOwn (model X.prog X.w) X.A X.env X.xe) (hc:PT X c tc) (hb:PSs X body tb):PS X (.While c body [] pos) (uz tc tb):=by
 intro pins s σ H D I h
 obtain ⟨W,⟨m0,w0⟩,turn⟩:=h
 refine wpAny_While (codeAny_whileLoop (fun n s'=>∃ σ' H',Inv X pins σ' H' s'∧W n σ' H') ?_ m0 ⟨σ,H,I,w0⟩)
 rintro n s1 ⟨σ1,H1,I1,w1⟩
 refine wpAny_passesOwn hp (thn (hc pins s1 σ1 H1 _ I1 (turn n σ1 H1 w1)) fun b s2 ⟨H2,I2,q2⟩=>?_)
 cases b with
 | true =>
  obtain ⟨N,hN,q2⟩:=q2
  rw [if_pos rfl]
  refine wpAny_passesOwn hp (thn (hb pins s2 σ1 H2 _ I2 q2) fun f s3 q3=>?_)
  cases f with
  | next =>
   obtain ⟨σ3,H3,I3,n3⟩:=q3
   obtain ⟨m',hm,w3⟩:=hN σ3 H3 n3
   exact ⟨m',hm,σ3,H3,I3,w3⟩
  | cont =>
   obtain ⟨σ3,H3,I3,n3⟩:=q3
   obtain ⟨m',hm,w3⟩:=hN σ3 H3 n3
   exact ⟨m',hm,σ3,H3,I3,w3⟩
  | brk=>exact q3
  | ret v=>exact q3
 | false =>
  rw [if_neg Bool.false_ne_true]
  exact wpAny_execs_nil ⟨σ1,H2,I2,q2⟩
end
structure It where
 go:Nat→Hp→Prop
 yld:Nat→Hp→V→Hp→Prop
 stop:Nat→Hp→Prop
def jy (X:Cx) (pins:List (Addr × Obj)) (H:Hp) (b:Addr):Prop :=
 H b=none∧b≠X.env.locals∧b ∉ X.fs∧(b∈X.ex∨X.s₀.heap.objs.size≤b)∧(∀ x c,X.env.cells.lookup x=some c→c≠b)∧∀ p∈X.pn++pins,p.1≠b
theorem Inv.fpOk {X:Cx} {pins:List (Addr × Obj)} {σ:St} {H H':Hp} {s:Shared} {b:Addr} (I:Inv X pins σ H s) (hb:s.heap.objs.size≤b) (hn:H' b=none):jy X pins H' b:=by
 refine ⟨hn,Nat.ne_of_gt (Nat.lt_of_lt_of_le I.lt hb),I.nofs hb,.inr (Nat.le_trans I.sz hb),fun x c e z=>?_,fun p hp z=>?_⟩
 ·obtain ⟨v,q⟩:=I.cell x c e
  exact absurd (Nat.lt_of_lt_of_le q.lt (by rw [z]; exact hb)) (Nat.lt_irrefl _)
 ·exact absurd (Nat.lt_of_lt_of_le (Heap.lt_size (I.pin p hp).1) (by rw [z]; exact hb)) (Nat.lt_irrefl _)
structure Turn (P:Program) (w:World) (K:PySem.W.Frag) (tg:Expr) (J:It) (fp:List Addr) (it:Addr) (tn:Nat→Heap→Prop):Prop where
 mem:it∈fp
 obj:∀ i h,tn i h→∀ b∈fp,∃ o,h.get? b=some o∧∀ v,o.data≠.cell v
 keep:∀ i h h',tn i h→(∀ b∈fp,∀ o,h.get? b=some o→h'.get? b=some o)→tn i h'
 item:∀ (X:Cx),X.prog=P→X.w=w→X.K=K→X.calm=true→∀ (i:Nat) (pins:List (Addr × Obj)) (s:Shared) (σ:St) (H:Hp) (E:Value→Shared→Prop),Inv X pins σ H s→(∀ b∈fp,jy X pins H b)→tn i s.heap→J.go i H →
  wpAny (model P w) X.A (pyNext (.ref it)) (fun r s1=>∃ u,r=some u ∧
   wpAny (model P w) X.A (letOwnedTupleGo tg (.ref it) u) (fun _ s2=>∃ x H',Inv X pins σ H' s2∧RelV x u∧J.yld i H x H'∧tn (i+1) s2.heap∧∀ b∈fp,H' b=none) E s1) E s
 done:∀ (X:Cx),X.prog=P→X.w=w→X.K=K→X.calm=true→∀ (i:Nat) (pins:List (Addr × Obj)) (s:Shared) (σ:St) (H:Hp) (E:Value→Shared→Prop),Inv X pins σ H s→(∀ b∈fp,jy X pins H b)→tn i s.heap→J.stop i H →
  wpAny (model P w) X.A (pyNext (.ref it)) (fun r s1=>r=none∧Inv X pins σ H s1) E s
 self:∀ (A:Around) (i:Nat) (s:Shared) (Q:Value→Shared→Prop) (E:Value→Shared→Prop),tn i s.heap→Q (.ref it) s→wpAny (model P w) A (pyIter (.ref it)) Q E s
abbrev TI:=St→Hp→(It→Hp→Prop)→Prop
def PIE (X:Cx) (pins:List (Addr × Obj)) (σ:St) (tg:Expr) (R:It→Hp→Prop) (itv:Value) (s2:Shared):Prop :=
 ∃ (it:Addr) (fp:List Addr) (tn:Nat→Heap→Prop) (J:It) (H':Hp),itv=.ref it∧Inv X pins σ H' s2∧Turn X.prog X.w X.K tg J fp it tn∧tn 0 s2.heap∧(∀ b∈fp,jy X pins H' b)∧R J H'
def PI (X:Cx) (tg iter:Expr) (wi:TI):Prop :=
 ∀ (pins:List (Addr × Obj)) (s:Shared) (σ:St) (H:Hp) (R:It→Hp→Prop),Inv X pins σ H s→wi σ H R →
  wpAny (model X.prog X.w) X.A (eval iter X.env) (fun v s1=>wpAny (model X.prog X.w) X.A (pyIter v) (PIE X pins σ tg R) X.xe s1) X.xe s
theorem qc {M:Model} {A:Around} {E:Value→Shared→Prop} {s:Shared} {tg:Expr} {it:Addr} {u:Value} {o:Obj} {n:String} {vs:Array Value} {Q:Unit→Shared→Prop} (ho:s.heap.get? it=some o) (hc:o.cls=.type n) (hd:o.data=.fields vs)
  (hn:["enumerate", "zip", "dict_itemiterator", "dict_reverseitemiterator", "odict_iterator", "itertools.zip_longest", "itertools.pairwise"].contains n=false) (hQ:Q () s):wpAny M A (letOwnedTupleGo tg (.ref it) u) Q E s:=by
 unfold letOwnedTupleGo
 cases tg <;> first
  | exact wpAny_pure hQ
  | (cases u <;> first
    | exact wpAny_pure hQ
    | (refine wpAny_bind (wpAny_load ho ?_)
       rw [hc,hd]
       show wpAny M A (if (["enumerate", "zip", "dict_itemiterator", "dict_reverseitemiterator", "odict_iterator", "itertools.zip_longest", "itertools.pairwise"].contains n && vs[0]? == some (rawInt _))=true then _ else _) Q E s
       rw [if_neg (by intro h; rw [hn,Bool.false_and] at h; cases h)]
       exact wpAny_pure hQ))
def Itl (K:PySem.W.Frag) (a:Addr):It :=
 ⟨fun i H=>∃ xs x,SqL K H a xs∧xs[i]?=some x,fun i H x H'=>H'=H∧∀ xs,SqL K H a xs→xs[i]?=some x,fun i H=>∃ xs,SqL K H a xs∧xs.length≤i⟩
def Itt (K:PySem.W.Frag) (a:Addr):It :=
 ⟨fun i H=>∃ xs x,SqT K H a xs∧xs[i]?=some x,fun i H x H'=>H'=H∧∀ xs,SqT K H a xs→xs[i]?=some x,fun i H=>∃ xs,SqT K H a xs∧xs.length≤i⟩
def Itr (lo:Int) (n:Nat):It:=⟨fun i _=>i < n,fun i H x H'=>H'=H∧x=.int (lo+i),fun i _=>n≤i⟩
theorem uw {P:Program} {w:World} {K:PySem.W.Frag} {tg:Expr} (a it:Addr):Turn P w K tg (Itl K a) [it] it (fun i h=>h.IsListIter it a i) where
 mem:=by simp
 obj:=fun i h st b hb=>by
  have e:b=it:=by simpa using hb
  subst e
  obtain ⟨o,e,c,d⟩:=st
  exact ⟨o,e,fun v z=>by rw [d] at z; cases z⟩
 keep:=fun i h h' st k=>st.at fun o e=>k it (by simp) o e
 item:=by
  intro X hP hw hK hc i pins s σ H E I hf st hg
  subst hP hw hK
  obtain ⟨xs,x,hq,hx⟩:=hg
  obtain ⟨its,rv,p,hz⟩:=I.list hq
  obtain ⟨u,hu,ru⟩:=rv.get hx
  obtain ⟨f0,f1,f2,f3,f4,f5⟩:=hf it (by simp)
  refine wpAny_pyNext_list_item st p.isList (x:=u) (by simpa using hu) fun h' st' sb=>?_
  have I1:Inv X pins σ H { s with heap:=h' }:=I.turned (t':=s.toks) (fun b o hb e=>(sb.2 b hb).trans e) f0 f1 f3 f4 f5
  obtain ⟨o,e,c,d⟩:=id st'
  exact ⟨u,rfl,qc (s:={ s with heap:=h' }) e c d (by decide) ⟨x,H,I1,ru,⟨rfl,fun ys hy=>by rw [I.list_inj hy hq]; exact hx⟩,st',fun b hb=>(hf b hb).1⟩⟩
 done:=by
  intro X hP hw hK hc i pins s σ H E I hf st hg
  subst hP hw hK
  obtain ⟨xs,hq,hx⟩:=hg
  obtain ⟨its,rv,p,hz⟩:=I.list hq
  obtain ⟨f0,f1,f2,f3,f4,f5⟩:=hf it (by simp)
  have hl:=rv.length
  exact wpAny_pyNext_list_end (I.ok.hd hc) st p.isList (by simp; omega) fun h' eb=>⟨rfl,I.turned (t':=s.toks) (fun b o hb e=>eb b o hb e) f0 f1 f3 f4 f5⟩
 self:=fun _ _ _ _ _ st h=>wpAny_pyIter_listiter st h
theorem sY {P:Program} {w:World} {K:PySem.W.Frag} {tg:Expr} (a it:Addr):Turn P w K tg (Itt K a) [it] it (fun i h=>h.IsTupleIter it a i) where
 mem:=by simp
 obj:=fun i h st b hb=>by
  have e:b=it:=by simpa using hb
  subst e
  obtain ⟨o,e,c,d⟩:=st
  exact ⟨o,e,fun v z=>by rw [d] at z; cases z⟩
 keep:=fun i h h' st k=>st.at fun o e=>k it (by simp) o e
 item:=by
  intro X hP hw hK hc i pins s σ H E I hf st hg
  subst hP hw hK
  obtain ⟨xs,x,hq,hx⟩:=hg
  obtain ⟨its,rv,p,hz⟩:=I.tuple hq
  obtain ⟨u,hu,ru⟩:=rv.get hx
  obtain ⟨f0,f1,f2,f3,f4,f5⟩:=hf it (by simp)
  refine wpAny_pyNext_tuple_item st (show s.heap.IsTuple a its.toArray from p) (x:=u) (by simpa using hu) fun h' st' sb=>?_
  have I1:Inv X pins σ H { s with heap:=h' }:=I.turned (t':=s.toks) (fun b o hb e=>(sb.2 b hb).trans e) f0 f1 f3 f4 f5
  obtain ⟨o,e,c,d⟩:=id st'
  exact ⟨u,rfl,qc (s:={ s with heap:=h' }) e c d (by decide) ⟨x,H,I1,ru,⟨rfl,fun ys hy=>by rw [I.tuple_inj hy hq]; exact hx⟩,st',fun b hb=>(hf b hb).1⟩⟩
 done:=by
  intro X hP hw hK hc i pins s σ H E I hf st hg
  subst hP hw hK
  obtain ⟨xs,hq,hx⟩:=hg
  obtain ⟨its,rv,p,hz⟩:=I.tuple hq
  obtain ⟨f0,f1,f2,f3,f4,f5⟩:=hf it (by simp)
  have hl:=rv.length
  exact wpAny_pyNext_tuple_end (I.ok.hd hc) st (show s.heap.IsTuple a its.toArray from p) (by simp; omega) fun h' eb=>⟨rfl,I.turned (t':=s.toks) (fun b o hb e=>eb b o hb e) f0 f1 f3 f4 f5⟩
 self:=fun _ _ _ _ _ st h=>wpAny_pyIter_tupleiter st h
theorem sZ {P:Program} {w:World} {K:PySem.W.Frag} {tg:Expr} (it:Addr) (lo:Int) (n:Nat):Turn P w K tg (Itr lo n) [it] it (fun i h=>IsRangeIter h it (lo+(i:Nat) * 1) ((n:Int) - (i:Nat)) 1) where
 mem:=by simp
 obj:=fun i h st b hb=>by
  have e:b=it:=by simpa using hb
  subst e
  exact ⟨_,st,fun v z=>by
   have z':Data.fields _=Data.cell v:=z
   cases z'⟩
 keep:=fun i h h' st k=>k it (by simp) _ st
 item:=by
  intro X hP hw hK hc i pins s σ H E I hf st hg
  subst hP hw hK
  obtain ⟨f0,f1,f2,f3,f4,f5⟩:=hf it (by simp)
  have W:=Walks.range (prog:=X.prog) (w:=X.w) (I.ok.hd hc) it lo 1 n
  refine W.item i s _ _ hg st fun v h' tk hv st' kk=>?_
  obtain ⟨t,rfl⟩:=hv
  have I1:Inv X pins σ H { s with heap:=h',toks:=tk }:=I.turned (fun b o hb e=>kk b o (by simpa using hb) e) f0 f1 f3 f4 f5
  refine ⟨_,rfl,qc (s:={ s with heap:=h',toks:=tk }) (n:="range_iterator") st' rfl rfl (by decide) ⟨.int (lo+i),H,I1,⟨t,?_⟩,⟨rfl,rfl⟩,st',fun b hb=>(hf b hb).1⟩⟩
  rw [Int.mul_one]
 done:=by
  intro X hP hw hK hc i pins s σ H E I hf st hg
  subst hP hw hK
  obtain ⟨f0,f1,f2,f3,f4,f5⟩:=hf it (by simp)
  exact wpAny_pyNext_range_end (I.ok.hd hc) st (by have:n≤i:=hg; omega) fun h' eb=>⟨rfl,I.turned (t':=s.toks) (fun b o hb e=>eb b o hb e) f0 f1 f3 f4 f5⟩
 self:=fun _ _ _ _ _ st h=>wpAny_pyIter_rangeiter st h
end L2
namespace L2
open PySem PySem.Spec PyProof.Rows
section
variable {X:Cx} {tg:Expr}
theorem v7 {pins:List (Addr × Obj)} {σ:St} {H:Hp} {s:Shared} {R:It→Hp→Prop} {E:Value→Shared→Prop} {lo hi:Int} {t u v:Tok} {tk:Nat} (I:Inv X pins σ H s) (h1:-(2 ^ 62)≤lo) (h2:lo < 2 ^ 62) (h3:-(2 ^ 62)≤hi) (h4:hi < 2 ^ 62)
  (q:R (Itr lo (hi - lo).toNat) H):wpAny (model X.prog X.w) X.A (pyIter (.ref s.heap.objs.size)) (PIE X pins σ tg R) E { s with heap:=s.heap.push { cls:=.type "range",data:=.fields #[.int lo t,.int hi u,.int 1 v] },toks:=tk }:=by
 refine wpAny_pyIter_range (IsRange.new ..) (small_one h1 h2 h3 h4) ?_
 have I1:Inv X pins σ H { s with heap:=s.heap.push { cls:=.type "range",data:=.fields #[.int lo t,.int hi u,.int 1 v] },toks:=tk }:=I.kept fun b o e=>Heap.get?_push_of_some _ e
 refine ⟨(s.heap.push { cls:=.type "range",data:=.fields #[.int lo t,.int hi u,.int 1 v] }).objs.size,[(s.heap.push { cls:=.type "range",data:=.fields #[.int lo t,.int hi u,.int 1 v] }).objs.size],_,_,H,rfl,
  I1.kept (t':=tk) fun b o e=>Heap.get?_push_of_some _ e,sZ _ lo (hi - lo).toNat,?_,fun b hb=>?_,q⟩
 ·have e1:lo+((0:Nat):Int) * 1=lo:=by simp
  have e2:(((hi - lo).toNat:Nat):Int) - ((0:Nat):Int)=Builtin.Range.rangeSize lo hi 1:=by rw [rangeSize_one]; split <;> omega
  show IsRangeIter _ _ (lo+((0:Nat):Int) * 1) ((((hi - lo).toNat:Nat):Int) - ((0:Nat):Int)) 1
  rw [e1,e2]
  exact Heap.get?_push_size _ rfl
 ·have e:b=(s.heap.push { cls:=.type "range",data:=.fields #[.int lo t,.int hi u,.int 1 v] }).objs.size:=by simpa using hb
  subst e
  exact I1.fpOk (Nat.le_refl _) (I1.hok.fresh (Nat.le_refl _))
def Jb (ta:TA):TI:=fun σ H R=>ta σ H fun vs H1=>∃ j:Int,vs=[.int j]∧-(2 ^ 62)≤j∧j < 2 ^ 62∧R (Itr 0 j.toNat) H1
theorem uI {a:Expr} {ta:TA} {p pos:Pos} (hg:Gl X "range") (hm:X.mg "range"=none) (ha:PA X [a] ta) (hs:starEach [a] X.env=[(false,eval a X.env)]:=by rfl):PI X tg (.Call (.Name "range" p) [a] [] pos) (Jb ta):=by
 intro pins s σ H R I h
 refine Call_ (nA I hg hm boot_range (PyProof.Rows.callWith_type1 (thn (ha pos pins s σ H _ I h) fun us s1 ⟨vs,H1,I1,r1,q1⟩=>?_) hs rfl))
 obtain ⟨j,e,q1,q2,q⟩:=q1
 subst e
 cases r1 with
 | cons r rr =>
  cases rr
  obtain ⟨t,rfl⟩:=r
  exact call_range_1 (v7 I1 (by omega) (by omega) q1 q2 (by simpa using q))
def Gz (wi:TI) (g:TG) (tb:TS):TS:=fun D σ H=>wi σ H fun J H1=>∃ W:Nat→Nat→St→Hp→Prop,(∃ m,W 0 m σ H1)∧∀ i m σ H,W i m σ H →
 (J.stop i H∧D.nx σ H)∨(J.go i H∧∃ N:St→Hp→Prop,(∀ σ' H',N σ' H'→∃ m',m' < m∧W (i+1) m' σ' H')∧∀ x H',J.yld i H x H'→g x σ H' fun σ2 H2=>tb { D with nx:=N,ct:=N,bk:=D.nx } σ2 H2)
def kX (fp:List Addr) (h:Heap):List (Addr × Obj):=fp.filterMap fun b=>(h.get? b).map fun o=>(b,o)
theorem iB {fp:List Addr} {h:Heap} {b:Addr} {o:Obj} (hb:b∈fp) (e:h.get? b=some o):(b,o)∈kX fp h:=List.mem_filterMap.mpr ⟨b,hb,by rw [e]; rfl⟩
theorem uN {fp:List Addr} {h:Heap} {p:Addr × Obj} (hp:p∈kX fp h):p.1∈fp∧h.get? p.1=some p.2:=by
 obtain ⟨b,hb,e⟩:=List.mem_filterMap.mp hp
 cases q:h.get? b with
 | none=>rw [q] at e; cases e
 | some o =>
  rw [q] at e
  have e':(b,o)=p:=Option.some.inj e
  subst e'
  exact ⟨hb,q⟩
theorem Inv.pinned {pins:List (Addr × Obj)} {σ:St} {H:Hp} {s:Shared} {fp:List Addr} (I:Inv X pins σ H s) (hf:∀ b∈fp,jy X pins H b) (ho:∀ b∈fp,∃ o,s.heap.get? b=some o∧∀ v,o.data≠.cell v):Inv X (pins++kX fp s.heap) σ H s :=
 I.pins_of fun p hp=>(List.mem_append.mp hp).elim (fun z=>I.pin p (List.mem_append_right _ z)) fun z=>by
  obtain ⟨hb,e⟩:=uN z
  obtain ⟨f0,f1,f2,_⟩:=hf p.1 hb
  obtain ⟨o,e',d⟩:=ho p.1 hb
  rw [e] at e'; cases e'
  exact ⟨e,f0,f1,f2,d⟩
theorem Inv.unpinned {pins pl:List (Addr × Obj)} {σ:St} {H:Hp} {s:Shared} (I:Inv X (pins++pl) σ H s):Inv X pins σ H s:=I.pins_of fun p hp=>I.pin p (List.mem_append_right _ (List.mem_append_left _ hp))
theorem GS {iter:Expr} {body:List Stmt} {wi:TI} {g:TG} {tb:TS} {pos:Pos} (hp:PassesOwn (model X.prog X.w) X.A X.env X.xe) (hc:X.calm=true) (hi:PI X tg iter wi) (hg:PG X tg g) (hb:PSs X body tb)
  (hs:∀ x,foldedSetIterable iter X.env x=pure x:=by intro _; rfl):PS X (.For tg iter body [] pos) (Gz wi g tb):=by
 intro pins s σ H D I h
 refine wpAny_For (thn (hi pins s σ H _ I h) fun v s1 h1=>thn h1 fun itv s2 h2=>?_) hs
 obtain ⟨it,fp,tn,J,H2,e,I2,T,st2,f2,W,⟨m0,w0⟩,turn⟩:=h2
 subst e
 have stat:∀ {H':Hp},(∀ b∈fp,H' b=none)→∀ b∈fp,jy X pins H' b:=fun hn b hb=>⟨hn b hb,(f2 b hb).2⟩
 refine codeAny_forLoop_any (fun n s'=>∃ i σ' H',Inv X pins σ' H' s'∧tn i s'.heap∧(∀ b∈fp,H' b=none)∧W i n σ' H') ?_ m0 ⟨0,σ,H2,I2,st2,fun b hb=>(f2 b hb).1,w0⟩
 rintro n s3 ⟨i,σ3,H3,I3,st3,fr3,w3⟩
 rcases turn i n σ3 H3 w3 with ⟨stop,qn⟩ | ⟨go,N,hN,step⟩
 ·refine wpAny_passesOwn hp (thn (T.done X rfl rfl rfl hc i pins s3 σ3 H3 X.xe I3 (stat fr3) st3 stop) fun r s4 ⟨hr,I4⟩=>?_)
  subst hr
  exact wpAny_execs_nil ⟨σ3,H3,I4,qn⟩
 ·refine wpAny_passesOwn hp (thn (T.item X rfl rfl rfl hc i pins s3 σ3 H3 X.xe I3 (stat fr3) st3 go) fun r s4 ⟨u,hr,h4⟩=>?_)
  subst hr
  refine wpAny_passesOwn hp (thn h4 fun _ s5 ⟨x,H5,I5,r5,y5,st5,fr5⟩=>?_)
  have I5':=I5.pinned (stat fr5) (T.obj _ _ st5)
  refine wpAny_passesOwn hp (thn (hg _ s5 σ3 H5 x u _ I5' r5 (step x H5 y5)) fun _ s6 ⟨σ6,H6,I6,q6⟩=>?_)
  refine wpAny_passesOwn hp (thn (hb _ s6 σ6 H6 _ I6 q6) fun f s7 q7=>?_)
  have again:∀ {σ7:St} {H7:Hp},Inv X (pins++kX fp s5.heap) σ7 H7 s7→N σ7 H7→∃ m,m < n∧∃ i σ' H',Inv X pins σ' H' s7∧tn i s7.heap∧(∀ b∈fp,H' b=none)∧W i m σ' H':=fun {σ7 H7} I7 n7=>by
   obtain ⟨m',hm,w7⟩:=hN σ7 H7 n7
   refine ⟨m',hm,i+1,σ7,H7,I7.unpinned,T.keep _ _ _ st5 fun b hb o e=>(I7.pin (b,o) (List.mem_append_right _ (List.mem_append_right _ (iB hb e)))).1,fun b hb=>?_,w7⟩
   obtain ⟨o,e,d⟩:=T.obj _ _ st5 b hb
   exact (I7.pin (b,o) (List.mem_append_right _ (List.mem_append_right _ (iB hb e)))).2.1
  cases f with
  | next=>obtain ⟨σ7,H7,I7,n7⟩:=q7; exact again I7 n7
  | cont=>obtain ⟨σ7,H7,I7,n7⟩:=q7; exact again I7 n7
  | brk=>obtain ⟨σ7,H7,I7,q7⟩:=q7; exact ⟨σ7,H7,I7.unpinned,q7⟩
  | ret v=>obtain ⟨x7,σ7,H7,I7,r7,q7⟩:=q7; exact ⟨x7,σ7,H7,I7.unpinned,r7,q7⟩
end
end L2
namespace L2
open PySem PySem.Spec PyProof.Rows
abbrev R2:=V→V→Hp→VK→Prop
def OpR (X:Cx) (f:Value→Value→Sem Value) (r:R2):Prop :=
 ∀ (pins:List (Addr × Obj)) (s:Shared) (σ:St) (H:Hp) (x y:V) (v u:Value) (Q:VK),Inv X pins σ H s→RelV x v→RelV y u→r x y H Q →
  wpAny (model X.prog X.w) X.A (f v u) (EP X pins σ Q) X.xe s
def UnR (X:Cx) (f:Value→Sem Value) (r:V→Hp→VK→Prop):Prop :=
 ∀ (pins:List (Addr × Obj)) (s:Shared) (σ:St) (H:Hp) (x:V) (v:Value) (Q:VK),Inv X pins σ H s→RelV x v→r x H Q →
  wpAny (model X.prog X.w) X.A (f v) (EP X pins σ Q) X.xe s
def CallR (X:Cx) (f:Value) (r:List V→Hp→VK→Prop):Prop :=
 ∀ (pins:List (Addr × Obj)) (s:Shared) (σ:St) (H:Hp) (xs:List V) (us:List Value) (Q:VK),Inv X pins σ H s→Vals xs us→r xs H Q →
  wpAny (model X.prog X.w) X.A (call f us) (EP X pins σ Q) X.xe s
def J5 (X:Cx) (r:V→Hp→(Bool→Hp→Prop)→Prop):Prop :=
 ∀ (pins:List (Addr × Obj)) (s:Shared) (σ:St) (H:Hp) (x:V) (v:Value) (Q:Bool→Hp→Prop),Inv X pins σ H s→RelV x v→r x H Q →
  wpAny (model X.prog X.w) X.A (truthy v) (TP X pins σ Q) X.xe s
def tOp (r:R2) (ta tb:TE):TE:=fun σ H Q=>ta σ H fun x H1=>tb σ H1 fun y H2=>r x y H2 Q
def tUn (r:V→Hp→VK→Prop) (ta:TE):TE:=fun σ H Q=>ta σ H fun x H1=>r x H1 Q
def rI (C:Int→Int→Prop) (g:Int→Int→V):R2:=fun x y H Q=>∃ i j,x=.int i∧y=.int j∧C i j∧Q (g i j) H
def rI0 (g:Int→Int→V):R2:=fun x y H Q=>∃ i j,x=.int i∧y=.int j∧Q (g i j) H
def rU (g:Int→V):V→Hp→VK→Prop:=fun x H Q=>∃ i,x=.int i∧Q (g i) H
section
variable {X:Cx} {a b c:Expr} {ta tb tc:TE} {pos:Pos}
theorem xv (ha:PE X a ta) (hb:PE X b tb) {pins:List (Addr × Obj)} {s:Shared} {σ:St} {H:Hp} {R:V→V→Hp→Prop} (I:Inv X pins σ H s)
  (h:ta σ H fun x H1=>tb σ H1 fun y H2=>R x y H2) {Q:Value→Shared→Prop} {f:Value→Value→Sem Value}
  (hf:∀ v u s2 x y H2,Inv X pins σ H2 s2→RelV x v→RelV y u→R x y H2→wpAny (model X.prog X.w) X.A (f v u) Q X.xe s2) :
  wpAny (model X.prog X.w) X.A (eval a X.env) (fun v s₁=>wpAny (model X.prog X.w) X.A (eval b X.env) (fun u s₂=>wpAny (model X.prog X.w) X.A (f v u) Q X.xe s₂) X.xe s₁) X.xe s:=by
 refine thn (ha pins s σ H _ I h) fun v s1 ⟨x,H1,I1,r1,q1⟩=>?_
 refine thn (hb pins s1 σ H1 _ I1 q1) fun u s2 ⟨y,H2,I2,r2,q2⟩=>?_
 exact hf v u s2 x y H2 I2 r1 r2 q2
theorem IT {op:Operator} {r:R2} (ho:OpR X (binaryOp op) r) (ha:PE X a ta) (hb:PE X b tb):PE X (.BinOp a op b pos) (tOp r ta tb):=by
 intro pins s σ H Q I h
 exact wpAny_BinOp (xv ha hb I h fun v u s2 x y H2 I2 rx ry q=>ho pins s2 σ H2 x y v u Q I2 rx ry q)
theorem IS {op:UnaryOp} {r:V→Hp→VK→Prop} (ho:UnR X (unaryOp op) r) (ha:PE X a ta):PE X (.UnaryOp op a pos) (tUn r ta):=by
 intro pins s σ H Q I h
 exact UnaryOp_ (thn (ha pins s σ H _ I h) fun v s1 ⟨x,H1,I1,r1,q1⟩=>ho pins s1 σ H1 x v Q I1 r1 q1)
theorem opI {f:Value→Value→Sem Value} {C:Int→Int→Prop} {g:Int→Int→Int}
  (rule:∀ (i j:Int) (t u:Tok) (s:Shared) (Q:Value→Shared→Prop) (E:Value→Shared→Prop),C i j→Q (.int (g i j) s.toks) { s with toks:=s.toks+1 }→wpAny (model X.prog X.w) X.A (f (.int i t) (.int j u)) Q E s) :
  OpR X f (rI C fun i j=>.int (g i j)):=by
 intro pins s σ H x y v u Q I rx ry h
 obtain ⟨i,j,rfl,rfl,hc,q⟩:=h
 obtain ⟨t,rfl⟩:=rx
 obtain ⟨t',rfl⟩:=ry
 exact rule i j t t' s _ _ hc ⟨.int (g i j),H,I.tok _,⟨_,rfl⟩,q⟩
theorem G7 {f:Value→Value→Sem Value} {g:Int→Int→Int}
  (rule:∀ (i j:Int) (t u:Tok) (s:Shared) (Q:Value→Shared→Prop) (E:Value→Shared→Prop),Q (.int (g i j) s.toks) { s with toks:=s.toks+1 }→wpAny (model X.prog X.w) X.A (f (.int i t) (.int j u)) Q E s) :
  OpR X f (rI0 fun i j=>.int (g i j)):=by
 intro pins s σ H x y v u Q I rx ry h
 obtain ⟨i,j,rfl,rfl,q⟩:=h
 obtain ⟨t,rfl⟩:=rx
 obtain ⟨t',rfl⟩:=ry
 exact rule i j t t' s _ _ ⟨.int (g i j),H,I.tok _,⟨_,rfl⟩,q⟩
theorem tH {f:Value→Value→Sem Value} {g:Int→Int→Bool}
  (rule:∀ (i j:Int) (t u:Tok) (s:Shared) (Q:Value→Shared→Prop) (E:Value→Shared→Prop),Q (.bool (g i j)) s→wpAny (model X.prog X.w) X.A (f (.int i t) (.int j u)) Q E s) :
  OpR X f (rI0 fun i j=>.bl (g i j)):=by
 intro pins s σ H x y v u Q I rx ry h
 obtain ⟨i,j,rfl,rfl,q⟩:=h
 obtain ⟨t,rfl⟩:=rx
 obtain ⟨t',rfl⟩:=ry
 exact rule i j t t' s _ _ ⟨.bl (g i j),H,I,rfl,q⟩
def jb (i j:Int):Prop:=0 < j∧j < 1073741824
def iy (i j:Int):Prop:=0≤j∧j≤1000000∧i.natAbs < 2 ^ 64
def CMul (i j:Int):Prop:=(-(2 ^ 64) < i∧i < 2 ^ 64)∨(-(2 ^ 64) < j∧j < 2 ^ 64)
theorem CMul.ok {i j:Int} (h:CMul i j):IntMulOk i j:=by
 rcases h with ⟨h1,h2⟩ | ⟨h1,h2⟩
 ·exact .of_left (intBits_le_64 h1 h2)
 ·exact .of_right (intBits_le_64 h1 h2)
theorem op_add:OpR X (binaryOp .Add) (rI0 fun i j=>.int (i+j)):=G7 fun _ _ _ _ _ _ _ q=>add_int q
theorem op_sub:OpR X (binaryOp .Sub) (rI0 fun i j=>.int (i - j)):=G7 fun _ _ _ _ _ _ _ q=>sub_int q
theorem op_mul:OpR X (binaryOp .Mult) (rI CMul fun i j=>.int (i * j)):=opI fun _ _ _ _ _ _ _ hc q=>mul_int q hc.ok
theorem op_fdiv:OpR X (binaryOp .FloorDiv) (rI jb fun i j=>.int (i / j)):=opI fun i j _ _ _ _ _ hc q=>by
 have h1:(0:Int) < j:=hc.1
 have h2:j < 1073741824:=hc.2
 exact floordiv_int (by omega) (by rw [Int.fdiv_eq_ediv_of_nonneg i (by omega)]; exact q) (.inl (PyProof.noPylong_small (by omega)))
theorem op_mod:OpR X (binaryOp .Mod) (rI (fun _ j=>0 < j) fun i j=>.int (i % j)):=opI fun i j _ _ _ _ _ hc q=>by
 have h1:(0:Int) < j:=hc
 exact mod_int' (by omega) (by rw [Int.fmod_eq_emod_of_nonneg i (by omega)]; exact q)
theorem op_pow:OpR X (binaryOp .Pow) (rI iy fun i j=>.int (i ^ j.toNat)):=opI fun _ _ _ _ _ _ _ hc q=>pow_int_small hc.1 hc.2.1 hc.2.2 q
theorem unI {f:Value→Sem Value} {g:Int→Int}
  (rule:∀ (i:Int) (t:Tok) (s:Shared) (Q:Value→Shared→Prop) (E:Value→Shared→Prop),Q (.int (g i) s.toks) { s with toks:=s.toks+1 }→wpAny (model X.prog X.w) X.A (f (.int i t)) Q E s) :
  UnR X f (rU fun i=>.int (g i)):=by
 intro pins s σ H x v Q I rx h
 obtain ⟨i,rfl,q⟩:=h
 obtain ⟨t,rfl⟩:=rx
 exact rule i t s _ _ ⟨.int (g i),H,I.tok _,⟨_,rfl⟩,q⟩
theorem un_neg:UnR X (unaryOp .USub) (rU fun i=>.int (-i)):=unI fun _ _ _ _ _ q=>neg_int q
end
section
variable {X:Cx} {a b c:Expr} {ta tb tc:TE} {pos:Pos}
theorem vm {pins:List (Addr × Obj)} {σ:St} {H:Hp} {s:Shared} {Q:VK} {k k':Bool} (I:Inv X pins σ H s) (q:Q (.bl k) H) (e:k=k'):EP X pins σ Q (.bool k') s:=by
 subst e
 exact ⟨.bl k,H,I,rfl,q⟩
theorem op_lt:OpR X (compareOp .Lt) (rI0 fun i j=>.bl (decide (i < j))):=tH fun _ _ _ _ _ _ _ q=>lt_int q
theorem op_le:OpR X (compareOp .LtE) (rI0 fun i j=>.bl (decide (i≤j))):=tH fun _ _ _ _ _ _ _ q=>le_int q
theorem op_gt:OpR X (compareOp .Gt) (rI0 fun i j=>.bl (decide (j < i))):=tH fun _ _ _ _ _ _ _ q=>gt_int q
theorem op_ge:OpR X (compareOp .GtE) (rI0 fun i j=>.bl (decide (j≤i))):=tH fun _ _ _ _ _ _ _ q=>ge_int q
theorem op_isN:OpR X (compareOp .Is) (fun x y H Q=>y=.non∧Q (.bl (decide (x=.non))) H):=by
 intro pins s σ H x y v u Q I rx ry h
 obtain ⟨rfl,q⟩:=h
 cases ry
 refine is_none_gen (vm I q ?_)
 cases x <;> first
  | (cases rx; rfl)
  | (obtain ⟨t,rfl⟩:=rx; rfl)
theorem op_notN:OpR X (compareOp .IsNot) (fun x y H Q=>y=.non∧Q (.bl (!decide (x=.non))) H):=by
 intro pins s σ H x y v u Q I rx ry h
 obtain ⟨rfl,q⟩:=h
 cases ry
 refine isnot_none_gen (vm I q ?_)
 cases x <;> first
  | (cases rx; rfl)
  | (obtain ⟨t,rfl⟩:=rx; rfl)
theorem aP (b:Expr) {op:CmpOp} (h:op≠.In:=by decide) (h2:op≠.NotIn:=by decide):behindInMarks op b=false:=by
 have e1:(op == CmpOp.In)=false:=by cases op <;> first | rfl | exact absurd rfl h
 have e2:(op == CmpOp.NotIn)=false:=by cases op <;> first | rfl | exact absurd rfl h2
 cases b <;> simp [behindInMarks,e1,e2]
theorem Dt {op:CmpOp} {r:R2} (ho:OpR X (compareOp op) r) (ha:PE X a ta) (hb:PE X b tb) (hm:behindInMarks op b=false):PE X (.Compare a [op] [b] pos) (tOp r ta tb):=by
 intro pins s σ H Q I h
 exact wpAny_Compare1 (xv ha hb I h fun v u s2 x y H2 I2 rx ry q=>ho pins s2 σ H2 x y v u Q I2 rx ry q) hm
def CA (t:TE):TT:=fun σ H Q=>t σ H fun x H'=>∃ k,x=.bl k∧Q k H'
theorem Dm {op:CmpOp} {r:R2} (ho:OpR X (compareOp op) r) (ha:PE X a ta) (hb:PE X b tb) (hm:behindInMarks op b=false):PT X (.Compare a [op] [b] pos) (CA (tOp r ta tb)):=by
 intro pins s σ H Q I h
 refine wpAny_isTrue_Compare1 (thn (ha pins s σ H _ I h) fun v s1 ⟨x,H1,I1,r1,q1⟩=>thn (hb pins s1 σ H1 _ I1 q1) fun u s2 ⟨y,H2,I2,r2,q2⟩ =>
  thn (ho pins s2 σ H2 x y v u _ I2 r1 r2 q2) fun c s3 ⟨z,H3,I3,r3,k,e,q3⟩=>?_) hm
 subst e
 cases r3
 exact wpAny_truthy_bool ⟨H3,I3,q3⟩
def qu (r r':R2) (ta tb tc:TE):TE:=fun σ H Q=>ta σ H fun x H1=>tb σ H1 fun y H2=>r x y H2 fun z H3=>∃ k,z=.bl k ∧
 (if k=true then tc σ H3 fun w' H4=>r' y w' H4 Q else Q (.bl false) H3)
theorem wf {op op':CmpOp} {r r':R2} (ho:OpR X (compareOp op) r) (ho':OpR X (compareOp op') r') (ha:PE X a ta) (hb:PE X b tb) (hc:PE X c tc)
  (hm:lastMarks [op,op'] [b,c]=false:=by with_unfolding_all rfl):PE X (.Compare a [op,op'] [b,c] pos) (qu r r' ta tb tc):=by
 intro pins s σ H Q I h
 refine Compare_chain (thn (ha pins s σ H _ I h) fun v s1 ⟨x,H1,I1,r1,q1⟩=>chain_link (thn (hb pins s1 σ H1 _ I1 q1) fun u s2 ⟨y,H2,I2,r2,q2⟩ =>
  thn (ho pins s2 σ H2 x y v u _ I2 r1 r2 q2) fun d s3 ⟨z,H3,I3,r3,k,e,q3⟩=>?_)) hm
 subst e
 cases r3
 refine wpAny_truthy_bool ?_
 cases k with
 | false=>exact ite_ff ⟨.bl false,H3,I3,rfl,q3⟩
 | true=>exact ite_tt (chain_last (thn (hc pins s3 σ H3 _ I3 q3) fun w' s4 ⟨z',H4,I4,r4,q4⟩=>ho' pins s4 σ H4 y z' u w' Q I4 r2 r4 q4))
theorem v8 {op op':CmpOp} {r r':R2} (ho:OpR X (compareOp op) r) (ho':OpR X (compareOp op') r') (ha:PE X a ta) (hb:PE X b tb) (hc:PE X c tc)
  (hm:lastMarks [op,op'] [b,c]=false:=by with_unfolding_all rfl):PT X (.Compare a [op,op'] [b,c] pos) (CA (qu r r' ta tb tc)):=by
 intro pins s σ H Q I h
 refine isTrue_chain (thn (ha pins s σ H _ I h) fun v s1 ⟨x,H1,I1,r1,q1⟩=>test_link (thn (hb pins s1 σ H1 _ I1 q1) fun u s2 ⟨y,H2,I2,r2,q2⟩ =>
  thn (ho pins s2 σ H2 x y v u _ I2 r1 r2 q2) fun d s3 ⟨z,H3,I3,r3,k,e,q3⟩=>?_)) hm
 subst e
 cases r3
 refine wpAny_truthy_bool ?_
 cases k with
 | false =>
  obtain ⟨k',e',q'⟩:=q3
  cases e'
  exact ite_ff ⟨H3,I3,q'⟩
 | true =>
  refine ite_tt (test_last (thn (hc pins s3 σ H3 _ I3 q3) fun w' s4 ⟨z',H4,I4,r4,q4⟩=>thn (ho' pins s4 σ H4 y z' u w' _ I4 r2 r4 q4) fun d' s5 ⟨z2,H5,I5,r5,k2,e2,q5⟩=>?_))
  subst e2
  cases r5
  exact wpAny_truthy_bool ⟨H5,I5,q5⟩
def J4 (K:PySem.W.Frag) (x:V) (H:Hp) (k:Bool):Prop :=
 match x with
 | .non=>k=false
 | .bl b=>k=b
 | .int i=>k=(i != 0)
 | .str y=>y.length≤sizeLine∧k=((y.length:Int) != 0)
 | .byt y=>y.size≤sizeLine∧k=((y.size:Int) != 0)
 | .ref p=>(∃ xs,SqL K H p xs∧k=!xs.isEmpty)∨(∃ xs,SqT K H p xs∧k=!xs.isEmpty)∨∃ kvs,H p=some (.dK kvs)∧k=!kvs.isEmpty
 | _=>False
theorem jJ:(sizeLine:Nat) < 2 ^ 63:=by rw [sizeLine_eq]; decide
theorem tG:OpR X (binaryOp .Add) (fun x y H Q=>∃ i j,x=.str i∧y=.str j∧i.length+j.length≤sizeLine∧Q (.str (i++j)) H):=by
 intro pins s σ H x y v u Q I rx ry h
 obtain ⟨i,j,rfl,rfl,hz,q⟩:=h
 obtain ⟨t,rfl⟩:=rx
 obtain ⟨t',rfl⟩:=ry
 exact add_str (fun t' tk=>⟨.str (i++j),H,I.tok _,⟨_,rfl⟩,q⟩) hz
theorem dm {x:V} {us:List Value} (r:Vals [x] us):∃ u,us=[u]∧RelV x u:=by
 cases r with
 | cons r1 r2=>cases r2; exact ⟨_,rfl,r1⟩
theorem IG {x y:V} {us:List Value} (r:Vals [x,y] us):∃ u w',us=[u,w']∧RelV x u∧RelV y w':=by
 cases r with
 | cons r1 r2 =>
  cases r2 with
  | cons r3 r4=>cases r4; exact ⟨_,_,rfl,r1,r3⟩
theorem call_int1:CallR X (.type "int") (fun xs H Q=>(∃ i,xs=[.int i]∧Q (.int i) H)∨∃ k,xs=[.bl k]∧Q (.int (if k then 1 else 0)) H):=by
 intro pins s σ H xs us Q I r h
 rcases h with ⟨i,rfl,q⟩ | ⟨k,rfl,q⟩
 ·obtain ⟨u,rfl,t,rfl⟩:=dm r
  exact call_int_int ⟨.int i,H,I,⟨_,rfl⟩,q⟩
 ·obtain ⟨u,rfl,r1⟩:=dm r
  cases r1
  exact call_int_bool ⟨.int (if k then 1 else 0),H,I.tok _,⟨_,rfl⟩,q⟩
def IE (K:PySem.W.Frag) (x:V) (H:Hp) (n:Nat):Prop :=
 match x with
 | .str y=>y.length≤sizeLine∧n=y.length
 | .byt y=>y.size≤sizeLine∧n=y.size
 | .ref p=>(∃ xs,SqL K H p xs∧n=xs.length)∨∃ xs,SqT K H p xs∧n=xs.length
 | _=>False
theorem xq:CallR X (.builtin "len") (fun xs H Q=>∃ x n,xs=[x]∧IE X.K x H n∧Q (.int n) H):=by
 intro pins s σ H xs us Q I r h
 obtain ⟨x,n,rfl,e,q⟩:=h
 obtain ⟨u,rfl,rx⟩:=dm r
 have hl:=jJ
 have hs:sizeLine=16777216:=sizeLine_eq
 cases x with
 | str y =>
  obtain ⟨t,rfl⟩:=rx
  obtain ⟨hy,e'⟩:y.length≤sizeLine∧n=y.length:=e
  subst e'
  exact len_str (by omega) ⟨.int _,H,I.tok _,⟨_,rfl⟩,q⟩
 | byt y =>
  obtain ⟨t,rfl⟩:=rx
  obtain ⟨hy,e'⟩:y.size≤sizeLine∧n=y.size:=e
  subst e'
  exact PySem.W.len_bytes (by omega) ⟨.int _,H,I.tok _,⟨_,rfl⟩,q⟩
 | ref p =>
  cases rx
  have e':(∃ xs,SqL X.K H p xs∧n=xs.length)∨∃ xs,SqT X.K H p xs∧n=xs.length:=e
  rcases e' with ⟨xs,hx,e'⟩ | ⟨xs,hx,e'⟩
  ·subst e'
   obtain ⟨its,r',pl,hz⟩:=I.list hx
   have hlen:=r'.length
   exact Calls.call_len_list pl.isList (by simp only [List.size_toArray]; omega) ⟨.int xs.length,H,I.tok _,⟨_,by simp only [List.size_toArray]; rw [hlen]⟩,q⟩
  ·subst e'
   obtain ⟨its,r',pl,hz⟩:=I.tuple hx
   have hlen:=r'.length
   exact len_tuple pl (by simp only [List.size_toArray]; omega) ⟨.int xs.length,H,I.tok _,⟨_,by simp only [List.size_toArray]; rw [hlen]⟩,q⟩
 | _=>exact (show False from e).elim
end
end L2
namespace L2
open PySem PySem.Spec PyProof.Rows
structure ObjM (h:Heap) (x dx C:Addr) (mA:Str→Option Value):Prop where
 obj:h.get? x=some (PySem.W.instObj C dx)
 ns:h.Ns1 dx mA
 ne:dx≠x
theorem uT {h:Heap} {dx:Addr} {mA:Str→Option Value} (n:h.Ns1 dx mA):∃ od,h.get? dx=some od∧∀ name,PySem.W.lookIn name od=some (mA name):=by
 obtain ⟨o,es,ep,ho,hd,hk,_,hm⟩:=n
 refine ⟨o,ho,fun name=>?_⟩
 have e:=hm name
 unfold nsFind findBy at e
 rw [← Array.find?_toList] at e
 unfold PySem.W.lookIn
 rw [hd]
 dsimp only
 split
 ·rename_i y q
  rw [q] at e
  exact congrArg some e
 ·rename_i q
  rw [q] at e
  have a:es.toList.any (·.refKey)=false:=by
   rw [List.any_eq_false]
   intro y hy
   obtain ⟨z,t,hkey⟩:=hk y (Array.mem_toList_iff.mp hy)
   simp [DictEntry.refKey,hkey]
  have a':¬ es.toList.any (·.refKey)=true:=by rw [a]; exact Bool.false_ne_true
  rw [if_neg a']
  exact congrArg some e
theorem ObjM.look {h:Heap} {x dx C:Addr} {mA:Str→Option Value} (I:ObjM h x dx C mA):∃ od,PySem.W.InstAt h x (PySem.W.instObj C dx) C (some od)∧∀ name,PySem.W.lookIn name od=some (mA name) :=
 let ⟨od,ho,hl⟩:=uT I.ns
 ⟨od,⟨I.obj,rfl,rfl,ho⟩,hl⟩
section
variable {prog:Program} {w:World} {A:Around} {E:Value→Shared→Prop} {s:Shared} {K:PySem.W.Frag} {x dx C f:Addr} {mA:Str→Option Value} {name:Str} {v:Value}
end
section
variable {P:Program} {w:World} {H H':Hp} {h h':Heap} {a C dx:Addr} {fs fs':List (Str × V)}
theorem DF (hok:HOk P w H h) (e:H a=some (.ins C dx fs)):∃ mA,ObjM h a dx C mA∧(∀ f,xx (fs.lookup f) (mA f))∧PySem.Within mA (fs.map (·.1))∧fs.length≤1000∧H dx=some (.own a):=by
 obtain ⟨d,z,ne,ob,mA,n,r,q⟩:=(show ObjOk P w H h a (.ins C dx fs) from hok a _ e)
 exact ⟨mA,⟨ob,n,ne⟩,r,q,z,d⟩
end
structure Cls (K:PySem.W.Frag) (C:Addr):Prop where
 pg:PySem.W.plainGet K C Str.empty=true
 hd:PySem.W.hasDictIn K C=true
 po:PySem.W.plainOver K C=true
 sa:PySem.W.findIn K (.ref C) "__setattr__"=some (some (.builtin "object.__setattr__"))
theorem Cls.get {K:PySem.W.Frag} {C:Addr} (c:Cls K C) (f:Str):PySem.W.plainGet K C f=true:=c.pg
section
variable {X:Cx} {pins:List (Addr × Obj)} {σ:St} {H:Hp} {s:Shared} {a C dx:Addr} {fs:List (Str × V)} {f:Str} {v:V} {A:Around} {E:Value→Shared→Prop}
end
section
variable {X:Cx} {o e value:Expr} {f:Str} {pos pos' tpos:Pos} {ta tv:TE}
end
section
variable {X:Cx} {pins:List (Addr × Obj)} {σ:St} {H:Hp} {s:Shared} {A:Around} {E:Value→Shared→Prop} {Q:Value→Shared→Prop} {c:Value} {b:Bool}
inductive TyOf (K:PySem.W.Frag) (H:Hp):V→Value→Prop where
 | non:TyOf K H .non (.type "NoneType")
 | bl (x:Bool):TyOf K H (.bl x) (.type "bool")
 | int (i:Int):TyOf K H (.int i) (.type "int")
 | str (x:Str):TyOf K H (.str x) (.type "str")
 | flt (x:UInt64):TyOf K H (.flt x) (.type "float")
 | lst {a:Addr} {xs:List V} (e:H a=some (.lst xs)):TyOf K H (.ref a) (.type "list")
 | frz {a:Addr} {o:Obj} {xs:List V} (e:H a=some (.frz o (.lst xs))):TyOf K H (.ref a) (.type "list")
 | tup {a:Addr} {xs:List V} (e:H a=some (.tup xs)):TyOf K H (.ref a) (.type "tuple")
 | dK {a:Addr} {kvs:List (Key × V)} (e:H a=some (.dK kvs)):TyOf K H (.ref a) (.type "dict")
 | dT {a:Addr} {kvs:List (List Key × V)} (e:H a=some (.dT kvs)):TyOf K H (.ref a) (.type "dict")
 | ins {a C dx:Addr} {fs:List (Str × V)} (e:H a=some (.ins C dx fs)) (cl:Cls K C) (ha:PySem.W.findIn K (.ref C) "__class__"=some (some (.builtin "object.__class__")))
   (hn:PySem.W.specialIn K (.builtin "object.__class__") "__get__"=some (some (.builtin "getset_descriptor.__get__"))) (htk:PySem.W.takesIn K (.builtin "object.__class__")=some true)
   (hm:PySem.W.mroIn K C (.type "object")=some true):TyOf K H (.ref a) (.ref C)
theorem u3 {x:V} {u t:Value} (I:Inv X pins σ H s) (rx:RelV x u) (ty:TyOf X.K H x t) (e:PySem.W.kitOne X.K t c=some b) (h:∀ tk,Q (.bool b) { s with toks:=tk }) :
  wpAny (model X.prog X.w) A (call (.builtin "isinstance") [u,c]) Q E s:=by
 cases ty with
 | non=>cases (show u=Value.none from rx); exact PySem.W.kia_one PySem.W.kitx_none I.kIn True.intro e (fun z=>nomatch z) h
 | bl y=>cases (show u=Value.bool y from rx); exact PySem.W.kia_one PySem.W.kitx_bool I.kIn True.intro e (fun z=>nomatch z) h
 | int i=>obtain ⟨t,q⟩:=(show ∃ t,u=Value.int i t from rx); cases q; exact PySem.W.kia_one PySem.W.kitx_int I.kIn True.intro e (fun z=>nomatch z) h
 | str y=>obtain ⟨t,q⟩:=(show ∃ t,u=Value.str y t from rx); cases q; exact PySem.W.kia_one PySem.W.kitx_str I.kIn True.intro e (fun z=>nomatch z) h
 | flt y=>obtain ⟨t,q⟩:=(show ∃ t,u=Value.float y t from rx); cases q; exact PySem.W.kia_one PySem.W.kitx_float I.kIn True.intro e (fun z=>nomatch z) h
 | @lst a xs ea =>
  cases (show u=Value.ref a from rx)
  obtain ⟨_,_,n,_,h1⟩:=(show ObjOk X.prog X.w H s.heap a (.lst xs) from I.hok a _ ea)
  exact PySem.W.kia_one PySem.W.kitx_list I.kIn ⟨_,h1,rfl⟩ e (fun z=>nomatch z) h
 | @frz a ob xs ea =>
  cases (show u=Value.ref a from rx)
  obtain ⟨_,_,_,n,_,h1⟩:=(show ObjOk X.prog X.w H s.heap a (.frz ob (.lst xs)) from I.hok a _ ea)
  exact PySem.W.kia_one PySem.W.kitx_list I.kIn ⟨_,h1,rfl⟩ e (fun z=>nomatch z) h
 | @tup a xs ea =>
  cases (show u=Value.ref a from rx)
  obtain ⟨_,_,_,p⟩:=(show ObjOk X.prog X.w H s.heap a (.tup xs) from I.hok a _ ea)
  obtain ⟨o,h1,h2,_⟩:=p
  exact PySem.W.kia_one PySem.W.kitx_tuple I.kIn ⟨o,h1,h2⟩ e (fun z=>nomatch z) h
 | @dK a kvs ea =>
  cases (show u=Value.ref a from rx)
  obtain ⟨_,_,vs,_,p⟩:=(show ObjOk X.prog X.w H s.heap a (.dK kvs) from I.hok a _ ea)
  obtain ⟨o,es,ep,h1,h2,_⟩:=p
  exact PySem.W.kia_one PySem.W.kitx_dict I.kIn ⟨o,h1,h2.1⟩ e (fun z=>nomatch z) h
 | @dT a kvs ea =>
  cases (show u=Value.ref a from rx)
  obtain ⟨_,_,xs,_,o,es,ep,h1,h2,_⟩:=(show ObjOk X.prog X.w H s.heap a (.dT kvs) from I.hok a _ ea)
  exact PySem.W.kia_one PySem.W.kitx_dict I.kIn ⟨o,h1,h2.1⟩ e (fun z=>nomatch z) h
 | @ins a C dx fs ea cl ha hn htk hm =>
  cases (show u=Value.ref a from rx)
  obtain ⟨mA,O,_⟩:=DF I.hok ea
  obtain ⟨od,J,_⟩:=O.look
  exact PySem.W.kia_one (PySem.W.kitx_own (cl.get _) cl.hd ha hn htk hm) I.kIn J e (fun z=>nomatch z) h
end
end L2
namespace L2
open PySem PySem.Spec PyProof.Rows
structure Room (k:Nat) (A:Around):Prop where
 hd:A.handled=none
 dp:A.depth+3 * k+5 < recursionLimit
 un:A.units+16 * k+200 < cLine
 gd:A.guards=some []
theorem Room.mono {j k:Nat} {A:Around} (r:Room k A) (h:j≤k):Room j A:=⟨r.hd,by have:=r.dp; omega,by have:=r.un; omega,r.gd⟩
theorem Room.deeper {k:Nat} {A:Around} (r:Room (k+1) A) (env:Env):Room k (A.deeper env) :=
 ⟨r.hd,by have:=r.dp; show A.depth+1+3 * k+5 < _; omega,by have:=r.un; show A.units+3+16 * k+200 < _; omega,r.gd⟩
theorem Room.depth {k:Nat} {A:Around} (r:Room k A):A.depth < recursionLimit:=by have:=r.dp; omega
theorem Room.units {k:Nat} {A:Around} (r:Room k A):A.units+64 < cLine:=by have:=r.un; omega
def s0:TA:=fun _ H Q=>Q [] H
def lM (ta:TE) (tr:TA):TA:=fun σ H Q=>ta σ H fun x H1=>tr σ H1 fun xs H2=>Q (x :: xs) H2
section
variable {X:Cx} {e:Expr} {es:List Expr} {te:TE} {t:TA} {pos:Pos}
theorem pa_nil:PA X [] s0:=fun _ _ _ _ H Q I h=>Calls.spliced_nil ⟨[],H,I,.nil,h⟩
theorem cV (ha:PE X e te) (hr:PA X es t) (hs:starEach (e :: es) X.env=(false,eval e X.env) :: starEach es X.env:=by rfl):PA X (e :: es) (lM te t):=by
 intro pos pins s σ H Q I h
 rw [hs]
 show wpAny _ _ (spliced ((false,eval e X.env) :: backTo pos (starEach es X.env))) _ _ s
 refine Calls.spliced_cons (thn (ha pins s σ H _ I h) fun u s1 ⟨x,H1,I1,r1,q1⟩=>?_)
 exact thn (hr pos pins s1 σ H1 _ I1 q1) fun us s2 ⟨xs,H2,I2,r2,q2⟩=>⟨x :: xs,H2,I2,.cons r1 r2,q2⟩
def Gq (t:TA):TE:=fun σ H Q=>t σ H fun xs H1=>xs.length≤sizeLine∧∀ p,H1 p=none→Q (.ref p) (upd H1 p (.tup xs))
def Gx (t:TA):TE:=fun σ H Q=>t σ H fun xs H1=>xs.length≤sizeLine∧∀ p,H1 p=none→Q (.ref p) (upd H1 p (.lst xs))
theorem GY {x1} (h:PA X es t):PE X (.Tuple es x1 pos) (Gq t):=by
 intro pins s σ H Q I hq
 refine wpAny_Tuple_spliced (thn (h pos pins s σ H _ I hq) fun us s1 ⟨xs,H1,I1,r,z,q⟩=>⟨by rw [← r.length]; exact z,?_⟩)
 have hf:H1 s1.heap.objs.size=none:=I1.hok.fresh (Nat.le_refl _)
 refine ⟨.ref s1.heap.objs.size,upd H1 s1.heap.objs.size (.tup xs),I1.laid (t':=s1.toks) (fun b u e=>Heap.get?_push_of_some _ e) (Nat.le_refl _) ?_,rfl,q _ hf⟩
 exact ⟨z,us,r,⟨_,Heap.get?_push_size _ rfl,rfl,_,rfl,rfl⟩⟩
theorem G4 (h:PA X es t):PE X (.List es pos) (Gx t):=by
 intro pins s σ H Q I hq
 refine wpAny_List_spliced (thn (h pos pins s σ H _ I hq) fun us s1 ⟨xs,H1,I1,r,z,q⟩=>⟨by rw [← r.length]; exact z,?_⟩)
 have hf:H1 s1.heap.objs.size=none:=I1.hok.fresh (Nat.le_refl _)
 refine ⟨.ref s1.heap.objs.size,upd H1 s1.heap.objs.size (.lst xs),I1.laid (t':=s1.toks) (fun b u e=>Heap.get?_push_of_some _ e) (Nat.le_refl _) ?_,rfl,q _ hf⟩
 exact ⟨z,us,0,r,Heap.get?_push_size _ rfl⟩
end
abbrev Sp:=List V→Hp→VK→XK→Prop
abbrev CXT:=List Env→Hp→Shared→XK→Value→Shared→Prop
structure Env0 (P:Program) (w:World) (K:PySem.W.Frag) (mg:Str→Option Value) (base:Heap) (A:Around) (outer:List Env) (s:Shared) (H:Hp):Prop where
 frames:A.frames=some outer
 mod:Mod K mg base
 bs:∀ b o,base.get? b=some o→s.heap.get? b=some o∧H b=none
 bsz:base.objs.size≤s.heap.objs.size
 funs:s.heap.FunFrames base outer
 frf:∀ b∈frs outer,H b=none
 hok:HOk P w H s.heap
 bare:AllBare s.gens
def CE (outer:List Env) (P:Program) (w:World) (H:Hp) (s:Shared) (Q:VK) (u:Value) (s':Shared):Prop :=
 ∃ v H',s'.os=s.os∧AllBare s'.gens∧Un (frs outer) [] H H' s.heap s'.heap∧HOk P w H' s'.heap∧RelV v u∧Q v H'
def CR (CX:CXT) (outer:List Env) (P:Program) (w:World) (H:Hp) (s:Shared) (Q:VK) (E:XK) (r:Result) (s':Shared):Prop :=
 match r with
 | .ok (.ret u)=>CE outer P w H s Q u s'
 | .ok _=>False
 | .error e=>CX outer H s E e s'
structure FnOk (P:Program) (w:World) (K:PySem.W.Frag) (mg:Str→Option Value) (base:Heap) (CX:CXT) (k:Nat) (f:Addr) (fd:FuncData) (ps:List Str) (sp:Sp):Prop where
 len:∀ vs H Q E,sp vs H Q E→vs.length=ps.length
 run:∀ (A:Around) (outer:List Env) (s:Shared) (H:Hp) (args:Args) (us:List Value) (vs:List V) (Q:VK) (E:XK),Room k A→Env0 P w K mg base A outer s H→BindsTo s fd args (ps.zip us)→Vals vs us→sp vs H Q E →
  codeAny (model P w) A (.call (.ref f) args) (CR CX outer P w H s Q E) s
theorem FnOk.mono {P:Program} {w:World} {K:PySem.W.Frag} {mg:Str→Option Value} {base:Heap} {CX:CXT} {j k:Nat} {f:Addr} {fd:FuncData} {ps:List Str} {sp:Sp} (F:FnOk P w K mg base CX j f fd ps sp) (h:j≤k) :
  FnOk P w K mg base CX k f fd ps sp:=⟨F.len,fun A outer s H args us vs Q E hr=>F.run A outer s H args us vs Q E (hr.mono h)⟩
theorem FnOk.imp {P:Program} {w:World} {K:PySem.W.Frag} {mg:Str→Option Value} {base:Heap} {CX:CXT} {k:Nat} {f:Addr} {fd:FuncData} {ps:List Str} {sp sp':Sp} (F:FnOk P w K mg base CX k f fd ps sp)
  (h:∀ vs H Q E,sp' vs H Q E→sp vs H Q E):FnOk P w K mg base CX k f fd ps sp' :=
 ⟨fun vs H Q E q=>F.len vs H Q E (h _ _ _ _ q),fun A outer s H args us vs Q E hr he hb hv hs=>F.run A outer s H args us vs Q E hr he hb hv (h _ _ _ _ hs)⟩
section
variable {X:Cx} {pins:List (Addr × Obj)} {σ:St} {H:Hp} {s s':Shared}
theorem Inv.env0 (I:Inv X pins σ H s):Env0 X.prog X.w X.K X.mg X.base X.A X.stack s H :=
 ⟨I.ok.frames,I.ok.mod,I.bs,Nat.le_trans I.ok.bsz I.sz,I.stack,I.stkFree,I.hok,I.bare⟩
theorem Inv.after {Q:VK} {u:Value} (I:Inv X pins σ H s) (h:CE X.stack X.prog X.w H s Q u s'):EP X pins σ Q u s':=by
 obtain ⟨v,H',os,bare,un,hok,r,q⟩:=h
 obtain ⟨hh,g,d,t,os'⟩:=s'
 obtain rfl:os'=s.os:=os
 exact ⟨v,H',I.call (h':=hh) (g':=g) (d':=d) (t':=t) (ch:=[]) un hok bare (fun b z=>absurd z (by simp)),r,q⟩
end
def tj (sp:Sp) (dvs:List V) (E:XK) (t:TA):TE:=fun σ H Q=>t σ H fun vs H1=>sp (vs++dvs) H1 Q E
def Binds (K:PySem.W.Frag) (fd:FuncData) (ps:List Str) (ds:List Value):Prop :=
 ∀ (s:Shared) (us:List Value),K.In s.heap→(us++ds).length=ps.length→BindsTo s fd ⟨us,[]⟩ (ps.zip (us++ds))
theorem Binds.all {K:PySem.W.Frag} {fd:FuncData} {ps:List Str} (h:∀ us:List Value,us.length=ps.length→bindArgs fd ⟨us,[]⟩=pure (ps.zip us)):Binds K fd ps []:=fun s us _ hl=>by
 rw [List.append_nil] at hl ⊢
 exact .of_eq (h us hl)
def rG (CX:CXT) (X:Cx) (E:XK):Prop:=∀ (pins:List (Addr × Obj)) (σ:St) (H:Hp) (s:Shared) (e:Value) (s':Shared),Inv X pins σ H s→CX X.stack H s E e s'→X.xe e s'
section
variable {X:Cx} {CX:CXT} {k:Nat} {f C:Addr} {fd:FuncData} {ps:List Str} {sp:Sp} {dvs:List V} {ds:List Value} {E:XK} {x m:Str} {p pos apos:Pos} {e o:Expr} {es:List Expr} {ta:TE} {t:TA}
theorem GE {pins:List (Addr × Obj)} {σ:St} {H:Hp} {s:Shared} {Q:VK} {us:List Value} {vs:List V} (F:FnOk X.prog X.w X.K X.mg X.base CX k f fd ps sp) (hr:Room k X.A) (hb:Binds X.K fd ps ds) (hd:Vals dvs ds) (hx:rG CX X E)
  (I:Inv X pins σ H s) (r:Vals vs us) (h:sp (vs++dvs) H Q E):wpAny (model X.prog X.w) X.A (call (.ref f) us) (EP X pins σ Q) X.xe s:=by
 have r2:Vals (vs++dvs) (us++ds):=r.append hd
 have hl:(us++ds).length=ps.length:=by rw [← r2.length]; exact F.len _ _ _ _ h
 refine wpAny_call (codeAny_mono (F.run X.A X.stack s H ⟨us,[]⟩ (us++ds) (vs++dvs) Q E hr I.env0 (hb s us I.kIn hl) r2 h) fun r s' hq=>?_)
 cases r with
 | error e=>exact hx pins σ H s e s' I hq
 | ok fl =>
  cases fl with
  | ret u=>exact I.after hq
  | next=>exact False.elim hq
  | brk=>exact False.elim hq
  | cont=>exact False.elim hq
theorem Du (F:FnOk X.prog X.w X.K X.mg X.base CX k f fd ps sp) (hr:Room k X.A) (hg:Gl X x) (hm:X.mg x=some (.ref f)) (hk:PySem.W.keepIn X.K (.ref f)=true) (hb:Binds X.K fd ps ds) (hd:Vals dvs ds) (hx:rG CX X E)
  (ha:PA X (e :: es) t) (hdb:(x == ("__debug__" : Str))=false:=by decide) (he:starEach (e :: es) X.env=(false,eval e X.env) :: starEach es X.env:=by rfl) (hpl:(backTo pos (starEach es X.env)).any (·.1)=false:=by rfl) :
  PE X (.Call (.Name x p) (e :: es) [] pos) (tj sp dvs E t):=by
 intro pins s σ H Q I h
 refine wpAny_Call_Name_kw (jK I hg hm ?_ hdb)
 refine PySem.W.callWith_K (h₀:=X.base) I.ok.mod.kin hk (thn (ha pos pins s σ H _ I h) fun us s1 ⟨vs,H1,I1,r,q⟩=>⟨I1.kIn,?_⟩) he hpl
 exact GE F hr hb hd hx I1 r q
end
section
variable {X:Cx} {CX:CXT} {k:Nat} {f C:Addr} {fd:FuncData} {ps ks:List Str} {sp:Sp} {E:XK} {x m:Str} {p pos apos kpos:Pos} {e o:Expr} {es:List Expr} {kws:List Keyword} {te ta:TE} {t tk:TA} {nm:Option Str}
variable {g:List Value→List Value→List Value} {gV:List V→List V→List V}
end
structure FnScope (N P:List Str) (sc:Scope):Prop where
 kind:sc.kind=.function
 co:sc.isCoroutine=false
 gen:sc.isGenerator=false
 nd:N.Nodup
 pre:N.take P.length=P
 par:∀ x∈P,sc.names.lookup x=some .local∨sc.names.lookup x=some .cell
 nofree:∀ y∈sc.names,y.2≠.free
theorem pJ {kindOf:Str→Option NameKind} {x:Str}:∀ {binds:List (Str × Value)} {m:Str→Option Value},(∀ v,(x,v) ∉ binds)→bindL kindOf binds m x=m x
 | [],_,_=>rfl
 | (n,v) :: r,m,h=>by
  unfold bindL
  rw [pJ fun w hw=>h w (List.mem_cons_of_mem _ hw)]
  split
  ·have:x≠n:=by rintro rfl; exact h v List.mem_cons_self
   simp [this]
  ·rfl
theorem pL {kindOf:Str→Option NameKind} {x:Str}:∀ {binds:List (Str × Value)} {m:Str→Option Value},(∀ v,(x,v) ∉ binds)→bindC kindOf binds m x=m x
 | [],_,_=>rfl
 | (n,v) :: r,m,h=>by
  unfold bindC
  rw [pL fun w hw=>h w (List.mem_cons_of_mem _ hw)]
  split
  ·rfl
  ·have:x≠n:=by rintro rfl; exact h v List.mem_cons_self
   simp [this]
theorem pK {kindOf:Str→Option NameKind} {x:Str} {v:Value}:∀ {P:List Str} {vs:List Value} {i:Nat} {m:Str→Option Value},P.Nodup→P[i]?=some x→vs[i]?=some v→kindOf x=some .local →
  bindL kindOf (P.zip vs) m x=some v
 | [],_,_,_,_,h,_,_=>by simp at h
 | _ :: _,[],_,_,_,_,h,_=>by simp at h
 | p :: P,w :: vs,0,m,nd,h1,h2,hk=>by
  simp at h1 h2; subst h1; subst h2
  show bindL kindOf ((p,w) :: P.zip vs) m p=_
  unfold bindL
  rw [pJ fun v hv=>(List.nodup_cons.mp nd).1 (List.of_mem_zip hv).1,if_pos hk]
  simp
 | p :: P,w :: vs,i+1,m,nd,h1,h2,hk=>by
  show bindL kindOf ((p,w) :: P.zip vs) m x=_
  unfold bindL
  exact pK (i:=i) (List.nodup_cons.mp nd).2 (by simpa using h1) (by simpa using h2) hk
theorem pM {kindOf:Str→Option NameKind} {x:Str} {v:Value}:∀ {P:List Str} {vs:List Value} {i:Nat} {m:Str→Option Value},P.Nodup→P[i]?=some x→vs[i]?=some v→kindOf x≠some .local →
  bindC kindOf (P.zip vs) m x=some v
 | [],_,_,_,_,h,_,_=>by simp at h
 | _ :: _,[],_,_,_,_,h,_=>by simp at h
 | p :: P,w :: vs,0,m,nd,h1,h2,hk=>by
  simp at h1 h2; subst h1; subst h2
  show bindC kindOf ((p,w) :: P.zip vs) m p=_
  unfold bindC
  rw [pL fun v hv=>(List.nodup_cons.mp nd).1 (List.of_mem_zip hv).1,if_neg hk]
  simp
 | p :: P,w :: vs,i+1,m,nd,h1,h2,hk=>by
  show bindC kindOf ((p,w) :: P.zip vs) m x=_
  unfold bindC
  exact pM (i:=i) (List.nodup_cons.mp nd).2 (by simpa using h1) (by simpa using h2) hk
def dE (N:List Str) (vs:List V):St:=vs.map some++List.replicate (N.length - vs.length) none
def i7 (CX:CXT) (P:Program) (w:World) (K:PySem.W.Frag) (mg:Str→Option Value) (base:Heap) (N:List Str) (qual:Str) (scope:Scope) (f:Addr) (cd:Value) (A:Around) (outer:List Env) (s:Shared) (H:Hp) (E:XK):Cx where
 prog:=P
 w:=w
 K:=K
 mg:=mg
 base:=base
 A:=A.deeper (envOfC qual scope s.heap.objs.size f cd)
 N:=N
 s₀:=s
 H₀:=H
 env:=envOfC qual scope s.heap.objs.size f cd
 outer:=outer
 stack:=envOfC qual scope s.heap.objs.size f cd :: outer
 ex:=[]
 calm:=true
 fn:=fun _=>true
 pn:=[]
 xe:=fun e s'=>wpAny (model P w) (A.deeper (envOfC qual scope s.heap.objs.size f cd)) (leaving (envOfC qual scope s.heap.objs.size f cd) e) (fun _ s''=>CX outer H s E e s'') (fun e' s''=>CX outer H s E e' s'') s'
theorem rq {sc:Scope} {n:Nat} {x:Str} (h:sc.names.lookup x=some .cell):∃ c,(cellsFrom n sc.names []).lookup x=some c:=by
 have q:=PySem.W.cellsFrom_some sc.names n [] (.inl h)
 exact Option.isSome_iff_exists.mp q
theorem u5 {CX:CXT} {P:Program} {w:World} {K:PySem.W.Frag} {mg:Str→Option Value} {base:Heap} {N ps:List Str} {qual:Str} {scope:Scope} {f:Addr} {cd:Value} {A:Around} {outer:List Env} {s s1:Shared} {H:Hp} {E:XK} {us:List Value} {vs:List V}
  (S:FnScope N ps scope) (hd:A.handled=none) (e0:Env0 P w K mg base A outer s H) (hl:vs.length=ps.length) (r:Vals vs us)
  (x:InCallC s s.heap.objs.size (bindL (envOfC qual scope s.heap.objs.size f cd).kindOf (ps.zip us) fun _=>none) (cellsFrom (s.heap.objs.size+1) scope.names []) (bindC (envOfC qual scope s.heap.objs.size f cd).kindOf (ps.zip us) fun _=>none) s1) :
  Inv (i7 CX P w K mg base N qual scope f cd A outer s H E) [] (dE N vs) H s1:=by
 have hpl:ps.length≤N.length:=by have:=congrArg List.length S.pre; rw [List.length_take] at this; omega
 obtain ⟨h1,tk,rfl,hk⟩:=x.done
 have noA:∀ b:Addr,b ∉ (i7 CX P w K mg base N qual scope f cd A outer s H E).ex:=fun b z=>absurd (show b∈([]:List Addr) from z) (by simp)
 refine ⟨⟨e0.mod,S.kind,rfl,rfl,Nat.le_refl _,fun y z c h1 h2=>?_,fun y hy=>?_,fun y c _ h=>?_,fun _=>hd,Around.frames_deeper e0.frames,.inr ⟨rfl,rfl⟩,fun b z=>absurd z (noA b),e0.bs,e0.bsz,fun b _ _=>noA b,fun b z=>absurd z (noA b),e0.funs,e0.frf⟩,
  rfl,e0.bare,Un.kept hk,⟨_,x.toInCall.ns,fun i y v h1 h2 h3=>?_⟩,fun y c h=>⟨_,x.cell y c h⟩,e0.hok.fresh (Nat.le_refl _),fun y c h=>?_,fun p hp=>absurd (show p∈([]:List (Addr × Obj)) from hp) (by simp),e0.hok.kept hk,?_⟩
 ·exact name_of_addr x.apart (PySem.mem_of_lookup h1) (PySem.mem_of_lookup h2)
 ·have hy:scope.names.lookup y=some .cell∨scope.names.lookup y=some .free:=hy
  rcases hy with hy | hy
  ·exact rq hy
  ·exact absurd rfl (S.nofree _ (PySem.mem_of_lookup hy))
 ·exact Nat.le_of_lt (x.above y c (PySem.mem_of_lookup h))
 ·have hi:i < vs.length:=by
   unfold dE at h2
   by_cases hi:i < vs.length
   ·exact hi
   ·rw [List.getElem?_append_right (by simpa using hi)] at h2
    rw [List.getElem?_replicate] at h2
    split at h2 <;> cases h2
  have ha:vs[i]?=some v:=by
   unfold dE at h2
   rw [List.getElem?_append_left (by simpa using hi),List.getElem?_map] at h2
   cases e:vs[i]? with
   | none=>rw [e] at h2; cases h2
   | some a=>rw [e] at h2; cases h2; rfl
  obtain ⟨u,hu,rv⟩:=r.get ha
  have hp:ps[i]?=some y:=by
   rw [← S.pre,List.getElem?_take_of_lt (by omega)]; exact h1
  have ndP:ps.Nodup:=by rw [← S.pre]; exact S.nd.sublist (List.take_sublist _ _)
  refine ⟨u,rv,?_⟩
  rcases S.par y (List.mem_of_getElem? hp) with k | k
  ·exact .inl ⟨k,pK ndP hp hu k⟩
  ·obtain ⟨c,e⟩:=rq (n:=s.heap.objs.size+1) k
   refine .inr ⟨.inl k,c,e,?_⟩
   have q:=x.cell y c e
   rw [pM ndP hp hu (by show scope.names.lookup y≠_; rw [k]; decide)] at q
   exact q
 ·exact e0.hok.fresh (Nat.le_of_lt (x.above y c (PySem.mem_of_lookup h)))
 ·unfold dE
  show _=N.length
  rw [List.length_append,List.length_map,List.length_replicate]
  omega
theorem C3 {CX:CXT} {P:Program} {w:World} {K:PySem.W.Frag} {mg:Str→Option Value} {base:Heap} {k:Nat} {f:Addr} {name qual:Str} {params:Arguments} {body:List Stmt} {scope:Scope} {dV kV doc pm cdv ct oc:Value} {an od:Option Addr}
  {osl:Array (Option Value)} {N ps:List Str} {sp:Sp} (lk:K.lookup f=some ⟨oc,od,.func (PySem.W.fnOf name qual params body scope dV kV doc pm an cdv ct),osl⟩) (hcd:PySem.W.codeIn K cdv qual=true) (S:FnScope N ps scope)
  (len:∀ vs H Q E,sp vs H Q E→vs.length=ps.length)
  (hbody:∀ (A:Around) (outer:List Env) (s:Shared) (H:Hp) (vs:List V) (Q:VK) (E:XK),Room k (A.deeper (envOfC qual scope s.heap.objs.size f cdv))→sp vs H Q E →
   ∃ t,PSs (i7 CX P w K mg base N qual scope f cdv A outer s H E) body t∧t { nx:=fun _ H'=>Q .non H',rt:=Q } (dE N vs) H) :
  FnOk P w K mg base CX (k+1) f (PySem.W.fnOf name qual params body scope dV kV doc pm an cdv ct) ps sp:=by
 refine ⟨len,fun A outer s H args us vs Q E hr e0 hb r hsp=>?_⟩
 have hl:=len _ _ _ _ hsp
 have KX:K.In s.heap:=e0.mod.kin.keeps fun b o e=>(e0.bs b o e).1
 have lim:s.heap.NoLimit:=e0.mod.nolimit.keeps fun b o e=>(e0.bs b o e).1
 have hkind:∀ y∈ps.zip us,scope.names.lookup y.1=some .local∨(scope.names.lookup y.1=some .cell∧((cellsFrom (s.heap.objs.size+1) scope.names []).lookup y.1).isSome=true):=fun ⟨n,v⟩ hy=>by
  rcases S.par n (List.of_mem_zip hy).1 with q | q
  ·exact .inl q
  ·exact .inr ⟨q,PySem.W.cellsFrom_some _ _ _ (.inl q)⟩
 refine codeAny_call_function hr.depth (KX _ _ lk) rfl S.co S.gen rfl (PySem.W.codeRec_of KX hcd) (hb _ _ _ _ ?_)
 refine wpAny_newFunctionEnv_cells S.kind hkind fun env he s1 x=>?_
 subst he
 refine ⟨lim.keeps x.toInCall.keep,codeAny_func ?_⟩
 obtain ⟨t,ht,hq⟩:=hbody A outer s H vs Q E (hr.deeper _) hsp
 have I:Inv (i7 CX P w K mg base N qual scope f cdv A outer s H E) [] (dE N vs) H s1:=u5 S hr.hd e0 hl r x
 refine wpAny_mono (ht [] s1 (dE N vs) H _ I hq) (fun fl s' hs=>?_) fun e s' hs=>hs
 have fin:∀ {σ':St} {H':Hp} {v:V} {u:Value},Inv (i7 CX P w K mg base N qual scope f cdv A outer s H E) [] σ' H' s'→RelV v u→Q v H'→CE outer P w H s Q u s' :=
  fun {σ' H' v u} J rv q=>⟨v,H',J.os,J.bare,J.base,J.hok,rv,q⟩
 cases fl with
 | ret u =>
  obtain ⟨v,σ',H',J,rv,q⟩:=hs
  exact fin J rv q
 | next =>
  obtain ⟨σ',H',J,q⟩:=hs
  exact fin (v:=V.non) (u:=Value.none) J rfl q
 | brk =>
  obtain ⟨_,_,_,q⟩:=hs
  exact False.elim q
 | cont =>
  obtain ⟨_,_,_,q⟩:=hs
  exact False.elim q
end L2
namespace L2
open PySem PySem.Spec PyProof.Rows
section
variable {X:Cx} {x:Str} {p pos:Pos} {e:Expr} {es:List Expr} {t:TA} {id T:String} {r:List V→Hp→VK→Prop}
def tCB (r:List V→Hp→VK→Prop) (t:TA):TE:=fun σ H Q=>t σ H fun vs H1=>r vs H1 Q
theorem iT (hc:CallR X (.builtin id) r) (hg:Gl X x) (hm:X.mg x=none) (hv:bootBuiltins x=some (.builtin id)) (ha:PA X (e :: es) t) (hn:x≠"__name__":=by decide) (hdb:(x == ("__debug__" : Str))=false:=by decide)
  (he:starEach (e :: es) X.env=(false,eval e X.env) :: starEach es X.env:=by rfl) (hpl:(backTo pos (starEach es X.env)).any (·.1)=false:=by rfl):PE X (.Call (.Name x p) (e :: es) [] pos) (tCB r t):=by
 intro pins s σ H Q I h
 refine wpAny_Call_Name_kw (nA I hg hm hv ?_ hn hdb)
 exact PyProof.Rows.callWith_builtin1 (thn (ha pos pins s σ H _ I h) fun us s1 ⟨vs,H1,I1,r1,q1⟩=>hc pins s1 σ H1 vs us Q I1 r1 q1) he hpl
theorem pk (hc:CallR X (.type T) r) (hg:Gl X x) (hm:X.mg x=none) (hv:bootBuiltins x=some (.type T)) (ha:PA X (e :: es) t) (hn:x≠"__name__":=by decide) (hdb:(x == ("__debug__" : Str))=false:=by decide)
  (he:starEach (e :: es) X.env=(false,eval e X.env) :: starEach es X.env:=by rfl) (hpl:(backTo pos (starEach es X.env)).any (·.1)=false:=by rfl):PE X (.Call (.Name x p) (e :: es) [] pos) (tCB r t):=by
 intro pins s σ H Q I h
 refine wpAny_Call_Name_kw (nA I hg hm hv ?_ hn hdb)
 exact PyProof.Rows.callWith_type1 (thn (ha pos pins s σ H _ I h) fun us s1 ⟨vs,H1,I1,r1,q1⟩=>hc pins s1 σ H1 vs us Q I1 r1 q1) he hpl
end
end L2
namespace HT
open PySem PyProof.Rows
section
open PySem.SeqAt
open PySem.AutoSeq1 (wpAny_loadPart')
open PySem.MeetsSeq PySem.MeetsSeq2 PySem.MeetsSeq3
end
section
variable {prog:Program} {w:World} {A:Around} {E:Value→Shared→Prop} {s:Shared}
theorem cat_tup {t b:Addr} {vs ws:List Value} {Q:Value→Shared→Prop} (ht:IsTup s.heap t vs.toArray) (hb:IsTup s.heap b ws.toArray) (hv:vs≠[])
  (h1:ws=[]→Q (.ref t) s) (h2:ws≠[]→Q (.ref s.heap.objs.size) { s with heap:=s.heap.push { cls:=.type "tuple",data:=.seq (vs++ws).toArray } })
  (hsz:vs.length+ws.length≤sizeLine):wpAny (model prog w) A (binaryOp .Add (.ref t) (.ref b)) Q E s:=by
 obtain ⟨⟨cls,dd,data,sl⟩,ho,hc,n,hd⟩:=id ht
 obtain ⟨⟨cls2,dd2,data2,sl2⟩,ho2,hc2,n2,hd2⟩:=id hb
 simp only at hc hd hc2 hd2
 subst hc hd hc2 hd2
 have e:vs.toArray++ws.toArray=(vs++ws).toArray:=by simp
 by_cases hw:ws=[]
 ·exact concat_meets ⟨_,ho,rfl⟩ ⟨_,ho2,rfl⟩ noFill_tuple_add seq_tuple_add PySem.F.slot_tuple_add PySem.F.entry_tuple_add (PySem.F.args_tuple_add_2 _ _)
   (tuple_addW1 t b vs.toArray ws.toArray n n2 dd dd2 sl sl2 (by simpa using hv) (by simp [hw])) ⟨ho,ho2,h1 hw⟩
 ·refine concat_meets ⟨_,ho,rfl⟩ ⟨_,ho2,rfl⟩ noFill_tuple_add seq_tuple_add PySem.F.slot_tuple_add PySem.F.entry_tuple_add (PySem.F.args_tuple_add_2 _ _)
   (tuple_addW2 t b vs.toArray ws.toArray n n2 dd dd2 sl sl2 (by simpa using hv) (by simpa using hw) (by rw [List.size_toArray,List.size_toArray]; exact hsz)) ⟨ho,ho2,?_⟩
  rw [e]
  exact h2 hw
def sIx (n d:Nat):Option Int→Nat
 | none=>d
 | some v=>if v < 0 then (v+(n:Int)).toNat else min v.toNat n
theorem sIx_none (n d:Nat):sIx n d none=d:=rfl
theorem sIx_nat (n d k:Nat):sIx n d (some (k:Int))=min k n:=by
 show (if (k:Int) < 0 then ((k:Int)+(n:Int)).toNat else min (k:Int).toNat n)=min k n
 rw [if_neg (by omega),Int.toNat_natCast]
theorem qA (n d:Nat) (hd:d≤n) (o:Option Int):sIx n d o≤n:=by
 cases o with
 | none=>exact hd
 | some v =>
  show (if v < 0 then (v+(n:Int)).toNat else min v.toNat n)≤n
  by_cases hv:v < 0
  ·rw [if_pos hv]; omega
  ·rw [if_neg hv]; exact Nat.min_le_right _ _
theorem sU (v:Int) (n d:Nat):(if v < 0 then max (v+(n:Int)) 0 else min v (n:Int))=((sIx n d (some v):Nat):Int):=by
 show (if v < 0 then max (v+(n:Int)) 0 else min v (n:Int))=(((if v < 0 then (v+(n:Int)).toNat else min v.toNat n):Nat):Int)
 by_cases hv:v < 0
 ·simp only [if_pos hv]; omega
 ·simp only [if_neg hv]; omega
theorem um (lo hi:Option Int) (n:Nat):Builtin.Slice.sliceAdjust lo hi 1 (n:Int)=(((sIx n 0 lo:Nat):Int),((sIx n n hi:Nat):Int)):=by
 have h1:¬ ((1:Int) < 0):=by omega
 unfold Builtin.Slice.sliceAdjust
 simp only [h1,if_false]
 refine Prod.ext ?_ ?_
 ·cases lo with
  | none=>rfl
  | some v=>exact sU v n 0
 ·cases hi with
  | none=>rfl
  | some v=>exact sU v n n
theorem tz (i j:Nat):Builtin.Slice.slicePlaces (i:Int) (j:Int) 1=j - i:=by
 unfold Builtin.Slice.slicePlaces
 have h1:(1:Int) > 0:=by omega
 simp only [h1,if_true,Int.ediv_one]
 split <;> omega
theorem slicePart_ {v:Value} {o:Option Int} {Q:Option Int→Shared→Prop} (p:IsPart v o) (h:Q o s):wpAny (model prog w) A (Builtin.Slice.slicePartIndex v) Q E s:=by
 cases p with
 | none=>exact slicePart_none h
 | int i t=>exact slicePart_int h
theorem mB {sl:Addr} {vl vu:Value} {lo hi:Option Int} {n:Nat} {Q:Int × Int × Nat→Shared→Prop} (hs:s.heap.IsSliceOf sl vl vu .none) (pl:IsPart vl lo) (pu:IsPart vu hi)
  (h:Q (((sIx n 0 lo:Nat):Int),1,sIx n n hi - sIx n 0 lo) s):wpAny (model prog w) A (Builtin.Slice.sliceApplied (.ref sl) (pure (n:Int))) Q E s:=by
 obtain ⟨os,hos,hcs,hds⟩:=id hs
 unfold Builtin.Slice.sliceApplied Builtin.Slice.sliceFields
 refine wpAny_bind (wpAny_bind (wpAny_field hos hds (x:=vl) rfl (wpAny_bind (wpAny_field hos hds (x:=vu) rfl (wpAny_bind (wpAny_field hos hds (x:=.none) rfl (wpAny_pure ?_)))))))
 refine wpAny_bind (slicePart_none ?_)
 show wpAny _ _ (if ((1:Int) == 0)=true then _ else _) _ _ s
 rw [if_neg (by decide)]
 refine wpAny_bind (slicePart_ pl (wpAny_bind (slicePart_ pu (wpAny_bind (wpAny_pure ?_)))))
 show wpAny _ _ (match Builtin.Slice.sliceAdjust lo hi 1 (n:Int) with | (lo,hi)=>pure (lo,(1:Int),Builtin.Slice.slicePlaces lo hi 1)) _ _ s
 rw [um lo hi n]
 show wpAny _ _ (pure (((sIx n 0 lo:Nat):Int),(1:Int),Builtin.Slice.slicePlaces ((sIx n 0 lo:Nat):Int) ((sIx n n hi:Nat):Int) 1)) _ _ s
 rw [tz]
 exact wpAny_pure h
theorem wd (xs:Array Value) (i k:Nat):((List.range k).filterMap fun (m:Nat)=>xs[((i:Int)+(m:Int) * 1).toNat]?).toArray=((xs.toList.drop i).take k).toArray:=by
 have e:(fun (m:Nat)=>xs[((i:Int)+(m:Int) * 1).toNat]?)=fun m=>xs[i+m]?:=by
  funext m
  have:((i:Int)+(m:Int) * 1).toNat=i+m:=by omega
  rw [this]
 rw [e]
 have:=pick_run xs i k
 rw [List.filterMap_map] at this
 have e2:((fun x=>xs[x]?) ∘ fun x=>i+x)=fun m=>xs[i+m]?:=rfl
 rw [e2] at this
 rw [this]
theorem getItem_tuple_cut {t sl:Addr} {items:Array Value} {vl vu:Value} {lo hi:Option Int} {Q:Value→Shared→Prop} (ht:IsTup s.heap t items) (hs:s.heap.IsSliceOf sl vl vu .none) (pl:IsPart vl lo) (pu:IsPart vu hi)
  (hw:¬ (sIx items.size 0 lo=0∧sIx items.size items.size hi=items.size))
  (h:Q (.ref s.heap.objs.size) { s with heap:=s.heap.push { cls:=.type "tuple",data:=.seq ((items.toList.drop (sIx items.size 0 lo)).take (sIx items.size items.size hi - sIx items.size 0 lo)).toArray } })
  (hsz:items.size≤sizeLine):wpAny (model prog w) A (getItem (.ref t) (.ref sl)) Q E s:=by
 have htake:sizeOk (.seq ((items.toList.drop (sIx items.size 0 lo)).take (sIx items.size items.size hi - sIx items.size 0 lo)).toArray):=by
  show ((items.toList.drop (sIx items.size 0 lo)).take (sIx items.size items.size hi - sIx items.size 0 lo)).toArray.size≤sizeLine
  rw [List.size_toArray,List.length_take,List.length_drop,Array.length_toList]
  omega
 have hj:sIx items.size items.size hi≤items.size:=qA _ _ (Nat.le_refl _) hi
 obtain ⟨os,hos,hcs,hds⟩:=id hs
 have hTs:s.TypeIs (.ref sl) "slice":=⟨os,hos,hcs⟩
 unfold getItem
 try with_reducible refine wpAny_holding ?_
 first | refine wpAny_bind (wpAny_pure ?_) | skip
 refine wpAny_bind (wpAny_sequenceKey ht.typeIs (by decide) ?_)
 refine wpAny_bind (wpAny_callSpecial?_slot (name:=Str.ofString "__getitem__") ht.typeIs PyProof.Rows.slot_tuple_getitem
  (wpAny_call_entry PyProof.Rows.slot_tuple_getitem ht.typeIs entry_tuple_getitem ?_ (args_tuple_getitem _ _)))
 show wpAny _ _ (Builtin.Tuple.tupleItemsOf (.ref t) >>= _) _ _ s
 refine wpAny_bind (tupleItemsOf_ ht ?_)
 refine wpAny_bind (wpAny_typeOf hTs ?_)
 rw [if_pos (by decide)]
 refine wpAny_bind (mB hs pl pu ?_)
 have hno:¬ ((((sIx items.size 0 lo:Nat):Int) == 0 && (1:Int) == 1 && (sIx items.size items.size hi - sIx items.size 0 lo) == items.size)=true):=by
  intro q
  rw [Bool.and_eq_true,Bool.and_eq_true] at q
  have q1:((sIx items.size 0 lo:Nat):Int)=0:=eq_of_beq q.1.1
  have q2:sIx items.size items.size hi - sIx items.size 0 lo=items.size:=eq_of_beq q.2
  exact hw ⟨by omega,by omega⟩
 show wpAny _ _ (if (((sIx items.size 0 lo:Nat):Int) == 0 && (1:Int) == 1 && (sIx items.size items.size hi - sIx items.size 0 lo) == items.size)=true then _ else _) _ _ s
 rw [if_neg hno,wd]
 first
  | exact wpAny_bind (m:=Builtin.Tuple.tupleExact _) (wpAny_newObj_type (wpAny_pure ⟨_,rfl,wpAny_pure h⟩) htake)
  | exact wpAny_bind (m:=Builtin.Tuple.tupleExact _) (wpAny_newObj_type (wpAny_bind (wpAny_pure (wpAny_pure ⟨_,rfl,wpAny_pure h⟩))) htake)
  | exact wpAny_bind (wpAny_bind (m:=Builtin.Tuple.tupleExact _) (wpAny_newObj_type (wpAny_pure (wpAny_pure ⟨_,rfl,wpAny_pure h⟩)) htake))
  | exact wpAny_bind (wpAny_bind (m:=Builtin.Tuple.tupleExact _) (wpAny_newObj_type (wpAny_pure ⟨_,rfl,wpAny_pure h⟩) htake))
end
end HT
namespace L2
open PySem PySem.Spec PyProof.Rows
abbrev TO:=St→Hp→(Option Int→Hp→Prop)→Prop
def PO (X:Cx) (e:Option Expr) (t:TO):Prop :=
 ∀ (pins:List (Addr × Obj)) (s:Shared) (σ:St) (H:Hp) (Q:Option Int→Hp→Prop),Inv X pins σ H s→t σ H Q →
  wpAny (model X.prog X.w) X.A (evalPart e X.env) (fun u s'=>∃ o H',Inv X pins σ H' s'∧IsPart u o∧Q o H') X.xe s
def De:TO:=fun _ H Q=>Q none H
def IJ (t:TE):TO:=fun σ H Q=>t σ H fun x H1=>∃ i,x=.int i∧Q (some i) H1
theorem t8 {ns:List Int}:∀ {us:List Value},Vals (ns.map V.int) us→IntsAre us ns:=by
 induction ns with
 | nil=>intro us r; rw [List.map_nil] at r; cases r; exact .nil
 | cons n ns ih =>
  intro us r
  rw [List.map_cons] at r
  cases r with
  | cons r1 r2 =>
   obtain ⟨t,e⟩:=r1
   subst e
   exact .cons n t (ih r2)
section
variable {X:Cx} {e:Expr} {te:TE} {lo hi:Option Expr} {tl th:TO} {pos p2:Pos}
theorem po_none:PO X none De:=by
 intro pins s σ H Q I h
 rw [evalPart_none]
 exact wpAny_pure ⟨none,H,I,.none,h⟩
theorem Dq (h:PE X e te):PO X (some e) (IJ te):=by
 intro pins s σ H Q I hw
 rw [evalPart_some]
 refine thn (h pins s σ H _ I hw) fun u s1 ⟨x,H1,I1,r1,q1⟩=>?_
 obtain ⟨i,rfl,q⟩:=q1
 obtain ⟨t,rfl⟩:=r1
 exact ⟨some i,H1,I1,.int i t,q⟩
def SlR (X:Cx) (r:V→Option Int→Option Int→Hp→VK→Prop):Prop :=
 ∀ (pins:List (Addr × Obj)) (s:Shared) (σ:St) (H:Hp) (x:V) (v vl vu:Value) (lo hi:Option Int) (sl:Addr) (Q:VK),Inv X pins σ H s→RelV x v→s.heap.IsSliceOf sl vl vu .none→IsPart vl lo→IsPart vu hi→r x lo hi H Q →
  ∃ T id,typeLookup (.type T) "__getitem__"=pure (some (.builtin id))∧s.TypeIs v T∧wpAny (model X.prog X.w) X.A (getItem v (.ref sl)) (EP X pins σ Q) X.xe s
def tSl (r:V→Option Int→Option Int→Hp→VK→Prop) (te:TE) (tl th:TO):TE:=fun σ H Q=>te σ H fun x H1=>tl σ H1 fun l H2=>th σ H2 fun u H3=>r x l u H3 Q
theorem we {r:V→Option Int→Option Int→Hp→VK→Prop} (hr:SlR X r) (he:PE X e te) (hl:PO X lo tl) (hu:PO X hi th):PE X (.Subscript e (.Slice lo hi none p2) pos) (tSl r te tl th):=by
 intro pins s σ H Q I h
 refine Subscript_ (thn (he pins s σ H _ I h) fun v s1 ⟨x,H1,I1,r1,q1⟩=>?_)
 refine wpAny_Slice (thn (hl pins s1 σ H1 _ I1 q1) fun vl s2 ⟨l,H2,I2,pl,q2⟩=>thn (hu pins s2 σ H2 _ I2 q2) fun vu s3 ⟨u,H3,I3,pu,q3⟩=>?_)
 rw [evalPart_none]
 refine wpAny_pure ?_
 have I4:Inv X pins σ H3 { s3 with heap:=s3.heap.push { cls:=.type "slice",data:=.fields #[vl,vu,.none] } }:=I3.kept (t':=s3.toks) fun b ob q=>Heap.get?_push_of_some _ q
 obtain ⟨T,id,hT,ht,hg⟩:=hr pins { s3 with heap:=s3.heap.push { cls:=.type "slice",data:=.fields #[vl,vu,.none] } } σ H3 x v vl vu l u s3.heap.objs.size Q I4 r1 (Heap.IsSliceOf.new ..) pl pu q3
 show wpAny (model X.prog X.w) X.A (subscriptTail e (.Slice lo hi none p2) v (.ref s3.heap.objs.size)) (EP X pins σ Q) X.xe { s3 with heap:=s3.heap.push { cls:=.type "slice",data:=.fields #[vl,vu,.none] } }
 exact tail_any (ops:=[.ref s3.heap.objs.size,v]) ht hT hg (by with_unfolding_all rfl)
def ls (xs:List V) (lo hi:Option Int):List V:=(xs.drop (HT.sIx xs.length 0 lo)).take (HT.sIx xs.length xs.length hi - HT.sIx xs.length 0 lo)
theorem mf (xs:List V) (lo hi:Option Int):(ls xs lo hi).length≤xs.length:=by
 unfold ls
 rw [List.length_take,List.length_drop]
 omega
def GH (K:PySem.W.Frag):V→Option Int→Option Int→Hp→VK→Prop:=fun x lo hi H Q=>∃ a xs,x=.ref a∧SqT K H a xs ∧
 ¬ (HT.sIx xs.length 0 lo=0∧HT.sIx xs.length xs.length hi=xs.length)∧∀ p,H p=none→Q (.ref p) (upd H p (.tup (ls xs lo hi)))
theorem GD:SlR X (GH X.K):=by
 intro pins s σ H x v vl vu lo hi sl Q I rx hs pl pu h
 obtain ⟨a,xs,rfl,hx,hw,q⟩:=h
 cases rx
 obtain ⟨its,r,ht,hz⟩:=I.tuple hx
 have hlen:its.toArray.size=xs.length:=by rw [List.size_toArray]; exact r.length.symm
 refine ⟨"tuple",_,PyProof.Rows.slot_tuple_getitem.lookup,ht.typeIs,?_⟩
 refine HT.getItem_tuple_cut ht hs pl pu (by rw [hlen]; exact hw) ?_ (by rw [hlen]; exact hz)
 rw [hlen]
 refine ⟨.ref s.heap.objs.size,_,I.laid (t':=s.toks) (o:=.tup (ls xs lo hi)) (fun b ob q=>Heap.get?_push_of_some _ q) (Nat.le_refl _) ?_,rfl,q _ (I.hok.fresh (Nat.le_refl _))⟩
 exact ⟨Nat.le_trans (mf xs lo hi) hz,_,(r.drop (HT.sIx xs.length 0 lo)).take (HT.sIx xs.length xs.length hi - HT.sIx xs.length 0 lo),IsTupN.new _ _⟩
def CK (K:PySem.W.Frag):R2:=fun x y H Q=>∃ a b xs ys,x=.ref a∧y=.ref b∧SqT K H a xs∧SqT K H b ys∧xs≠[]∧xs.length+ys.length≤sizeLine ∧
 (ys=[]→Q (.ref a) H)∧(ys≠[]→∀ p,H p=none→Q (.ref p) (upd H p (.tup (xs++ys))))
theorem Vals.nil_iff {xs:List V} {us:List Value} (r:Vals xs us):us=[]↔xs=[]:=by
 cases r with
 | nil=>simp
 | cons _ _=>simp
theorem Dv:OpR X (binaryOp .Add) (CK X.K):=by
 intro pins s σ H x y v u Q I rx ry h
 obtain ⟨a,b,xs,ys,rfl,rfl,ha,hb,hx,hz,q1,q2⟩:=h
 cases rx
 cases ry
 obtain ⟨its,r1,p1,_⟩:=I.tuple ha
 obtain ⟨its2,r2,p2,_⟩:=I.tuple hb
 refine HT.cat_tup p1 p2 (fun z=>hx (r1.nil_iff.mp z)) (fun z=>⟨.ref a,H,I,rfl,q1 (r2.nil_iff.mp z)⟩) (fun z=>?_) (by rw [← r1.length,← r2.length]; exact hz)
 refine ⟨.ref s.heap.objs.size,_,I.laid (t':=s.toks) (o:=.tup (xs++ys)) (fun b ob q=>Heap.get?_push_of_some _ q) (Nat.le_refl _) ?_,rfl,q2 (fun w=>z (r2.nil_iff.mpr w)) _ (I.hok.fresh (Nat.le_refl _))⟩
 exact ⟨by rw [List.length_append]; exact hz,_,r1.append r2,IsTupN.new _ _⟩
end
end L2
namespace L2
open PySem PySem.Spec PyProof.Rows
def ixN (n:Nat) (i:Int):Option Nat:=if 0≤i then (if i < n then some i.toNat else none) else if -(n:Int)≤i then some (i+n).toNat else none
def atI {α:Type} (xs:List α) (i:Int):Option α:=(ixN xs.length i).bind fun j=>xs[j]?
theorem sL {n:Nat} {i:Int} {j:Nat} (h:ixN n i=some j):seqIndex? i n=some j∧j < n∧-(n:Int)≤i∧i < n:=by
 unfold ixN at h
 by_cases h0:0≤i
 ·rw [if_pos h0] at h
  by_cases h1:i < n
  ·rw [if_pos h1] at h
   have e:i.toNat=j:=Option.some.inj h
   exact ⟨by rw [seqIndex_of h0 h1,e],by omega,by omega,h1⟩
  ·rw [if_neg h1] at h; cases h
 ·rw [if_neg h0] at h
  by_cases h1:-(n:Int)≤i
  ·rw [if_pos h1] at h
   have e:(i+n).toNat=j:=Option.some.inj h
   exact ⟨by rw [seqIndex_neg (by omega) h1,e],by omega,h1,by omega⟩
  ·rw [if_neg h1] at h; cases h
theorem oV {α:Type} {xs:List α} {i:Int} {v:α} (h:atI xs i=some v):∃ j,seqIndex? i xs.length=some j∧xs[j]?=some v∧j < xs.length∧-(xs.length:Int)≤i∧i < xs.length:=by
 unfold atI at h
 cases e:ixN xs.length i with
 | none=>rw [e] at h; cases h
 | some j =>
  rw [e] at h
  obtain ⟨h1,h2,h3,h4⟩:=sL e
  exact ⟨j,h1,h,h2,h3,h4⟩
def hU (b:Expr):Prop:=∀ o i,subscripted b false o i=operate [o,i] (getItem o i)
def IxR (X:Cx) (r:R2):Prop :=
 ∀ (value slice:Expr) (pins:List (Addr × Obj)) (s:Shared) (σ:St) (H:Hp) (x y:V) (v u:Value) (Q:VK),Inv X pins σ H s→RelV x v→RelV y u→r x y H Q →
  subscripted slice false v u=operate [v,u] (getItem v u)→wpAny (model X.prog X.w) X.A (subscriptTail value slice v u) (EP X pins σ Q) X.xe s
def MtR (X:Cx) (id:String) (r:V→List V→Hp→VK→Prop):Prop :=
 ∀ (pins:List (Addr × Obj)) (s:Shared) (σ:St) (H:Hp) (x:V) (xs:List V) (v:Value) (us:List Value) (Q:VK),Inv X pins σ H s→RelV x v→Vals xs us→r x xs H Q →
  wpAny (model X.prog X.w) X.A (call (.builtin id) (v :: us)) (EP X pins σ Q) X.xe s
section
variable {X:Cx} {a b:Expr} {ta tb:TE} {pos:Pos}
theorem IxR.or {r r':R2} (h:IxR X r) (h':IxR X r'):IxR X (fun x y H Q=>r x y H Q∨r' x y H Q):=by
 intro value slice pins s σ H x y v u Q I rx ry q hs
 rcases q with q | q
 ·exact h value slice pins s σ H x y v u Q I rx ry q hs
 ·exact h' value slice pins s σ H x y v u Q I rx ry q hs
theorem tE {r:R2} (hr:IxR X r) (ha:PE X a ta) (hb:PE X b tb) (hs:hU b):PE X (.Subscript a b pos) (tOp r ta tb):=by
 intro pins s σ H Q I h
 exact Subscript_ (xv ha hb I h fun v u s2 x y H2 I2 rx ry q=>hr a b pins s2 σ H2 x y v u Q I2 rx ry q (hs _ _))
def tw (K:PySem.W.Frag):R2:=fun x y H Q=>∃ p xs i v,x=.ref p∧y=.int i∧SqL K H p xs∧atI xs i=some v∧Q v H
def GI (K:PySem.W.Frag):R2:=fun x y H Q=>∃ p xs i v,x=.ref p∧y=.int i∧SqT K H p xs∧atI xs i=some v∧Q v H
def GJ:R2:=fun x y H Q=>∃ z i c,x=.str z∧y=.int i∧z.length≤sizeLine∧atI z.cps.toList i=some c∧Q (.str ⟨#[c]⟩) H
theorem ix_list:IxR X (tw X.K):=by
 intro value slice pins s σ H x y v u Q I rx ry h hs
 obtain ⟨p,xs,i,z,rfl,rfl,hq,he,q⟩:=h
 cases rx
 obtain ⟨t,rfl⟩:=ry
 obtain ⟨its,r,pl,hz⟩:=I.list hq
 obtain ⟨j,h1,h2,h3,h4,h5⟩:=oV he
 obtain ⟨w,ew,rw'⟩:=r.get h2
 have hl:=r.length
 have hn:=jJ
 have fin:EP X pins σ Q w s:=⟨z,H,I,rw',q⟩
 by_cases h0:0≤i
 ·have hj:i.toNat=j:=by
   rw [seqIndex_of h0 h5] at h1
   exact Option.some.inj h1
  exact item_listR pl.isList h0 (by omega) (by rw [hj]; simpa using ew) fin hs
 ·have hj:(i+(its.toArray.size:Int)).toNat=j:=by
   rw [seqIndex_neg (by omega) h4] at h1
   rw [List.size_toArray,← hl]
   exact Option.some.inj h1
  exact subscriptTail_builtinR (x:=w) pl.isList.typeIs slot_list_getitem.lookup
   (wpAny_getItem_list_neg (Q:=fun r s'=>r=w∧EP X pins σ Q r s') pl.isList (by omega) (by rw [List.size_toArray] <;> omega) (by omega) (by rw [hj]; simpa using ew) ⟨rfl,fin⟩) hs
theorem ix_tup:IxR X (GI X.K):=by
 intro value slice pins s σ H x y v u Q I rx ry h hs
 obtain ⟨p,xs,i,z,rfl,rfl,hq,he,q⟩:=h
 cases rx
 obtain ⟨t,rfl⟩:=ry
 obtain ⟨its,r,pl,hz⟩:=I.tuple hq
 obtain ⟨j,h1,h2,h3,h4,h5⟩:=oV he
 obtain ⟨w,ew,rw'⟩:=r.get h2
 have hl:=r.length
 have hn:=jJ
 have fin:EP X pins σ Q w s:=⟨z,H,I,rw',q⟩
 exact subscriptTail_builtinR (x:=w) pl.typeIs slot_tuple_getitem.lookup
  (getItem_tuple (j:=j) (Q:=fun r s'=>r=w∧EP X pins σ Q r s') pl (by omega) (by omega) (by rw [List.size_toArray,← hl]; exact h1) (by simpa using ew) ⟨rfl,fin⟩) hs
theorem ix_str:IxR X GJ:=by
 intro value slice pins s σ H x y v u Q I rx ry h hs
 obtain ⟨z,i,c,rfl,rfl,hz,he,q⟩:=h
 obtain ⟨t,rfl⟩:=rx
 obtain ⟨t',rfl⟩:=ry
 obtain ⟨j,h1,h2,h3,h4,h5⟩:=oV he
 have hl:z.cps.toList.length=z.length:=by simp [Str.length]
 rw [hl] at h1 h4 h5
 have hn:=jJ
 exact tail_any (typeIs_str s z t) slot_str_getitem.lookup (getItem_str (c:=c) (by
  have e1:decide (i < -(2 ^ 63:Int))=false:=decide_eq_false (by omega)
  have e2:decide (i ≥ 2 ^ 63)=false:=decide_eq_false (by omega)
  rw [e1,e2,Bool.or_false]) (by rw [h1]; simpa using h2) ⟨.str ⟨#[c]⟩,H,I.tok _,⟨_,rfl⟩,q⟩) hs
def rIx (K:PySem.W.Frag):R2:=fun x y H Q=>tw K x y H Q∨GI K x y H Q∨GJ x y H Q
theorem ix_seq:IxR X (rIx X.K):=ix_list.or (ix_tup.or ix_str)
theorem tM (its:List Value) (n j:Nat) (u:Value):Obj.mapSeq (·.setIfInBounds j u) { cls:=.type "list",data:=.seq its.toArray n }={ cls:=.type "list",data:=.seq (its.set j u).toArray n }:=by
 simp [Obj.mapSeq]
theorem Inv.lst {pins:List (Addr × Obj)} {σ:St} {H:Hp} {s:Shared} {p:Addr} {xs:List V} (I:Inv X pins σ H s) (h:H p=some (.lst xs)) :
  ∃ (its:List Value) (n:Nat),Vals xs its∧s.heap.get? p=some { cls:=.type "list",data:=.seq its.toArray n }∧xs.length≤sizeLine:=by
 obtain ⟨z,its,n,r,e⟩:=I.hok p _ h
 exact ⟨its,n,r,e,z⟩
theorem Inv.lstUpd {pins:List (Addr × Obj)} {σ:St} {H:Hp} {s:Shared} {p:Addr} {xs ys:List V} {its its':List Value} {n n':Nat} {f:Obj→Obj} (I:Inv X pins σ H s) (h:H p=some (.lst xs))
  (ho:s.heap.get? p=some { cls:=.type "list",data:=.seq its.toArray n }) (hf:f { cls:=.type "list",data:=.seq its.toArray n }={ cls:=.type "list",data:=.seq its'.toArray n' }) (r:Vals ys its') (hz:ys.length≤sizeLine) (t:Nat) :
  Inv X pins σ (upd H p (.lst ys)) { s with heap:=s.heap.update p f,toks:=t }:=by
 have e:(s.heap.update p f).get? p=some { cls:=.type "list",data:=.seq its'.toArray n' }:=by
  rw [Heap.get?_update_self f ho (by rw [hf] <;> rfl),hf]
 refine I.write (x:=p) (e:=p) (by rw [h]; trivial) (.inl rfl) (fun b u hb q=>(Heap.get?_update_other _ _ (Ne.symm hb)).trans q) ⟨_,e⟩ ?_
 exact ⟨hz,its',n',r,e⟩
def CH:V→V→V→Hp→(Hp→Prop)→Prop:=fun o i v H Q=>∃ p xs k j,o=.ref p∧i=.int k∧H p=some (.lst xs)∧ixN xs.length k=some j∧Q (upd H p (.lst (xs.set j v)))
theorem v6:IC X CH:=by
 intro pins s σ H o i v ov iv u Q I ro ri rv h
 obtain ⟨p,xs,k,j,rfl,rfl,hp,hj,q⟩:=h
 cases ro
 obtain ⟨t,rfl⟩:=ri
 obtain ⟨its,n,r,ho,hz⟩:=I.lst hp
 obtain ⟨h1,h2,h3,h4⟩:=sL hj
 have hl:=r.length
 have hn:=jJ
 have I':Inv X pins σ (upd H p (.lst (xs.set j v))) { s with heap:=s.heap.update p (Obj.mapSeq (·.setIfInBounds j u)) } :=
  I.lstUpd hp ho (tM its n j u) (r.set rv j) (by rw [List.length_set]; exact hz) s.toks
 by_cases h0:0≤k
 ·have hk:k.toNat=j:=by
   rw [seqIndex_of h0 h4] at h1
   exact Option.some.inj h1
  exact PySem.W.ki_setAt ho h0 (by omega) (by rw [List.size_toArray,← hl]; exact h4) (by rw [hk]; exact ⟨_,I',q⟩)
 ·have hk:(k+(its.toArray.size:Int)).toNat=j:=by
   rw [seqIndex_neg (by omega) h3] at h1
   rw [List.size_toArray,← hl]
   exact Option.some.inj h1
  exact PySem.W.ki_setBack ho (by omega) (by rw [List.size_toArray,← hl]; exact h3) (by omega) (by rw [hk]; exact ⟨_,I',q⟩)
theorem kU (lo hi:Option Int) (n:Nat):(sliceBounds lo hi none n).1=((HT.sIx n 0 lo:Nat):Int)∧(sliceBounds lo hi none n).2.1=((HT.sIx n n hi:Nat):Int)∧(sliceBounds lo hi none n).2.2=1:=by
 refine ⟨?_,?_,rfl⟩
 ·cases lo with
  | none=>simp [sliceBounds,HT.sIx]
  | some i =>
   simp only [sliceBounds,HT.sIx,Option.getD_none,show (1:Int) > 0 by decide,if_true]
   by_cases h:i < 0
   ·simp only [h,if_true] <;> omega
   ·simp only [h,if_false] <;> omega
 ·cases hi with
  | none=>simp [sliceBounds,HT.sIx]
  | some i =>
   simp only [sliceBounds,HT.sIx,Option.getD_none,show (1:Int) > 0 by decide,if_true]
   by_cases h:i < 0
   ·simp only [h,if_true] <;> omega
   ·simp only [h,if_false] <;> omega
def JM (K:PySem.W.Frag):V→Option Int→Option Int→Hp→VK→Prop:=fun x lo hi H Q=>∃ a xs,x=.ref a∧SqL K H a xs∧∀ p,H p=none→Q (.ref p) (upd H p (.lst (ls xs lo hi)))
theorem rB:CallR X (.type "list") (fun xs H Q=>∃ p ys,xs=[.ref p]∧(SqL X.K H p ys∨SqT X.K H p ys)∧∀ l,H l=none→Q (.ref l) (upd H l (.lst ys))):=by
 intro pins s σ H xs us Q I r h
 obtain ⟨p,ys,rfl,hq,q⟩:=h
 obtain ⟨u,rfl,rx⟩:=dm r
 cases rx
 have fin:∀ (its:List Value),Vals ys its→ys.length≤sizeLine→∀ (h':Heap) (c':Nat),(∀ b o',s.heap.get? b=some o'→h'.get? b=some o') →
   h'.get? s.heap.objs.size=some { cls:=.type "list",dict:=none,data:=.seq its.toArray c',slots:=#[] }→EP X pins σ Q (.ref s.heap.objs.size) { s with heap:=h' }:=fun its r' hz h' c' kp e =>
  ⟨.ref s.heap.objs.size,_,I.laid (t':=s.toks) kp (Nat.le_refl _) (show ObjOk X.prog X.w _ h' _ (.lst ys) from ⟨hz,its,c',r',e⟩),rfl,q _ (I.hok.fresh (Nat.le_refl _))⟩
 rcases hq with hq | hq
 ·obtain ⟨its,r',pl,hz⟩:=I.list hq
  have hlen:=r'.length
  obtain ⟨o,ho,hc,n,hd⟩:=pl.isList
  exact call_list_seq p (.inl rfl) ho hc hd (fun h' c' kp e=>fin its r' hz h' c' kp e) (by simp only [List.size_toArray] <;> omega)
 ·obtain ⟨its,r',pl,hz⟩:=I.tuple hq
  have hlen:=r'.length
  obtain ⟨o,ho,hc,n,hd⟩:=pl
  exact call_list_seq p (.inr rfl) ho hc hd (fun h' c' kp e=>fin its r' hz h' c' kp e) (by simp only [List.size_toArray] <;> omega)
theorem pY:CallR X (.type "tuple") (fun xs H Q=>∃ p ys,xs=[.ref p]∧((SqL X.K H p ys∧∀ l,H l=none→Q (.ref l) (upd H l (.tup ys)))∨(SqT X.K H p ys∧Q (.ref p) H))):=by
 intro pins s σ H xs us Q I r h
 obtain ⟨p,ys,rfl,h⟩:=h
 obtain ⟨u,rfl,rx⟩:=dm r
 cases rx
 rcases h with ⟨hq,q⟩ | ⟨hq,q⟩
 ·obtain ⟨its,r',pl,hz⟩:=I.list hq
  have hlen:=r'.length
  refine call_tuple_list pl.isList (fun h' kp=>?_) (by simp only [List.size_toArray] <;> omega)
  have I1:Inv X pins σ H { s with heap:=h' }:=I.kept (t':=s.toks) kp
  have I2:Inv X pins σ (upd H h'.objs.size (.tup ys)) { s with heap:=h'.push { cls:=.type "tuple",data:=.seq its.toArray } } :=
   I1.laid (t':=s.toks) (fun b o e=>Heap.get?_push_of_some _ e) (Nat.le_refl _) (show ObjOk X.prog X.w _ _ _ (.tup ys) from ⟨hz,its,r',IsTupN.new _ _⟩)
  exact ⟨.ref h'.objs.size,_,I2,rfl,q _ (I1.hok.fresh (Nat.le_refl _))⟩
 ·obtain ⟨its,r',pl,hz⟩:=I.tuple hq
  exact call_tuple_same pl ⟨.ref p,H,I,rfl,q⟩
def tyV (K:PySem.W.Frag) (T:String) (x:V) (H:Hp):Prop:=match x with
 | .str _=>T="str"
 | .int _=>T="int"
 | .ref p=>(T="list"∧∃ xs,SqL K H p xs)∨(T="tuple"∧∃ o,K.lookup p=some o∧o.cls=.type "tuple"∧o.dict=none) ∨
   (T="dict"∧((∃ kvs,H p=some (.dK kvs))∨∃ kvs,H p=some (.dT kvs)))∨(T="set"∧∃ S n,H p=some (.set S n))
 | _=>False
theorem Go {pins:List (Addr × Obj)} {σ:St} {H:Hp} {s:Shared} {T:String} {x:V} {v:Value} (I:Inv X pins σ H s) (r:RelV x v) (ty:tyV X.K T x H) :
  s.TypeIs v T∧∀ a,v=.ref a→∃ ob,s.heap.get? a=some ob∧ob.dict=none:=by
 cases x with
 | str z =>
  obtain ⟨t,rfl⟩:=r
  cases (show T="str" from ty)
  exact ⟨typeIs_str s z t,fun _ e=>nomatch e⟩
 | int i =>
  obtain ⟨t,rfl⟩:=r
  cases (show T="int" from ty)
  exact ⟨typeIs_int s i t,fun _ e=>nomatch e⟩
 | ref p =>
  cases r
  rcases ty with ⟨rfl,xs,hq⟩ | ⟨rfl,o,hk,hc,hd⟩ | ⟨rfl,hk⟩ | ⟨rfl,S,n,hk⟩
  ·obtain ⟨its,_,pl,_⟩:=I.list hq
   refine ⟨pl.isList.typeIs,fun a e=>?_⟩
   cases e
   obtain ⟨o,n,e,c,hd,_⟩:=pl
   exact ⟨o,e,hd⟩
  ·refine ⟨⟨o,I.kIn p o hk,hc⟩,fun a e=>?_⟩
   cases e
   exact ⟨o,I.kIn _ o hk,hd⟩
  ·have z:∃ o,s.heap.get? p=some o∧o.ExactDict:=by
    rcases hk with ⟨kvs,hk⟩ | ⟨kvs,hk⟩
    ·obtain ⟨_,_,_,_,o,_,_,e,ex,_⟩:=I.hok p _ hk
     exact ⟨o,e,ex⟩
    ·obtain ⟨_,_,_,_,o,_,_,e,ex,_⟩:=I.hok p _ hk
     exact ⟨o,e,ex⟩
   obtain ⟨o,e,ex⟩:=z
   refine ⟨⟨o,e,ex.1⟩,fun a e2=>?_⟩
   cases e2
   exact ⟨o,e,ex.2.1⟩
  ·obtain ⟨o,_,_,_,e,ex,_⟩:=I.hok p _ hk
   refine ⟨⟨o,e,ex.1⟩,fun a e2=>?_⟩
   cases e2
   exact ⟨o,e,ex.2.1⟩
 | _=>exact False.elim ty
def tBM (K:PySem.W.Frag) (T:String) (r:V→List V→Hp→VK→Prop) (to:TE) (t:TA):TE:=fun σ H Q=>to σ H fun x H1=>tyV K T x H1∧t σ H1 fun xs H2=>r x xs H2 Q
variable {o e:Expr} {es:List Expr} {to:TE} {t:TA} {name:Str} {apos cpos:Pos} {T id:String} {r:V→List V→Hp→VK→Prop}
theorem CN (pa:PlainAttrs T) (slot:Slot T name id) (hty:typeOf (.builtin id)=pure (.type "method_descriptor")) (hm:MtR X id r) (ho:PE X o to) (ha:PA X (e :: es) t)
  (hbase:attributeBase o name X.env (eval o X.env)=eval o X.env:=by rfl)
  (hfew:((backTo cpos (starEach (e :: es) X.env)).all (fun x=>!x.1) && (backToKw cpos (keywordEach [] X.env)).all (fun x=>x.1.isSome)
   && decide ((e :: es).length+([]:List Keyword).length+(if ([]:List Keyword).isEmpty then 0 else 1) < 30))=true:=by rfl)
  (hline:(apos.endLine == cpos.line)=true:=by rfl) (hs:starEach (e :: es) X.env=(false,eval e X.env) :: starEach es X.env:=by rfl) (hplain:(backTo cpos (starEach es X.env)).any (·.1)=false:=by rfl) :
  PE X (.Call (.Attribute o name apos) (e :: es) [] cpos) (tBM X.K T r to t):=by
 intro pins s σ H Q I h
 refine wpAny_Call_method_late hbase hfew hline rfl (thn (ho pins s σ H _ I h) fun v s1 ⟨x,H1,I1,r1,ty,q1⟩=>?_)
 obtain ⟨h1,h2⟩:=Go I1 r1 ty
 refine ⟨T,id,pa,slot,hty,h1,h2,?_⟩
 have hA:=ha cpos pins s1 σ H1 _ I1 q1
 rw [hs] at hA ⊢
 refine Calls.callWith_builtin (by show (false || (backTo cpos (starEach es X.env)).any (·.1))=false; rw [hplain] <;> rfl) (Calls.evalArgs_plain ?_)
 exact thn hA fun us s2 ⟨vs,H2,I2,r2,q2⟩=>hm pins s2 σ H2 x vs v us Q I2 r1 r2 q2
end
end L2
namespace L2
open PySem PySem.Spec PyProof.Rows
def MtM (X:Cx) (id:String) (r:V→List V→Hp→VK→Prop):Prop :=
 ∀ (pins:List (Addr × Obj)) (s:Shared) (σ:St) (H:Hp) (x:V) (xs:List V) (v:Value) (us:List Value) (Q:VK),Inv X pins σ H s→RelV x v→Vals xs us→r x xs H Q →
  wpAny (model X.prog X.w) X.A (call (.builtin id) (v :: us)) (EP X pins σ Q) X.xe s
theorem Vals.one:∀ {x:V} {us:List Value},Vals [x] us→∃ u,us=[u]∧RelV x u
 | _,_,.cons r .nil=>⟨_,rfl,r⟩
theorem Vals.two {x y:V} {us:List Value} (h:Vals [x,y] us):∃ u v,us=[u,v]∧RelV x u∧RelV y v:=by
 cases h with
 | cons r t =>
  cases t with
  | cons q n =>
   cases n
   exact ⟨_,_,rfl,r,q⟩
section
variable {X:Cx} {pins:List (Addr × Obj)} {σ:St} {H:Hp} {s:Shared} {l b:Addr} {xs ys zs:List V}
theorem Inv.lset {its its':List Value} {n:Nat} {f:Array Value→Array Value} {t':Nat} (I:Inv X pins σ H s) (hH:H l=some (.lst xs))
  (e:s.heap.get? l=some { cls:=.type "list",data:=.seq its.toArray n }) (hf:f its.toArray=its'.toArray) (hv:Vals ys its') (hz:ys.length≤sizeLine) :
  Inv X pins σ (upd H l (.lst ys)) { s with heap:=s.heap.update l (Obj.mapSeq f),toks:=t' }:=by
 have q:=PySem.IsL.update e f
 rw [hf] at q
 refine I.write (x:=l) (e:=l) (by rw [hH]; exact trivial) (.inl rfl) (fun b' u hb hu=>(Heap.get?_update_other s.heap (Obj.mapSeq f) (Ne.symm hb)).trans hu) ⟨_,q⟩ ?_
 exact ⟨hz,its',_,hv,q⟩
theorem Inv.lnew {its:List Value} {t':Nat} (I:Inv X pins σ H s) (hv:Vals ys its) (hz:ys.length≤sizeLine) :
  Inv X pins σ (upd H s.heap.objs.size (.lst ys)) { s with heap:=s.heap.push { cls:=.type "list",data:=.seq its.toArray },toks:=t' } :=
 I.laid (fun _ _ q=>Heap.get?_push_of_some _ q) (Nat.le_refl _) ⟨hz,its,0,hv,Heap.get?_push_size _ rfl⟩
theorem Inv.fresh (I:Inv X pins σ H s):H s.heap.objs.size=none:=I.hok.fresh (Nat.le_refl _)
theorem Inv.lstM (I:Inv X pins σ H s) (hH:H l=some (.lst xs)):xs.length≤sizeLine∧∃ (its:List Value) (n:Nat),Vals xs its∧xs.length=its.length∧s.heap.get? l=some { cls:=.type "list",data:=.seq its.toArray n }:=by
 obtain ⟨z,its,n,r,e⟩:=I.hok l _ hH
 exact ⟨z,its,n,r,r.length,e⟩
end
section
variable {X:Cx}
def sA:V→List V→Hp→VK→Prop:=fun x vs H Q=>∃ l xs y,x=.ref l∧vs=[y]∧H l=some (.lst xs)∧xs.length < sizeLine∧Q .non (upd H l (.lst (xs++[y])))
theorem pq:MtM X "list.append" sA:=by
 intro pins s σ H x vs v us Q I rx rv h
 obtain ⟨l,xs,y,rfl,rfl,hH,hz,q⟩:=h
 cases rx
 obtain ⟨u,rfl,ru⟩:=rv.one
 obtain ⟨z,its,n,r,hl,e⟩:=I.lstM hH
 refine call_meets F.slot_list_append ⟨_,e,rfl⟩ F.entry_list_append (F.args_list_append_2 _ _) (PySem.list_append l its.toArray n u (by rw [List.size_toArray]; omega)) ⟨e,?_⟩
 refine ⟨.non,_,I.lset (its':=its++[u]) hH e (by simp) (r.append (.cons ru .nil)) ?_,rfl,q⟩
 rw [List.length_append,List.length_singleton]
 omega
end
section
variable {prog:Program} {w:World} {A:Around} {E:Value→Shared→Prop} {s:Shared}
end
section
variable {X:Cx}
end
end L2
namespace Att
open PySem PySem.W PySem.Calls PyProof.Rows
theorem nI {P:Params} {h:Heap}:∀ (ns:List Int) (vs:List Value),WellAll P h vs (ns.map WData.int)→IntsAre vs ns:=by
 intro ns
 induction ns with
 | nil =>
  intro vs w
  rw [List.map_nil] at w
  cases w
  exact .nil
 | cons n ns ih =>
  intro vs w
  rw [List.map_cons] at w
  cases w with
  | cons a b =>
   cases a
   exact .cons _ _ (ih _ b)
theorem uC {l:OpenLaw} {n:Nat} (hn:l.most=some n) {P:Params} {h:Heap} {args:List WData} {ck:List Value}
  (hpre:l.row.toRowW.claim.pre args=true) (hwl:WellAll P h ck args) :
  ∃ a vs ns,ck=[Value.ref a]∧args=[WData.list (ns.map WData.int)]∧h.get? a=some { cls:=.type "list",data:=.seq vs.toArray }∧IntsAre vs ns∧ns.length≤n:=by
 have hsh:WShape.hasAll [] args [.list .int]=true:=(pre_splitW hpre).1
 have hc:l.pre.holds [] { args:=args }=true:=(pre_splitW hpre).2
 obtain ⟨d,r,rfl,h1,h2⟩:=hasAllW_cons hsh
 obtain rfl:=hasAllW_nil h2
 obtain ⟨xs,rfl,h3⟩:=hasW_list h1
 obtain ⟨ns,rfl⟩:=items_int h3
 have hlen:ns.length≤n:=by
  unfold OpenLaw.pre at hc
  have h4:(WTm.not (.lt (.lit (.int (n:Int))) (.len (.arg 0)))).holds [] { args:=[.list (ns.map .int)] }=true:=by
   have h4:=(holds_andW hc).1
   rw [hn] at h4
   exact h4
  have h5:=condW_of h4 (w_not (w_lt w_lit (w_len_list (w_arg rfl))))
  rw [List.length_map] at h5
  refine Nat.le_of_not_lt fun q=>?_
  have q':(n:Int) < ((ns.length:Nat):Int):=by omega
  first
   | (rw [decide_eq_true q'] at h5; exact absurd h5 (by decide))
   | (simp at h5; omega)
 cases hwl with
 | cons w1 w2 =>
  cases w2
  cases w1 with
  | list ho hall=>exact ⟨_,_,ns,rfl,rfl,ho,nI ns _ hall,hlen⟩
theorem uH (l:OpenLaw) (args:List WData):l.row.toRowW.claim.post args (.bool true) args=true :=
 postW_of (r:=l.row.toRowW) (X:=(true == true))
  (show WShape.has [] (.bool true) .bool=true by first | rfl | decide | simp [WShape.has,WShape.arms,WShape.armsAll])
  (show (WTm.eq .res (.lit (.bool true))).value [] { args:=args,res:=some (.bool true),after:=args }=some (.bool (true == true)) from w_eq_bool (w_res rfl) w_lit) rfl
theorem attach_call {l:OpenLaw} {n:Nat} {q:Program} {loose:List Str} {XP:(Str→Option Value)→Heap→Prop} {YP:World→Heap→Prop} {d:DefRec}
  (hn:l.most=some n) (hdf:d.params.defaults=[])
  (call:∀ (w:World) (s₀ s₁:Shared) (mg mb:Str→Option Value) (fa:Addr) (o:Obj) (pm cd doc:Value) (a:Addr) (vs:List Value) (ns:List Int),
   Ground q loose [] XP w s₀ mg mb s₁.heap→YP w s₁.heap →
   s₁.heap.get? fa=some o→o.data=.func (docDef d.name d.params d.body d.scope pm cd doc)→s₁.heap.CodeRec cd d.name→mg d.name=some (.ref fa) →
   s₁.heap.get? a=some { cls:=.type "list",data:=.seq vs.toArray }→IntsAre vs ns→ns.length≤n→s₁.gens=#[] →
   codeAny (model l.prog w) callerA (.call (.ref fa) ⟨[.ref a],[]⟩) (fun r s'=>r=.ok (.ret (.bool true))∧OldK s₁.heap s'.heap∧s'.os=s₁.os∧AllBare s'.gens) s₁) :
  WalkO q loose XP YP l.row.toRowW d [] (fun f vs=>PySem.call f vs):=by
 intro w s₀ s₁ mg mb G Y fa o pm cd doc dV kV ho hd hcd hD hmg hg args ck as hpre hlay hrd hwl hlo
 obtain rfl:dV=.none:=Dflts.none hD hdf
 obtain rfl:kV=.none:=Dflts.noKw hD
 obtain ⟨a,vs,ns,rfl,rfl,hobj,hints,hlen⟩:=uC hn hpre hwl
 refine enter_call (codeAny_mono (call w s₀ s₁ mg mb fa o pm cd doc a vs ns G Y ho (fd_plain hd) hcd hmg hobj hints hlen hg) fun r s' hq=>?_)
 obtain ⟨rfl,h2,h3,h4⟩:=hq
 exact ⟨.inl ⟨.bool true,.bool true,[],rfl,fun _=>rfl,.bool true,uH l _,fun _=>⟨List.Pairwise.nil,fun _ hm=>(nomatch hm)⟩⟩,h2,h3,h4⟩
section
variable {prog:Program} {w:World} {A:Around} {E:Value→Shared→Prop} {s:Shared} {K:Frag}
end
end Att
namespace L2
open PySem PySem.Spec PyProof.Rows
theorem pc:∀ {vs:List Value} {ns:List Int},IntsAre vs ns→Vals (ns.map V.int) vs
 | _,_,.nil=>.nil
 | _,_,.cons n t h=>.cons ⟨t,rfl⟩ (pc h)
def xy (H:Hp):Prop:=∀ b,H b=none∨∃ o xs,H b=some (.frz o (.lst xs))
theorem ww {P:Program} {w:World} {K:PySem.W.Frag} {mg mb:Str→Option Value} {CX:CXT} {k:Nat} {fa a:Addr} {fd:FuncData} {x:Str} {sp:Sp} {s₁:Shared} {vs:List Value} {ns:List Int}
  (KX:K.In s₁.heap) (hns:s₁.heap.Ns mainGlobals mg) (hb:s₁.heap.Ns builtinsNs mb) (hbb:∀ x:Str,x≠"__name__"→mb x=bootBuiltins x) (hlim:s₁.heap.NoLimit) (hmods:∃ mm,s₁.heap.Ns sysModules mm) (hg:s₁.gens=#[])
  (ha:s₁.heap.get? a=some { cls:=.type "list",data:=.seq vs.toArray }) (hi:IntsAre vs ns) (hl:ns.length≤sizeLine) (hr:Room k callerA)
  (F:∀ base:Heap,K.In base→base.Ns mainGlobals mg→FnOk P w K mg base CX k fa fd [x] sp) (hbind:∀ (s:Shared) (u:Value),BindsTo s fd ⟨[u],[]⟩ [(x,u)])
  (hsp:∀ H:Hp,xy H→SqL K H a (ns.map V.int)→sp [.ref a] H (fun v _=>v=.bl true) fun _ _ _=>False)
  (hCX:∀ H e s',CX [] H s₁ (fun _ _ _=>False) e s'→False) :
  codeAny (model P w) callerA (.call (.ref fa) ⟨[.ref a],[]⟩) (fun r s'=>r=.ok (.ret (.bool true))∧OldK s₁.heap s'.heap∧s'.os=s₁.os∧AllBare s'.gens) s₁:=by
 have rv:=pc hi
 have lenV:=hi.length
 have core:∀ H:Hp,xy H→SqL K H a (ns.map V.int)→HOk P w H s₁.heap→(∀ b,H b≠none→b=a)→(H a≠none→K.lookup a=none) →
   codeAny (model P w) callerA (.call (.ref fa) ⟨[.ref a],[]⟩) (fun r s'=>r=.ok (.ret (.bool true))∧OldK s₁.heap s'.heap∧s'.os=s₁.os∧AllBare s'.gens) s₁:=by
  intro H hO hS hok hA hK
  have base_of:∀ {b:Addr} {o:Obj},s₁.heap.get? b=some o→H b=none→(jo s₁.heap H).get? b=some o:=fun e n=>qZ e n
  have noA:∀ {b:Addr} {o:Obj} {es:Array DictEntry} {ep:Nat},s₁.heap.get? b=some o→o.data=.dict es ep→H b=none:=fun {b o es ep} e d=>by
   cases q:H b with
   | none=>rfl
   | some u =>
    have e':b=a:=hA b (by rw [q]; simp)
    subst e'
    rw [ha] at e; cases e
    have d':Data.seq vs.toArray _=Data.dict es ep:=d
    cases d'
  have nsK:∀ {b:Addr} {m:Str→Option Value},s₁.heap.Ns b m→(jo s₁.heap H).Ns b m:=fun {b m} ⟨o,es,ep,e,d,r⟩=>⟨o,es,ep,base_of e (noA e d),d,r⟩
  have hKb:K.In (jo s₁.heap H):=fun b o e=>base_of (KX b o e) (by
   cases q:H b with
   | none=>rfl
   | some u =>
    have e':b=a:=hA b (by rw [q]; simp)
    subst e'
    rw [hK (by rw [q]; simp)] at e; cases e)
  have hM:Mod K mg (jo s₁.heap H):=⟨hKb,nsK hns,⟨mb,nsK hb,hbb⟩,let ⟨mc,h1,h2⟩:=hlim; ⟨mc,nsK h1,h2⟩,let ⟨mm,h1⟩:=hmods; ⟨mm,nsK h1⟩⟩
  have e0:Env0 P w K mg (jo s₁.heap H) callerA [] s₁ H:=⟨rfl,hM,fun b o e=>sF e,Nat.le_of_eq (u7 _ _),trivial,fun b hb=>absurd (show b∈([]:List Addr) from hb) (by simp),hok,.of_eq hg⟩
  refine codeAny_mono ((F _ hKb (nsK hns)).run callerA [] s₁ H ⟨[.ref a],[]⟩ [.ref a] [.ref a] _ _ hr e0 (hbind s₁ (.ref a)) (.cons rfl .nil) (hsp H hO hS)) fun r s' h=>?_
  cases r with
  | error e=>exact (hCX H e s' h).elim
  | ok fl =>
   cases fl with
   | next=>exact False.elim h
   | brk=>exact False.elim h
   | cont=>exact False.elim h
   | ret u =>
    obtain ⟨v,H',os,bare,un,hok',r',q⟩:=h
    have q':v=.bl true:=q
    subst q'
    obtain rfl:u=Value.bool true:=r'
    refine ⟨rfl,OldK.of_keep fun b o e=>?_,os,bare⟩
    cases q:H b with
    | none=>exact un.keep b o e q (by intro z; exact absurd (show b∈([]:List Addr) from z) (by simp)) (by simp)
    | some u =>
     rcases hO b with z | ⟨ob,xs,z⟩
     ·rw [q] at z; cases z
     ·have z2:=un.frzs b ob _ z
      obtain ⟨e1,_⟩:=hok b _ z
      obtain ⟨e2,_⟩:=hok' b _ z2
      rw [e] at e1; cases e1
      exact e2
 cases hk:K.lookup a with
 | some o =>
  have e:=KX a o hk
  rw [ha] at e
  cases e
  refine core (fun _=>none) (fun _=>.inl rfl) (.inr ⟨_,vs.toArray,_,hk,rfl,rfl,rfl,by rw [List.size_toArray,lenV]; exact hl,by simpa using rv⟩) (fun b u z=>by have z':(none:Option HO)=some u:=z; cases z') (fun b z=>absurd rfl z) fun z=>absurd rfl z
 | none =>
  refine core (fun b=>if b=a then some (.frz { cls:=.type "list",data:=.seq vs.toArray } (.lst (ns.map V.int))) else none) (fun b=>?_) (.inl (.inr ⟨{ cls:=.type "list",data:=.seq vs.toArray },if_pos rfl⟩)) (fun b u z=>?_) (fun b z=>?_) fun _=>hk
  ·by_cases hb:b=a
   ·exact .inr ⟨_,_,if_pos hb⟩
   ·exact .inl (if_neg hb)
  ·by_cases hb:b=a
   ·have z':=(if_pos hb).symm.trans z
    cases z'
    subst hb
    exact ⟨ha,by rw [List.length_map]; exact hl,vs,_,rv,ha⟩
   ·have z':=(if_neg hb).symm.trans z
    cases z'
  ·by_cases hb:b=a
   ·exact hb
   ·exact absurd (if_neg hb) z
end L2
namespace L2
open PySem PySem.Spec PyProof.Rows
theorem walk_of {l:PySem.W.OpenLaw} {n k:Nat} {q:Program} {loose:List Str} {XP:(Str→Option Value)→Heap→Prop} {YP:World→Heap→Prop} {d:DefRec} {K:Params→PySem.W.Frag} {CX:World→CXT} {sp:World→Sp} {x:Str}
  (hn:l.most=some n) (hn2:n≤sizeLine) (hdf:d.params.defaults=[]) (hr:Room k callerA)
  (hq:importsNone q=true) (hY:∀ (w:World) (h:Heap),YP w h→(K w.params).In h)
  (F:∀ (w:World) (mg:Str→Option Value) (fa:Addr) (h:Heap),(K w.params).In h→h.Ns mainGlobals mg→mg d.name=some (.ref fa) →
   ∃ fd:FuncData,(∀ (s:Shared) (u:Value),BindsTo s fd ⟨[u],[]⟩ [(x,u)]) ∧
    ∀ base:Heap,(K w.params).In base→base.Ns mainGlobals mg→FnOk l.prog w (K w.params) mg base (CX w) k fa fd [x] (sp w))
  (hsp:∀ (w:World) (H:Hp) (a:Addr) (ns:List Int),ns.length≤n→xy H→SqL (K w.params) H a (ns.map V.int)→sp w [.ref a] H (fun v _=>v=.bl true) fun _ _ _=>False)
  (hCX:∀ (w:World) (H:Hp) (s:Shared) (e:Value) (s':Shared),CX w [] H s (fun _ _ _=>False) e s'→False) :
  PySem.W.WalkO q loose XP YP l.row.toRowW d [] (fun f vs=>PySem.call f vs):=by
 refine Att.attach_call hn hdf fun w s₀ s₁ mg mb fa o pm cd doc a vs ns G Y ho hd hcd hmg hobj hints hlen hg=>?_
 have KX:=hY w _ Y
 obtain ⟨fd,hb,hF⟩:=F w mg fa _ KX G.T.g hmg
 exact ww KX G.T.g G.T.b G.T.builtins G.T.nolimit (let ⟨mm,hm,_⟩:=(G.T.seer hq).mods; ⟨mm,hm⟩) hg hobj hints (Nat.le_trans hlen hn2) hr hF hb (fun H hO hS=>hsp w H a ns hlen hO hS) fun H e s'=>hCX w H s₁ e s'
end L2
namespace L2
open PySem PySem.Spec PyProof.Rows
def eJ (s:Stmt):Arguments:=match s with
 | .FunctionDef _ a _ _ _ _ _ _ _ _=>a
 | _=>{ posonlyargs:=[],args:=[],vararg:=none,kwonlyargs:=[],kw_defaults:=[],kwarg:=none,defaults:=[] }
def da (s:Stmt):List Stmt:=match s with
 | .FunctionDef _ _ b _ _ _ _ _ _ _=>b
 | _=>[]
def av (s:Stmt):Scope:=match s with
 | .FunctionDef _ _ _ _ _ _ sc _ _ _=>sc
 | _=>{ kind:=.function,names:=[],isGenerator:=false,isCoroutine:=false }
abbrev CX0:CXT:=fun _ _ _ _ _ _=>False
abbrev E0:XK:=fun _ _ _=>False
theorem IU {X:Cx}:rG CX0 X E0:=fun _ _ _ _ _ _ _ h=>h.elim
structure Fun (K:PySem.W.Frag) (x qual:Str) (st:Stmt) (f:Addr) (fd:FuncData):Prop where
 ex:∃ (oc:Value) (od:Option Addr) (kV doc pm:Value) (an:Option Addr) (cdv ct:Value) (osl:Array (Option Value)),
  fd=PySem.W.fnOf x qual (eJ st) (da st) (av st) .none kV doc pm an cdv ct∧K.lookup f=some ⟨oc,od,.func fd,osl⟩∧PySem.W.codeIn K cdv qual=true
 kp:PySem.W.keepIn K (.ref f)=true
section
variable {P:Program} {w:World} {K:PySem.W.Frag} {mg:Str→Option Value} {base:Heap}
theorem Fun.ok {x qual:Str} {st:Stmt} {f:Addr} {fd:FuncData} {N ps:List Str} {k:Nat} {sp:Sp} (F:Fun K x qual st f fd) (S:FnScope N ps (av st)) (len:∀ vs H Q E,sp vs H Q E→vs.length=ps.length)
  (hbody:∀ (cdv:Value) (A:Around) (outer:List Env) (s:Shared) (H:Hp) (vs:List V) (Q:VK) (E:XK),Room k (A.deeper (envOfC qual (av st) s.heap.objs.size f cdv))→sp vs H Q E →
   ∃ t,PSs (i7 CX0 P w K mg base N qual (av st) f cdv A outer s H E).nox (da st) t∧t { nx:=fun _ H'=>Q .non H',rt:=Q } (dE N vs) H):FnOk P w K mg base CX0 (k+1) f fd ps sp:=by
 obtain ⟨oc,od,kV,doc,pm,an,cdv,ct,osl,rfl,lk,hcd⟩:=F.ex
 refine C3 lk hcd S len fun A outer s H vs Q E hr hsp=>?_
 obtain ⟨t,h,q⟩:=hbody cdv A outer s H vs Q E hr hsp
 exact ⟨t,h.nox,q⟩
theorem Fun.binds {x qual:Str} {st:Stmt} {f:Addr} {fd:FuncData} {ps:List Str} (F:Fun K x qual st f fd)
  (h:∀ (kV doc pm:Value) (an:Option Addr) (cdv ct:Value) (us:List Value),us.length=ps.length→bindArgs (PySem.W.fnOf x qual (eJ st) (da st) (av st) .none kV doc pm an cdv ct) ⟨us,[]⟩=pure (ps.zip us)):Binds K fd ps []:=by
 obtain ⟨oc,od,kV,doc,pm,an,cdv,ct,osl,rfl,lk,hcd⟩:=F.ex
 exact .all (h kV doc pm an cdv ct)
theorem nL {x qual:Str} {st:Stmt} {f:Addr} {oc:Value} {od an:Option Addr} {osl:Array (Option Value)} {kV doc pm cdv ct:Value} (l:K.lookup f=some ⟨oc,od,.func (PySem.W.fnOf x qual (eJ st) (da st) (av st) .none kV doc pm an cdv ct),osl⟩)
  (c:PySem.W.codeIn K cdv qual=true) (k:PySem.W.keepIn K (.ref f)=true):Fun K x qual st f (PySem.W.fnOf x qual (eJ st) (da st) (av st) .none kV doc pm an cdv ct):=⟨⟨oc,od,kV,doc,pm,an,cdv,ct,osl,rfl,l,c⟩,k⟩
end
theorem kT {n:Nat} (h:n≤1000):n < sizeLine:=Nat.lt_of_le_of_lt h (by decide)
section
variable {X:Cx}
end
end L2
namespace L2
open PySem PySem.Spec PyProof.Rows
section
variable {κ:Type} [DecidableEq κ]
end
theorem IZ {P:Program} {w:World} {k:Key} {u:Value} (r:RelV (kV k) u):(cX P w).is k u=true:=by
 cases k with
 | inl i=>obtain ⟨t,e⟩:=(show ∃ t,u=Value.int i t from r); subst e; exact rX P w i t
 | inr x=>obtain ⟨t,e⟩:=(show ∃ t,u=Value.str x t from r); subst e; exact rW P w x t
theorem pr {P:Program} {w:World}:∀ {ks:List Key} {us:List Value},Vals (ks.map kV) us→ItemsAre (cX P w) ks us
 | [],_,r=>by rw [List.map_nil] at r; cases r; exact .nil
 | k :: ks,_,r=>by
  rw [List.map_cons] at r
  cases r with
  | cons h t=>exact .cons (IZ h) (pr t)
abbrev KT (H:Hp):List (List Key × V)→List (List Key × Addr × Value)→Prop:=Paired fun p q=>p.1=q.1∧H q.2.1=some (.tup (p.1.map kV))∧RelV p.2 q.2.2
section
variable {P:Program} {w:World} {H:Hp} {h:Heap} {a:Addr}
theorem CG {u:HO} (ok:HOk P w H h) (e:Rd H a u):ObjOk P w H h a u:=e.ok ok
theorem JF {kvs:List (Key × V)} (ok:HOk P w H h) (e:Rd H a (.dK kvs)):kvs.length≤sizeLine∧(a == sysModules)=false∧∃ vs,KV kvs vs∧h.DictOf (cX P w) a vs :=
 show ObjOk P w H h a (.dK kvs) from CG ok e
theorem JG {kvs:List (Key × V)} (ok:HOk P w H h) (e:H a=some (.dK kvs)):kvs.length≤sizeLine∧(a == sysModules)=false∧∃ vs,KV kvs vs∧h.DictOf (cX P w) a vs:=JF ok (.inl e)
theorem Hn {ks:List Key} (ok:HOk P w H h) (e:H a=some (.tup (ks.map kV))):(tupleKind (cX P w)).is h ks a:=by
 obtain ⟨_,its,r,o,h1,h2,n,h3⟩:=(show ObjOk P w H h a (.tup (ks.map kV)) from ok a _ e)
 exact ⟨o,its.toArray,n,h1,h2,h3.1,by simpa using pr r⟩
theorem JD {kvs:List (List Key × V)} (ok:HOk P w H h) (e:Rd H a (.dT kvs)):kvs.length≤sizeLine∧(a == sysModules)=false ∧
  ∃ xs,KT H kvs xs∧h.DictOfH (tupleKind (cX P w)) a xs:=by
 obtain ⟨z,y,xs,r,o,es,ep,h1,h2,h3,h4,h5⟩:=(show ObjOk P w H h a (.dT kvs) from CG ok e)
 refine ⟨z,y,xs,r,o,es,ep,h1,h2,h3,h4,fun x hx=>?_,h5⟩
 have all:∀ {l:List (List Key × V)} {m:List (List Key × Addr × Value)},KT H l m→∀ x∈m,(tupleKind (cX P w)).is h x.1 x.2.1:=by
  intro l m q
  induction q with
  | nil=>intro x hx; exact nomatch hx
  | @cons p q ps qs hq t ih =>
   intro x hx
   rcases List.mem_cons.mp hx with e | hx
   ·subst e
    exact Hn ok (by rw [← hq.1]; exact hq.2.1)
   ·exact ih x hx
 exact all r x hx
theorem JE {kvs:List (List Key × V)} (ok:HOk P w H h) (e:H a=some (.dT kvs)):kvs.length≤sizeLine∧(a == sysModules)=false ∧
  ∃ xs,KT H kvs xs∧h.DictOfH (tupleKind (cX P w)) a xs:=JD ok (.inl e)
end
section
variable {X:Cx} {pins:List (Addr × Obj)} {σ:St} {H:Hp} {s:Shared} {a:Addr} {y v:V} {u r:Value} {o:Option V} {A:Around} {E:Value→Shared→Prop}
theorem Inv.big (I:Inv X pins σ H s):sysModules < s.heap.objs.size:=by
 have h:mainGlobals < s.heap.objs.size:=(I.mod.glob.keeps I.bk).lt
 exact Nat.lt_trans (by decide) h
end
section
variable {X:Cx} {pins:List (Addr × Obj)} {σ:St} {H:Hp} {s:Shared} {a:Addr} {kvs:List (Key × V)} {k:Key} {u:Value} {A:Around} {E:Value→Shared→Prop}
end
section
variable {X:Cx} {o i e value:Expr} {pos pos' tpos:Pos} {td ty tv:TE}
end
theorem xk {P:Program} {w:World} {H:Hp} (h:Heap) (hb:sysModules < h.objs.size):ObjOk P w H (h.push { cls:=.type "dict",data:=.dict #[] }) h.objs.size (.dK []) :=
 ⟨Nat.zero_le _,beq_eq_false_iff_ne.mpr (Ne.symm (Nat.ne_of_lt hb)),[],.nil,Heap.DictOf.new h⟩
def GA:TE:=fun _ H Q=>∀ p,H p=none→Q (.ref p) (upd H p (.dK []))
section
variable {X:Cx} {pos:Pos}
theorem pe_dnewK:PE X (.Dict [] [] pos) GA:=fun pins s σ H Q I h =>
 wpAny_Dict_empty ⟨.ref s.heap.objs.size,_,I.laid (a:=s.heap.objs.size) (o:=.dK []) (t':=s.toks) (fun _ _ q=>Heap.get?_push_of_some _ q) (Nat.le_refl _) (xk s.heap I.big),rfl,h _ (I.hok.fresh (Nat.le_refl _))⟩
end
section
variable {X:Cx} {pins:List (Addr × Obj)} {σ:St} {H:Hp} {s:Shared} {a:Addr} {y d:V} {u r:Value} {o:Option V} {A:Around} {E:Value→Shared→Prop}
end
section
variable {X:Cx} {o e f:Expr} {apos cpos:Pos} {td ty tx:TE}
end
section
variable {X:Cx} {pins:List (Addr × Obj)} {σ:St} {H:Hp} {s:Shared} {a:Addr} {kvs:List (Key × V)} {A:Around} {E:Value→Shared→Prop}
end
section
variable {X:Cx} {pins:List (Addr × Obj)} {σ:St} {H:Hp} {s:Shared} {a:Addr} {y:V} {u:Value} {A:Around} {E:Value→Shared→Prop}
end
end L2
namespace L2
open PySem PySem.Spec PyProof.Rows
section
variable {X:Cx}
end
section
variable {κ:Type} [DecidableEq κ]
end
end L2
set_option maxHeartbeats 4000000
namespace L2
open PySem PySem.Spec PyProof.Rows
theorem DZ {α β:Type} {l:List α} {f:α→β→Sem (ForInStep β)} {g:β→α→β} (h:∀ x∈l,∀ c,f x c=pure (.yield (g c x))):∀ c,forIn l c f=pure (l.foldl g c):=by
 induction l with
 | nil=>intro c; rfl
 | cons x l ih =>
  intro c
  rw [List.forIn_cons,h x List.mem_cons_self,pure_bind]
  exact ih (fun y hy=>h y (List.mem_cons_of_mem _ hy)) (g c x)
def fW (env:Env) (acc:List (Str × Addr)) (x:Str × NameKind):List (Str × Addr) :=
 if x.2 == NameKind.free then (x.1,(env.cells.lookup x.1).getD 0) :: acc else acc
def fw (env:Env) (names:List (Str × NameKind)):List (Str × Addr):=names.foldl (fW env) []
theorem nS {scope:Scope} {env:Env} (h:∀ y∈scope.names,y.2=.free→∃ c,env.cells.lookup y.1=some c):closureFor scope env=pure (fw env scope.names):=by
 simp only [closureFor]
 rw [DZ (g:=fW env) (fun x hx c=>by
  obtain ⟨n,kind⟩:=x
  by_cases hk:kind=.free
  ·obtain ⟨a,e⟩:=h _ hx hk
   subst hk
   have e':env.cells.lookup n=some a:=e
   simp [cellOf,fW,e']
  ·have hb:(kind == NameKind.free)=false:=by simpa using hk
   simp [fW,hb])]
 rfl
theorem nU {env:Env}:∀ (names:List (Str × NameKind)) (acc:List (Str × Addr)) (p:Str × Addr),
  p∈names.foldl (fW env) acc→p∈acc∨((p.1,NameKind.free)∈names∧p.2=(env.cells.lookup p.1).getD 0)
 | [],_,_,h=>.inl h
 | (n,k) :: r,acc,p,h=>by
  rw [List.foldl_cons] at h
  rcases nU r _ p h with q | ⟨q,e⟩
  ·unfold fW at q
   by_cases hk:(k == NameKind.free)=true
   ·rw [if_pos hk] at q
    rcases List.mem_cons.mp q with z | z
    ·subst z
     have hk':k=NameKind.free:=by simpa using hk
     subst hk'
     exact .inr ⟨List.mem_cons_self,rfl⟩
    ·exact .inl z
   ·rw [if_neg hk] at q
    exact .inl q
  ·exact .inr ⟨List.mem_cons_of_mem _ q,e⟩
theorem mh {env:Env}:∀ (names:List (Str × NameKind)) (acc:List (Str × Addr)) (p:Str × Addr),p∈acc→p∈names.foldl (fW env) acc
 | [],_,_,h=>h
 | x :: r,acc,p,h=>by
  rw [List.foldl_cons]
  refine mh r _ p ?_
  unfold fW
  split
  ·exact List.mem_cons_of_mem _ h
  ·exact h
theorem nV {env:Env} {n:Str}:∀ (names:List (Str × NameKind)) (acc:List (Str × Addr)),(n,NameKind.free)∈names→∃ c,(n,c)∈names.foldl (fW env) acc
 | (m,k) :: r,acc,h=>by
  rw [List.foldl_cons]
  rcases List.mem_cons.mp h with e | e
  ·cases e
   exact ⟨(env.cells.lookup n).getD 0,mh r _ _ (by unfold fW; rw [if_pos (show (((n,NameKind.free):Str × NameKind).2 == NameKind.free)=true from rfl)]; exact List.mem_cons_self)⟩
  ·exact nV r _ e
theorem ip {α:Type}:∀ {l:List (Str × α)} {n:Str} {c:α},(n,c)∈l→∃ c',l.lookup n=some c'
 | (m,d) :: r,n,c,h=>by
  rw [List.lookup_cons]
  cases hb:n == m with
  | true=>exact ⟨d,rfl⟩
  | false =>
   rcases List.mem_cons.mp h with e | e
   ·cases e
    simp at hb
   ·exact ip e
theorem rp {env:Env} {names:List (Str × NameKind)} {n:Str} (h:(n,NameKind.free)∈names):∃ c,(fw env names).lookup n=some c :=
 let ⟨_,e⟩:=nV (env:=env) names [] h
 ip e
theorem pH {env:Env} {names:List (Str × NameKind)} {n:Str} {c:Addr} (h:∀ y∈names,y.2=.free→∃ c,env.cells.lookup y.1=some c) (e:(fw env names).lookup n=some c):env.cells.lookup n=some c:=by
 rcases nU names [] (n,c) (PySem.mem_of_lookup e) with q | ⟨q,z⟩
 ·simp at q
 ·obtain ⟨a,ea⟩:=h _ q rfl
  have z':c=(env.cells.lookup n).getD 0:=z
  have ea':env.cells.lookup n=some a:=ea
  rw [ea'] at z'
  rw [ea',z']
  rfl
theorem jT {env:Env}:∀ {names:List (Str × NameKind)} {x:Str} {k:NameKind},
  (names.map fun (n,k)=>if (k == NameKind.free && env.scope.kind == .function && env.kindOf n == some .cell) then (n,NameKind.cell) else (n,k)).lookup x=some k →
  names.lookup x=some k∨(names.lookup x=some .free∧k=.cell)
 | [],_,_,h=>by simp at h
 | (n,k0) :: r,x,k,h=>by
  rw [List.map_cons] at h
  cases hx:x == n with
  | true =>
   rcases Bool.eq_false_or_eq_true (k0 == NameKind.free && env.scope.kind == .function && env.kindOf n == some .cell) with hc | hc
   ·simp only [hc,if_true,List.lookup_cons,hx] at h
    have hk:k0=.free:=by
     simp only [Bool.and_eq_true,beq_iff_eq] at hc
     exact hc.1.1
    refine .inr ⟨?_,?_⟩
    ·simp only [List.lookup_cons,hx,hk]
    ·exact (Option.some.inj h).symm
   ·simp only [hc,Bool.false_eq_true,if_false,List.lookup_cons,hx] at h
    refine .inl ?_
    simp only [List.lookup_cons,hx]
    exact h
  | false =>
   have h':(r.map fun (n,k)=>if (k == NameKind.free && env.scope.kind == .function && env.kindOf n == some .cell) then (n,NameKind.cell) else (n,k)).lookup x=some k:=by
    rcases Bool.eq_false_or_eq_true (k0 == NameKind.free && env.scope.kind == .function && env.kindOf n == some .cell) with hc | hc
    ·simp only [hc,if_true,List.lookup_cons,hx] at h
     exact h
    ·simp only [hc,Bool.false_eq_true,if_false,List.lookup_cons,hx] at h
     exact h
   simp only [List.lookup_cons,hx]
   exact jT h'
theorem ni {env:Env}:∀ {names:List (Str × NameKind)} {x:Str},names.lookup x=some .free →
  (names.map fun (n,k)=>if (k == NameKind.free && env.scope.kind == .function && env.kindOf n == some .cell) then (n,NameKind.cell) else (n,k)).lookup x=some .cell ∨
  (names.map fun (n,k)=>if (k == NameKind.free && env.scope.kind == .function && env.kindOf n == some .cell) then (n,NameKind.cell) else (n,k)).lookup x=some .free
 | [],_,h=>by simp at h
 | (n,k0) :: r,x,h=>by
  rw [List.map_cons]
  cases hx:x == n with
  | true =>
   simp only [List.lookup_cons,hx] at h
   rcases Bool.eq_false_or_eq_true (k0 == NameKind.free && env.scope.kind == .function && env.kindOf n == some .cell) with hc | hc
   ·refine .inl ?_
    simp only [hc,if_true,List.lookup_cons,hx]
   ·refine .inr ?_
    simp only [hc,Bool.false_eq_true,if_false,List.lookup_cons,hx]
    exact h
  | false =>
   simp only [List.lookup_cons,hx] at h
   have ih:=ni (env:=env) h
   rcases Bool.eq_false_or_eq_true (k0 == NameKind.free && env.scope.kind == .function && env.kindOf n == some .cell) with hc | hc
   ·simp only [hc,if_true,List.lookup_cons,hx]
    exact ih
   ·simp only [hc,Bool.false_eq_true,if_false,List.lookup_cons,hx]
    exact ih
def fZ (js:List (Option Nat)) (σ:St):St:=js.map fun j=>match j with
 | some j=>(σ[j]?).join
 | none=>none
end L2
namespace L2
open PySem PySem.Spec PyProof.Rows
def PTs (X:Cx) (ifs:List Expr) (tt:TT):Prop :=
 ∀ (pins:List (Addr × Obj)) (s:Shared) (σ:St) (H:Hp) (Q:Bool→Hp→Prop),Inv X pins σ H s→tt σ H Q →
  wpAny (model X.prog X.w) X.A (forIn ifs true fun c r=>if r=true then do let ok ← isTrue c X.env (eval c X.env); pure (ForInStep.yield ok) else pure (ForInStep.yield r)) (TP X pins σ Q) X.xe s
def JK:TT:=fun _ H Q=>Q true H
theorem pts_nil {X:Cx}:PTs X [] JK:=fun _ _ _ H _ I h=>wpAny_tests_nil ⟨H,I,h⟩
theorem Dl {X:Cx} {c:Expr} {tc:TT} (hc:PT X c tc):PTs X [c] tc:=fun pins s σ H Q I h=>wpAny_tests_one (hc pins s σ H Q I h)
def Hi (g:TG) (tt:TT) (te:TE) (D:Addr) (x:V) (τ:St) (H:Hp) (N:St→Hp→Prop):Prop :=
 g x τ H fun τ4 H4=>tt τ4 H4 fun b H5=>if b=true then te τ4 H5 fun v H6=>∃ xs,H6 D=some (.lst xs)∧xs.length < sizeLine∧N τ4 (upd H6 D (.lst (xs++[v]))) else N τ4 H5
def CQ (J:It) (g:TG) (tt:TT) (te:TE) (σ0:St) (H1:Hp) (D:Addr) (Q:VK):Prop :=
 ∃ W:Nat→Nat→St→Hp→Prop,(∃ m,W 0 m σ0 (upd H1 D (.lst []))) ∧
  ∀ i m τ H2,W i m τ H2→(J.stop i H2∧Q (.ref D) H2)∨(J.go i H2∧∃ N:St→Hp→Prop,(∀ τ' H',N τ' H'→∃ m',m' < m∧W (i+1) m' τ' H')∧∀ x H3,J.yld i H2 x H3→Hi g tt te D x τ H3 N)
def tLC (wi:TI) (g:TG) (tt:TT) (te:TE) (js:List (Option Nat)):TE:=fun σ H Q =>
 wi σ H fun J H1=>∀ D,H1 D=none→CQ J g tt te (fZ js σ) H1 D Q
theorem thF {α:Type} {t:Sem α} {Q Q':α→Shared→Prop} {M:Model} {A:Around} {E:Value→Shared→Prop} {s:Shared} (h:wpAny M A t Q (fun _ _=>False) s) (hQ:∀ a s,Q a s→Q' a s):wpAny M A t Q' E s :=
 wpAny_mono h hQ fun _ _ x=>x.elim
section
variable {X:Cx} {elt tg iter:Expr} {ifs:List Expr} {scope:Scope} {pos:Pos} {ns:List Str} {js:List (Option Nat)} {wi:TI} {g:TG} {tt:TT} {te:TE}
end
end L2
namespace L2
open PySem PySem.Spec PyProof.Rows
section
variable {X:Cx}
theorem ul:∀ (bs:List Bool),(List.range bs.length).all (fun i=>bs.getD i true)=bs.all id:=fun bs=>by
 rw [Bool.eq_iff_iff,List.all_eq_true,List.all_eq_true]
 constructor
 ·intro h b hb
  obtain ⟨i,hi,e⟩:=List.mem_iff_getElem.mp hb
  have q:=h i (List.mem_range.mpr hi)
  rw [List.getD_eq_getElem?_getD,List.getElem?_eq_getElem hi,e] at q
  exact q
 ·intro h i hi
  have hi':=List.mem_range.mp hi
  rw [List.getD_eq_getElem?_getD,List.getElem?_eq_getElem hi']
  exact h _ (List.getElem_mem hi')
theorem xt (hc:X.calm=true):CallR X (.builtin "all") (fun xs H Q=>∃ (p:Addr) (bs:List Bool),xs=[.ref p]∧SqL X.K H p (bs.map V.bl)∧Q (.bl (bs.all id)) H):=by
 intro pins s σ H xs us Q I r h
 obtain ⟨p,bs,rfl,hp,q⟩:=h
 obtain ⟨u,rfl,ru⟩:=dm r
 cases ru
 obtain ⟨its,rv,pl,hz⟩:=I.list hp
 have hl:its.length=bs.length:=by rw [← rv.length,List.length_map]
 have hlt:p < s.heap.objs.size:=by
  obtain ⟨o,n,e,_⟩:=id pl
  exact Heap.lt_size e
 refine call_all_walk (wpAny_pyIter_list pl.isList ?_)
 refine ⟨s.heap.objs.size,[s.heap.objs.size,p],[s.heap.objs.size],its.toArray.size,fun i v=>its.toArray[i]?=some v,_,fun i=>bs.getD i true,rfl,Walks.list (A:=X.A.in1) (show X.A.in1.handled=none from I.ok.hd hc) s.heap.objs.size p (Nat.ne_of_lt hlt) its.toArray,?_,?_,?_⟩
 ·exact ⟨⟨_,Heap.get?_push_size _ rfl,rfl,rfl⟩,pl.isList.push _⟩
 ·intro i v s' Q' E' hv hq
  have hv':its[i]?=some v:=by simpa using hv
  have hi:i < bs.length:=by
   rw [← hl]
   exact (List.getElem?_eq_some_iff.mp hv').1
  obtain ⟨u,hu,ru⟩:=rv.get (i:=i) (x:=V.bl bs[i]) (by rw [List.getElem?_map,List.getElem?_eq_getElem hi]; rfl)
  rw [hu] at hv'
  cases hv'
  cases ru
  have e:bs.getD i true=bs[i]:=by rw [List.getD_eq_getElem?_getD,List.getElem?_eq_getElem hi]; rfl
  have hq':Q' (bs.getD i true) s':=hq
  rw [e] at hq'
  exact wpAny_truthy_bool hq'
 ·intro h' tk hk
  have e:(List.range its.toArray.size).all (fun i=>bs.getD i true)=bs.all id:=by
   rw [← ul bs,List.size_toArray,hl]
  rw [e]
  refine ⟨.bl (bs.all id),H,I.kept (t':=tk) fun b o z=>hk b o ?_ (Heap.get?_push_of_some _ z),rfl,q⟩
  intro z'
  have z'':b=s.heap.objs.size:=by simpa using z'
  exact Nat.ne_of_lt (Heap.lt_size z) z''
theorem xr:CallR X (.builtin "isinstance") (fun xs H Q=>∃ x t n b,xs=[x,.ty n]∧TyOf X.K H x t∧PySem.W.kitOne X.K t (.type n)=some b∧Q (.bl b) H):=by
 intro pins s σ H xs us Q I r h
 obtain ⟨x,t,n,b,rfl,ty,e,q⟩:=h
 obtain ⟨u,w',rfl,r1,r2⟩:=IG r
 cases r2
 exact u3 I r1 ty e fun tk=>⟨.bl b,H,I.tok _,rfl,q⟩
end
section
open PySem.SeqAt
variable {X:Cx} {pins:List (Addr × Obj)} {σ:St} {H:Hp} {s:Shared}
end
section
variable {X:Cx}
theorem kR:∀ {xs:List V} {us:List Value},Vals xs us→Vals xs.reverse us.reverse
 | _,_,.nil=>.nil
 | _,_,.cons r t=>by
  rw [List.reverse_cons,List.reverse_cons]
  exact (kR t).append (.cons r .nil)
end
end L2
namespace L2
open PySem PySem.Spec PyProof.Rows
def Kn (P:Program) (w:World) (K:PySem.W.Frag) (mg:Str→Option Value) (base:Heap) (k:Nat) (x:Str) (ps:List Str) (sp:Sp):Prop :=
 ∃ f fd,FnOk P w K mg base CX0 k f fd ps sp∧mg x=some (.ref f)∧PySem.W.keepIn K (.ref f)=true∧Binds K fd ps []
theorem Kn.mono {P:Program} {w:World} {K:PySem.W.Frag} {mg:Str→Option Value} {base:Heap} {j k:Nat} {x:Str} {ps:List Str} {sp:Sp} (G:Kn P w K mg base j x ps sp) (h:j≤k):Kn P w K mg base k x ps sp :=
 let ⟨f,fd,a,b,c,d⟩:=G
 ⟨f,fd,a.mono h,b,c,d⟩
section
variable {X:Cx} {k:Nat} {x:Str} {ps:List Str} {sp:Sp} {p pos:Pos} {e:Expr} {es:List Expr} {t:TA}
theorem CM (G:Kn X.prog X.w X.K X.mg X.base k x ps sp) (hr:Room k X.A) (hg:Gl X x) (ha:PA X (e :: es) t) (hdb:(x == ("__debug__" : Str))=false:=by decide)
  (he:starEach (e :: es) X.env=(false,eval e X.env) :: starEach es X.env:=by rfl) (hpl:(backTo pos (starEach es X.env)).any (·.1)=false:=by rfl) :
  PE X (.Call (.Name x p) (e :: es) [] pos) (tj sp [] E0 t):=by
 obtain ⟨f,fd,F,hm,hk,hb⟩:=G
 exact Du F hr hg hm hk hb .nil IU ha hdb he hpl
end
def JN (K:PySem.W.Frag):List V→Hp→VK→Prop:=fun xs H Q=>∃ x n,xs=[x]∧IE K x H n∧Q (.int n) H
def Dj (K:PySem.W.Frag):List V→Hp→VK→Prop:=fun xs H Q=>∃ p ys,xs=[.ref p]∧(SqL K H p ys∨SqT K H p ys)∧∀ l,H l=none→Q (.ref l) (upd H l (.lst ys))
def GG (K:PySem.W.Frag):List V→Hp→VK→Prop:=fun xs H Q=>∃ p ys,xs=[.ref p]∧((SqL K H p ys∧∀ l,H l=none→Q (.ref l) (upd H l (.tup ys)))∨(SqT K H p ys∧Q (.ref p) H))
def JP (K:PySem.W.Frag):List V→Hp→VK→Prop:=fun xs H Q=>∃ (p:Addr) (bs:List Bool),xs=[.ref p]∧SqL K H p (bs.map V.bl)∧Q (.bl (bs.all id)) H
section
variable {X:Cx} {K:PySem.W.Frag}
theorem JT (hK:X.K=K):CallR X (.builtin "len") (JN K):=by subst hK; exact xq
theorem DD (hK:X.K=K):CallR X (.type "list") (Dj K):=by subst hK; exact rB
theorem Hr (hK:X.K=K):CallR X (.type "tuple") (GG K):=by subst hK; exact pY
theorem JV (hK:X.K=K) (hc:X.calm=true):CallR X (.builtin "all") (JP K):=by subst hK; exact xt hc
theorem JU (hK:X.K=K):IxR X (tw K):=by subst hK; exact ix_list
theorem JS (hK:X.K=K):SlR X (GH K):=by subst hK; exact GD
theorem I0 (hK:X.K=K):OpR X (binaryOp .Add) (CK K):=by subst hK; exact Dv
variable {tg l:Expr} {tl:TE} {es:List Expr} {t:TGs} {n k:Nat} {pos p p2 cpos apos:Pos}
end
end L2
namespace L2
open PySem PySem.Spec PyProof.Rows
def sgn (c:Nat):V:=.str ⟨#[c]⟩
def Its (z:Str):It:=⟨fun i _=>i < z.cps.size,fun i H x H'=>H'=H∧∃ c,z.cps[i]?=some c∧x=sgn c,fun i _=>z.cps.size≤i⟩
theorem vU {P:Program} {w:World} {K:PySem.W.Frag} {tg:Expr} (it:Addr) (z:Str) (t:Tok) (ty:String) (hty:ty="str_ascii_iterator"∨ty="str_iterator") :
  Turn P w K tg (Its z) [it] it (fun i h=>h.IsStrIter it ty z t i) where
 mem:=by simp
 obj:=fun i h st b hb=>by
  have e:b=it:=by simpa using hb
  subst e
  obtain ⟨o,e,c,d⟩:=st
  exact ⟨o,e,fun v q=>by rw [d] at q; cases q⟩
 keep:=fun i h h' st k=>let ⟨o,e,r⟩:=st; ⟨o,k it (by simp) o e,r⟩
 item:=by
  intro X hP hw hK hc i pins s σ H E I hf st hg
  subst hP hw hK
  obtain ⟨f0,f1,f2,f3,f4,f5⟩:=hf it (by simp)
  have W:Walks X.prog X.w X.A it [it] [it] z.cps.size (SignAt z) (fun i h=>h.IsStrIter it ty z t i):=by
   rcases hty with rfl | rfl
   ·exact Walks.strAscii (I.ok.hd hc) it z t
   ·exact Walks.strWide (I.ok.hd hc) it z t
  refine W.item i s _ _ hg st fun v h' tk hv st' kk=>?_
  obtain ⟨c,u,hcv,rfl⟩:=hv
  have I1:Inv X pins σ H { s with heap:=h',toks:=tk }:=I.turned (fun b o hb e=>kk b o (by simpa using hb) e) f0 f1 f3 f4 f5
  obtain ⟨o,e,ec,ed⟩:=id st'
  refine ⟨_,rfl,qc (s:={ s with heap:=h',toks:=tk }) (n:=ty) e ec ed (by rcases hty with rfl | rfl <;> decide) ⟨sgn c,H,I1,⟨u,rfl⟩,⟨rfl,c,hcv,rfl⟩,st',fun b hb=>(hf b hb).1⟩⟩
 done:=by
  intro X hP hw hK hc i pins s σ H E I hf st hg
  subst hP hw hK
  obtain ⟨f0,f1,f2,f3,f4,f5⟩:=hf it (by simp)
  have hle:z.cps.size≤i:=hg
  rcases hty with rfl | rfl
  ·exact wpAny_pyNext_ascii_end (I.ok.hd hc) st (by simpa using hle) fun h' he=>⟨rfl,I.turned (t':=s.toks) (fun b o hb e=>he b o hb e) f0 f1 f3 f4 f5⟩
  ·exact wpAny_pyNext_wide_end (I.ok.hd hc) st (by simpa using hle) fun h' he=>⟨rfl,I.turned (t':=s.toks) (fun b o hb e=>he b o hb e) f0 f1 f3 f4 f5⟩
 self:=fun A i s Q E st h=>by
  rcases hty with rfl | rfl
  ·exact wpAny_pyIter_striter_ascii st h
  ·exact wpAny_pyIter_striter_wide st h
section
variable {X:Cx} {tg:Expr} {K:PySem.W.Frag}
def fE (z:Str):List V:=z.cps.toList.map sgn
theorem jm:∀ {xs:List V} {us:List Value},xs.length=us.length→(∀ (i:Nat) x u,xs[i]?=some x→us[i]?=some u→RelV x u)→Vals xs us
 | [],[],_,_=>.nil
 | [],_ :: _,h,_=>by cases h
 | _ :: _,[],h,_=>by cases h
 | x :: xs,u :: us,h,f=>.cons (f 0 x u rfl rfl) (jm (Nat.succ.inj h) fun i y v a b=>f (i+1) y v (by simpa using a) (by simpa using b))
theorem oU (hc:X.calm=true):CallR X (.type "list") (fun xs H Q=>∃ z,xs=[.str z]∧z.cps.size≤sizeLine∧∀ l,H l=none→Q (.ref l) (upd H l (.lst (fE z)))):=by
 intro pins s σ H xs us Q I r h
 obtain ⟨z,rfl,hz,q⟩:=h
 obtain ⟨u,rfl,t,rfl⟩:=dm r
 refine call_list_str (I.ok.hd hc) z t (fun h' tk acc c' hk ho hi=>?_) hz
 have hl:(fE z).length=acc.toList.length:=by
  unfold fE
  rw [List.length_map,Array.length_toList,Array.length_toList,hi.1]
 have rv:Vals (fE z) acc.toList:=jm hl fun i x v a b=>by
  obtain ⟨c,tk',hcv,rfl⟩:=hi.2 i v (by simpa using b)
  unfold fE at a
  rw [List.getElem?_map] at a
  have e:z.cps.toList[i]?=some c:=by simpa using hcv
  rw [e] at a
  cases a
  exact ⟨_,rfl⟩
 refine ⟨.ref s.heap.objs.size,_,I.laid (t':=tk) (o:=.lst (fE z)) hk (Nat.le_refl _) ⟨?_,acc.toList,c',rv,by simpa using ho⟩,rfl,q _ I.fresh⟩
 unfold fE
 rw [List.length_map,Array.length_toList]
 exact hz
theorem jR {ys:List Str}:∀ {us:List Value},Vals (ys.map V.str) us→StrsAre us ys:=by
 induction ys with
 | nil=>intro us r; cases r; exact .nil
 | cons y ys ih =>
  intro us r
  cases r with
  | cons r1 r2 =>
   obtain ⟨t,e⟩:=r1
   subst e
   exact .cons y t (ih r2)
def CI (K:PySem.W.Frag):V→List V→Hp→VK→Prop:=fun x xs H Q=>∃ sep ys p,x=.str sep∧xs=[.ref p]∧(SqL K H p (ys.map V.str)∨SqT K H p (ys.map V.str))∧sep.length≤16∧(ys.map (·.length)).sum+ys.length≤1048576∧Q (.str (Txt.join sep ys)) H
theorem dH (hK:X.K=K):MtR X "str.join" (CI K):=by
 subst hK
 intro pins s σ H x xs v us Q I rx rs h
 obtain ⟨sep,ys,p,rfl,rfl,hp,hs,hw,q⟩:=h
 obtain ⟨t,rfl⟩:=rx
 obtain ⟨u,rfl,ru⟩:=dm rs
 cases ru
 rcases hp with hp | hp
 ·obtain ⟨its,rv,pl,_⟩:=I.list hp
  exact join_listW pl.isList (by simpa using jR rv) hs hw fun t' k=>⟨.str _,H,I.tok k,⟨_,rfl⟩,q⟩
 ·obtain ⟨its,rv,pl,_⟩:=I.tuple hp
  exact join_tupleW pl (by simpa using jR rv) hs hw fun t' k=>⟨.str _,H,I.tok k,⟨_,rfl⟩,q⟩
def db (xs:List Nat) (lo hi:Option Int):List Nat:=(xs.drop (HT.sIx xs.length 0 lo)).take (HT.sIx xs.length xs.length hi - HT.sIx xs.length 0 lo)
theorem qA (n d:Nat) (v:Option Int) (h:d≤n):HT.sIx n d v≤n:=by
 cases v with
 | none=>exact h
 | some i =>
  unfold HT.sIx
  dsimp only
  split <;> omega
theorem vX (lo hi:Option Int) (n:Nat):Builtin.Str.strSliceIndices lo hi 1 n=(List.range (HT.sIx n n hi - HT.sIx n 0 lo)).map (HT.sIx n 0 lo+·):=by
 obtain ⟨h1,h2,h3⟩:=kU lo hi n
 have e:Builtin.Str.strSliceIndices lo hi 1 n=sliceRange (sliceBounds lo hi none n).1 (sliceBounds lo hi none n).2.1 (sliceBounds lo hi none n).2.2:=by
  cases lo <;> cases hi <;> rfl
 rw [e,h1,h2,h3,sliceRange_one]
theorem tq (x:Str) (lo hi:Option Int):Txt.slice x lo hi=⟨(db x.cps.toList lo hi).toArray⟩:=by
 unfold Txt.slice
 have hl:x.length=x.cps.toList.length:=by simp [Str.length]
 rw [vX]
 have e:(((List.range (HT.sIx x.length x.length hi - HT.sIx x.length 0 lo)).map (HT.sIx x.length 0 lo+·)).filterMap (x.cps[·]?))=db x.cps.toList lo hi:=by
  rw [pick_run,hl]
  rfl
 rw [e]
 split
 ·rename_i hc
  have hc':HT.sIx x.length x.length hi - HT.sIx x.length 0 lo=x.length:=by simpa using hc
  have h1:=qA x.length x.length hi (Nat.le_refl _)
  have ha:HT.sIx x.length 0 lo=0∨x.length=0:=by omega
  have:db x.cps.toList lo hi=x.cps.toList:=by
   unfold db
   rw [← hl,hc']
   rcases ha with z | z
   ·rw [z,List.drop_zero,hl,List.take_length]
   ·rw [z,List.take_zero]
    rw [hl] at z
    exact (List.eq_nil_of_length_eq_zero z).symm
  rw [this]
 ·rfl
def JL:V→Option Int→Option Int→Hp→VK→Prop:=fun x lo hi H Q=>∃ z,x=.str z∧z.length≤sizeLine∧Q (.str ⟨(db z.cps.toList lo hi).toArray⟩) H
theorem sl_str:SlR X JL:=by
 intro pins s σ H x v vl vu lo hi sl Q I rx hs pl pu h
 obtain ⟨z,rfl,hz,q⟩:=h
 obtain ⟨t,rfl⟩:=rx
 rw [← tq] at q
 have go:∀ (l u:Option (Int × Tok)),s.heap.IsSlice sl l u none→l.map (·.1)=lo→u.map (·.1)=hi→wpAny (model X.prog X.w) X.A (getItem (.str z t) (.ref sl)) (EP X pins σ Q) X.xe s:=fun l u hsl e1 e2=>by
  subst e1 e2
  exact wpAny_getItem_str_slice (st:=none) hsl rfl (post_val_or_str ⟨Nat.le_trans (Txt.slice_le z _ _) hz,fun t' k=>⟨.str _,H,I.tok k,⟨_,rfl⟩,q⟩⟩)
 refine ⟨"str",_,F.slot_str_getitem.lookup,typeIs_str _ _ _,?_⟩
 cases pl with
 | none =>
  cases pu with
  | none=>exact go none none hs rfl rfl
  | int j u=>exact go none (some (j,u)) hs rfl rfl
 | int i t =>
  cases pu with
  | none=>exact go (some (i,t)) none hs rfl rfl
  | int j u=>exact go (some (i,t)) (some (j,u)) hs rfl rfl
def GL (K:PySem.W.Frag):R2:=fun x y H Q=>∃ a b ys,x=.ref a∧y=.ref b∧SqT K H a []∧SqT K H b ys∧Q (.ref b) H
theorem wj (hK:X.K=K):OpR X (binaryOp .Add) (GL K):=by
 subst hK
 intro pins s σ H x y v u Q I rx ry h
 obtain ⟨a,b,ys,rfl,rfl,ha,hb,q⟩:=h
 cases rx
 cases ry
 obtain ⟨its,r1,p1,_⟩:=I.tuple ha
 obtain ⟨its2,r2,p2,_⟩:=I.tuple hb
 cases r1
 obtain ⟨⟨cls,dd,data,sl⟩,ho,hc,n,hd⟩:=id p1
 obtain ⟨⟨cls2,dd2,data2,sl2⟩,ho2,hc2,n2,hd2⟩:=id p2
 simp only at hc hd hc2 hd2
 subst hc hd hc2 hd2
 exact concat_meets ⟨_,ho,rfl⟩ ⟨_,ho2,rfl⟩ noFill_tuple_add seq_tuple_add PySem.F.slot_tuple_add PySem.F.entry_tuple_add (PySem.F.args_tuple_add_2 _ _)
  (tuple_addW0 a b _ _ n n2 dd dd2 sl sl2 (by simp)) ⟨ho,ho2,⟨.ref b,H,I,rfl,q⟩⟩
end
end L2
namespace L2
open PySem PySem.Spec PyProof.Rows
section
variable {l l':List Addr} {H H':Hp} {a b:Addr} {o:HO}
end
section
variable {K:PySem.W.Frag}
end
end L2
namespace L2
open PySem PySem.Spec PyProof.Rows
section
variable {X:Cx} {tg:Expr} {K:PySem.W.Frag}
def uE:V→List V→Hp→VK→Prop:=fun x xs H Q=>∃ z y i rest,x=.str z∧xs=[.str y]∧Builtin.Str.occurrences z y 0 z.length 1=i :: rest∧Q (.int (i:Nat)) H
theorem wo:MtR X "str.index" uE:=by
 intro pins s σ H x xs v us Q I rx rs h
 obtain ⟨z,y,i,rest,rfl,rfl,ho,q⟩:=h
 obtain ⟨t,rfl⟩:=rx
 obtain ⟨u,rfl,ru⟩:=dm rs
 obtain ⟨t2,rfl⟩:=ru
 exact SC.index ho ⟨.int i,H,I.tok _,⟨_,rfl⟩,q⟩
def II (te tk:TE):TE:=fun σ H Q=>te σ H fun x H1=>tk σ H1 fun y H2=>∃ z,x=.str z∧y=.int (-1)∧z.length≤sizeLine∧Q (.str ⟨z.cps.toList.reverse.toArray⟩) H2
theorem Ds {e k:Expr} {te tk:TE} {p2 pos:Pos} (he:PE X e te) (hk:PE X k tk):PE X (.Subscript e (.Slice none none (some k) p2) pos) (II te tk):=by
 intro pins s σ H Q I h
 refine Subscript_ (thn (he pins s σ H _ I h) fun v s1 ⟨x,H1,I1,r1,q1⟩=>?_)
 refine wpAny_Slice ?_
 rw [evalPart_none]
 refine wpAny_pure (wpAny_pure ?_)
 rw [evalPart_some]
 refine thn (hk pins s1 σ H1 _ I1 q1) fun vk s3 ⟨y,H3,I3,r3,q3⟩=>?_
 obtain ⟨z,rfl,rfl,hz,q⟩:=q3
 obtain ⟨t,rfl⟩:=r3
 obtain ⟨t1,rfl⟩:=r1
 have I4:Inv X pins σ H3 { s3 with heap:=s3.heap.push { cls:=.type "slice",data:=.fields #[.none,.none,.int (-1) t] } }:=I3.kept (t':=s3.toks) fun b ob q=>Heap.get?_push_of_some _ q
 show wpAny (model X.prog X.w) X.A (subscriptTail e (.Slice none none (some k) p2) (.str z t1) (.ref s3.heap.objs.size)) (EP X pins σ Q) X.xe { s3 with heap:=s3.heap.push { cls:=.type "slice",data:=.fields #[.none,.none,.int (-1) t] } }
 refine tail_any (ops:=[.str z t1,.ref s3.heap.objs.size]) (typeIs_str _ _ _) F.slot_str_getitem.lookup ?_ (by with_unfolding_all rfl)
 refine wpAny_getItem_str_slice (l:=none) (u:=none) (st:=some (-1,t)) ⟨_,Heap.get?_push_size _ rfl,rfl,rfl⟩ rfl ?_
 have e:sliceMade z t1 none none (some (-1,t))=.str ⟨z.cps.toList.reverse.toArray⟩:=by
  unfold sliceMade
  rw [if_neg (by
   intro q
   have q':((-1:Int) == 1 && (slicePicked z none none (some (-1,t))).length == z.length)=true:=q
   rw [show ((-1:Int) == 1)=false by decide,Bool.false_and] at q'
   cases q')]
  show Made.str ⟨((sliceRange ((z.cps.size:Int) - 1) (-1) (-1)).filterMap (z.cps[·]?)).toArray⟩=_
  rw [PySem.W.krv_sliceRange,PySem.W.krv_range,List.filterMap_reverse,PySem.W.krv_all]
 rw [e]
 refine ⟨?_,⟨.str _,H3,I4.tok _,⟨_,rfl⟩,q⟩⟩
 show z.cps.toList.reverse.toArray.size≤sizeLine
 rw [List.size_toArray,List.length_reverse,Array.length_toList]
 exact hz
end
theorem rk {α β:Type} {f g:α→Option β}:∀ {l:List α},(∀ a∈l,f a=g a)→l.filterMap f=l.filterMap g
 | [],_=>rfl
 | a :: l,h=>by
  rw [List.filterMap_cons,List.filterMap_cons,h a List.mem_cons_self,rk fun b hb=>h b (List.mem_cons_of_mem _ hb)]
section
variable {prog:Program} {w:World} {A:Around} {E:Value→Shared→Prop} {s:Shared}
theorem sj {sl:Addr} {n:Nat} {t:Tok} {Q:Int × Int × Nat→Shared→Prop} (hs:s.heap.IsSliceOf sl .none .none (.int (-1) t))
  (h:Q ((n:Int) - 1,-1,n) s):wpAny (model prog w) A (Builtin.Slice.sliceApplied (.ref sl) (pure (n:Int))) Q E s:=by
 obtain ⟨os,hos,hcs,hds⟩:=id hs
 unfold Builtin.Slice.sliceApplied Builtin.Slice.sliceFields
 refine wpAny_bind (wpAny_bind (wpAny_field hos hds (x:=.none) rfl (wpAny_bind (wpAny_field hos hds (x:=.none) rfl (wpAny_bind (wpAny_field hos hds (x:=.int (-1) t) rfl (wpAny_pure ?_)))))))
 refine wpAny_bind (HT.slicePart_ (.int (-1) t) ?_)
 show wpAny _ _ (if ((-1:Int) == 0)=true then _ else _) _ _ s
 rw [if_neg (by decide)]
 refine wpAny_bind (HT.slicePart_ .none (wpAny_bind (HT.slicePart_ .none (wpAny_bind (wpAny_pure ?_)))))
 show wpAny _ _ (match Builtin.Slice.sliceAdjust none none (-1) (n:Int) with | (lo,hi)=>pure (lo,(-1:Int),Builtin.Slice.slicePlaces lo hi (-1))) _ _ s
 have e:Builtin.Slice.sliceAdjust none none (-1) (n:Int)=((n:Int) - 1,-1):=by
  first
   | rfl
   | simp [Builtin.Slice.sliceAdjust]
 rw [e]
 show wpAny _ _ (pure ((n:Int) - 1,(-1:Int),Builtin.Slice.slicePlaces ((n:Int) - 1) (-1) (-1))) _ _ s
 have e2:Builtin.Slice.slicePlaces ((n:Int) - 1) (-1) (-1)=n:=by
  unfold Builtin.Slice.slicePlaces
  have h1:¬ ((-1:Int) > 0):=by omega
  simp only [h1,if_false]
  split
  ·simp
   try omega
  ·omega
 rw [e2]
 exact wpAny_pure h
theorem l8 {t sl:Addr} {u:Tok} {items:Array Value} {Q:Value→Shared→Prop} (ht:IsTup s.heap t items) (hs:s.heap.IsSliceOf sl .none .none (.int (-1) u))
  (h:Q (.ref s.heap.objs.size) { s with heap:=s.heap.push { cls:=.type "tuple",data:=.seq items.toList.reverse.toArray } })
  (hsz:items.size≤sizeLine):wpAny (model prog w) A (getItem (.ref t) (.ref sl)) Q E s:=by
 have htake:sizeOk (.seq items.toList.reverse.toArray):=by
  show items.toList.reverse.toArray.size≤sizeLine
  rw [List.size_toArray,List.length_reverse,Array.length_toList]
  exact hsz
 obtain ⟨os,hos,hcs,hds⟩:=id hs
 have hTs:s.TypeIs (.ref sl) "slice":=⟨os,hos,hcs⟩
 unfold getItem
 try with_reducible refine wpAny_holding ?_
 first | refine wpAny_bind (wpAny_pure ?_) | skip
 refine wpAny_bind (wpAny_sequenceKey ht.typeIs (by decide) ?_)
 refine wpAny_bind (wpAny_callSpecial?_slot (name:=Str.ofString "__getitem__") ht.typeIs PyProof.Rows.slot_tuple_getitem
  (wpAny_call_entry PyProof.Rows.slot_tuple_getitem ht.typeIs entry_tuple_getitem ?_ (args_tuple_getitem _ _)))
 show wpAny _ _ (Builtin.Tuple.tupleItemsOf (.ref t) >>= _) _ _ s
 refine wpAny_bind (tupleItemsOf_ ht ?_)
 refine wpAny_bind (wpAny_typeOf hTs ?_)
 rw [if_pos (by decide)]
 refine wpAny_bind (sj hs ?_)
 have hno:¬ (((items.size:Int) - 1 == 0 && (-1:Int) == 1 && items.size == items.size)=true):=by
  intro q
  rw [show ((-1:Int) == 1)=false by decide,Bool.and_false,Bool.false_and] at q
  cases q
 show wpAny _ _ (if ((items.size:Int) - 1 == 0 && (-1:Int) == 1 && items.size == items.size)=true then _ else _) _ _ s
 have pick:((List.range items.size).filterMap fun (m:Nat)=>items[((items.size:Int) - 1+(m:Int) * -1).toNat]?).toArray=items.toList.reverse.toArray:=by
  have e:((List.range items.size).filterMap fun (m:Nat)=>items[((items.size:Int) - 1+(m:Int) * -1).toNat]?)=((List.range items.size).map fun k=>items.size - 1 - k).filterMap (items[·]?):=by
   rw [List.filterMap_map]
   refine rk fun m hm=>?_
   have:=List.mem_range.mp hm
   have e:((items.size:Int) - 1+(m:Int) * -1).toNat=items.size - 1 - m:=by omega
   rw [e]
   rfl
  rw [e,PySem.W.krv_range,List.filterMap_reverse,PySem.W.krv_all]
 rw [if_neg hno,pick]
 first
  | exact wpAny_bind (m:=Builtin.Tuple.tupleExact _) (wpAny_newObj_type (wpAny_pure ⟨_,rfl,wpAny_pure h⟩) htake)
  | exact wpAny_bind (m:=Builtin.Tuple.tupleExact _) (wpAny_newObj_type (wpAny_bind (wpAny_pure (wpAny_pure ⟨_,rfl,wpAny_pure h⟩))) htake)
  | exact wpAny_bind (wpAny_bind (m:=Builtin.Tuple.tupleExact _) (wpAny_newObj_type (wpAny_pure (wpAny_pure ⟨_,rfl,wpAny_pure h⟩)) htake))
  | exact wpAny_bind (wpAny_bind (m:=Builtin.Tuple.tupleExact _) (wpAny_newObj_type (wpAny_pure ⟨_,rfl,wpAny_pure h⟩) htake))
end
section
variable {X:Cx} {tg:Expr} {K:PySem.W.Frag}
def IH (K:PySem.W.Frag) (te tk:TE):TE:=fun σ H Q=>te σ H fun x H1=>tk σ H1 fun y H2=>∃ a xs,x=.ref a∧y=.int (-1)∧SqT K H2 a xs∧∀ p,H2 p=none→Q (.ref p) (upd H2 p (.tup xs.reverse))
theorem wx {e k:Expr} {te tk:TE} {p2 pos:Pos} (hK:X.K=K) (he:PE X e te) (hk:PE X k tk):PE X (.Subscript e (.Slice none none (some k) p2) pos) (IH K te tk):=by
 subst hK
 intro pins s σ H Q I h
 refine Subscript_ (thn (he pins s σ H _ I h) fun v s1 ⟨x,H1,I1,r1,q1⟩=>?_)
 refine wpAny_Slice ?_
 rw [evalPart_none]
 refine wpAny_pure (wpAny_pure ?_)
 rw [evalPart_some]
 refine thn (hk pins s1 σ H1 _ I1 q1) fun vk s3 ⟨y,H3,I3,r3,q3⟩=>?_
 obtain ⟨a,xs,rfl,rfl,hx,q⟩:=q3
 obtain ⟨t,rfl⟩:=r3
 cases r1
 have I4:Inv X pins σ H3 { s3 with heap:=s3.heap.push { cls:=.type "slice",data:=.fields #[.none,.none,.int (-1) t] } }:=I3.kept (t':=s3.toks) fun b ob q=>Heap.get?_push_of_some _ q
 obtain ⟨its,r,ht,hz⟩:=I4.tuple hx
 show wpAny (model X.prog X.w) X.A (subscriptTail e (.Slice none none (some k) p2) (.ref a) (.ref s3.heap.objs.size)) (EP X pins σ Q) X.xe { s3 with heap:=s3.heap.push { cls:=.type "slice",data:=.fields #[.none,.none,.int (-1) t] } }
 refine tail_any (ops:=[.ref a,.ref s3.heap.objs.size]) ht.typeIs PyProof.Rows.slot_tuple_getitem.lookup ?_ (by with_unfolding_all rfl)
 have hlen:=r.length
 refine l8 ht (Heap.IsSliceOf.new ..) ?_ (by rw [List.size_toArray] <;> omega)
 refine ⟨.ref _,_,I4.laid (t':=s3.toks) (o:=.tup xs.reverse) (fun b ob q=>Heap.get?_push_of_some _ q) (Nat.le_refl _) ?_,rfl,q _ (I4.hok.fresh (Nat.le_refl _))⟩
 exact ⟨by rw [List.length_reverse]; exact hz,its.reverse,kR r,IsTupN.new _ _⟩
end
end L2
namespace L2
open PySem PySem.Spec PyProof.Rows
abbrev li (z:Str):List Nat:=z.cps.toList
def mk1 (c:Nat):Str:=⟨#[c]⟩
def ofL (l:List Nat):Str:=⟨l.toArray⟩
theorem uO (z:Str):ofL (li z)=z:=rfl
theorem Hg {a b:Str} (h:li a=li b):a=b:=by rw [← uO a,← uO b,h]
theorem oE {a b:Nat} (h:mk1 a=mk1 b):a=b:=by
 have:li (mk1 a)=li (mk1 b):=by rw [h]
 simpa [li,mk1] using this
theorem uU (a b:Str):li (a++b)=li a++li b:=by
 show (a.cps++b.cps).toList=_
 rw [Array.toList_append]
def emp:Str:=""
def cat (ks:List Str):Str:=Txt.join emp ks
def aD (ks:List Str):List Nat:=(ks.map li).flatten
theorem IB (ks:List Str):li (cat ks)=aD ks:=by
 unfold cat Txt.join aD
 rw [StrLaws.glued_eq_join]
 induction ks with
 | nil=>rfl
 | cons x r ih =>
  cases r with
  | nil =>
   show li x=_
   simp
  | cons y r =>
   show li (x++emp++Str.join emp (y :: r))=_
   rw [uU,uU,ih]
   show li x++[]++_=li x++((y :: r).map li).flatten
   rw [List.append_nil]
theorem kj (cs:List Nat):aD (cs.map mk1)=cs:=by
 unfold aD
 rw [List.map_map]
 induction cs with
 | nil=>rfl
 | cons c r ih =>
  rw [List.map_cons,List.flatten_cons,ih]
  rfl
theorem pN (ks:List Str) (x:Str):aD (ks++[x])=aD ks++li x:=by
 unfold aD
 rw [List.map_append,List.flatten_append]
 simp
theorem rE (ks:List Str):(ks.map (·.length)).sum=(aD ks).length:=by
 unfold aD
 rw [List.length_flatten,List.map_map]
 rfl
def Sub (x z:List Nat):Prop:=∀ c∈x,c∈z
theorem u6 {l:List Nat} {i c:Nat} (hn:l.Nodup) (h:l[i]?=some c):l.idxOf c=i:=by
 obtain ⟨hi,e⟩:=List.getElem?_eq_some_iff.mp h
 rw [← e]
 exact hn.idxOf_getElem i hi
theorem pv {z:Str} {c:Nat} (hn:(li z).Nodup) (hm:c∈li z):∃ rest,Builtin.Str.occurrences z (mk1 c) 0 z.length 1=(li z).idxOf c :: rest:=by
 have h1:=StrLaws.found_one z c
 rw [decide_eq_true hm] at h1
 cases ho:Builtin.Str.occurrences z ⟨#[c]⟩ 0 z.length 1 with
 | nil=>rw [ho] at h1; cases h1
 | cons i rest =>
  have h2:=StrLaws.occ_spec z ⟨#[c]⟩ 0 z.length 1 i (by rw [ho]; exact List.mem_cons_self)
  have h3:=(StrLaws.subAt_one z c i).mp h2
  rw [u6 hn h3]
  exact ⟨rest,ho⟩
end L2
namespace L2
open PySem PySem.Spec PyProof.Rows
section
variable {prog:Program} {w:World} {A:Around} {E:Value→Shared→Prop} {s:Shared}
end
section
variable {prog:Program} {w:World} {A:Around} {E:Value→Shared→Prop} {s:Shared}
end
section
variable {X:Cx} {K:PySem.W.Frag}
def jL (z y:Str):Bool:=!(Builtin.Str.occurrences z y 0 z.length 1).isEmpty
def JO (neg:Bool):R2:=fun x y H Q=>∃ a b,x=.str a∧y=.str b∧Q (.bl (if neg then !jL b a else jL b a)) H
theorem op_notInS:OpR X (compareOp .NotIn) (JO true):=by
 intro pins s σ H x y v u Q I rx ry h
 obtain ⟨a,b,rfl,rfl,q⟩:=h
 obtain ⟨t,rfl⟩:=rx
 obtain ⟨t2,rfl⟩:=ry
 exact PySem.P.notIn_str ⟨.bl _,H,I,rfl,q⟩
end
section
open PySem.SeqAt
end
end L2
namespace L2
open PySem PySem.Spec PyProof.Rows
theorem fY:∀ (names:List (Str × NameKind)) (n:Nat) (acc:List (Str × Addr)),cellsFrom n names acc=cellsFrom n names []++acc
 | [],_,_=>rfl
 | (x,k) :: r,n,acc=>by
  unfold cellsFrom
  split
  ·rw [fY r (n+1) ((x,n) :: acc),fY r (n+1) [(x,n)],List.append_assoc]
   rfl
  ·exact fY r n acc
theorem ir:∀ (names:List (Str × NameKind)) (n:Nat) (acc:List (Str × Addr)) {x:Str} {c:Addr},(x,c)∈cellsFrom n names acc→(x,c)∈acc∨(x,NameKind.cell)∈names
 | [],_,_,_,_,h=>.inl h
 | (y,k) :: r,n,acc,x,c,h=>by
  unfold cellsFrom at h
  split at h
  ·rename_i hk
   rcases ir r _ _ h with h | h
   ·rcases List.mem_cons.mp h with e | e
    ·have hk':k=.cell:=by simpa using hk
     have e':=(Prod.mk.inj e).1
     rw [e',← hk']
     exact .inr List.mem_cons_self
    ·exact .inl e
   ·exact .inr (List.mem_cons_of_mem _ h)
  ·rcases ir r _ _ h with h | h
   ·exact .inl h
   ·exact .inr (List.mem_cons_of_mem _ h)
theorem gX:∀ (names:List (Str × NameKind)) (n:Nat) (acc:List (Str × Addr)) {p:Str × Addr},p∈acc→p∈cellsFrom n names acc
 | [],_,_,_,h=>h
 | (y,k) :: r,n,acc,p,h=>by
  unfold cellsFrom
  split
  ·exact gX r _ _ (List.mem_cons_of_mem _ h)
  ·exact gX r _ _ h
theorem iu:∀ (names:List (Str × NameKind)) (n:Nat) (acc:List (Str × Addr)) {x:Str},(x,NameKind.cell)∈names→∃ c,(x,c)∈cellsFrom n names acc
 | [],_,_,_,h=>by simp at h
 | (y,k) :: r,n,acc,x,h=>by
  unfold cellsFrom
  rcases List.mem_cons.mp h with e | e
  ·cases e
   rw [if_pos (by rfl)]
   exact ⟨n,gX r _ _ List.mem_cons_self⟩
  ·split
   ·exact iu r _ _ e
   ·exact iu r _ _ e
theorem qP {α:Type}:∀ {a b:List (Str × α)} {x:Str} {c:α},(a++b).lookup x=some c→a.lookup x=some c∨(a.lookup x=none∧b.lookup x=some c)
 | [],_,_,_,h=>.inr ⟨rfl,h⟩
 | (n,v) :: r,b,x,c,h=>by
  rw [List.cons_append,List.lookup_cons] at h
  rw [List.lookup_cons]
  cases e:x == n with
  | true=>rw [e] at h; exact .inl h
  | false=>rw [e] at h; exact qP h
theorem k8 {α:Type}:∀ {a b:List (Str × α)} {x:Str} {c:α},a.lookup x=some c→(a++b).lookup x=some c
 | [],_,_,_,h=>by simp at h
 | (n,v) :: r,b,x,c,h=>by
  rw [List.cons_append,List.lookup_cons]
  rw [List.lookup_cons] at h
  cases e:x == n with
  | true=>rw [e] at h; exact h
  | false=>rw [e] at h; exact k8 h
theorem jZ {α:Type}:∀ {a b:List (Str × α)} {x:Str} {c:α},a.lookup x=none→b.lookup x=some c→(a++b).lookup x=some c
 | [],_,_,_,_,h=>h
 | (n,v) :: r,b,x,c,hn,h=>by
  rw [List.cons_append,List.lookup_cons]
  rw [List.lookup_cons] at hn
  cases e:x == n with
  | true=>rw [e] at hn; cases hn
  | false=>rw [e] at hn; exact jZ hn h
abbrev bv (X:Cx) (scope:Scope) (ns:List Str) (C:Addr) (cl:List (Str × Addr)) (s₀:Shared) (H₀:Hp) (fp:List Addr):Cx :=
 { X with N:=ns,s₀:=s₀,H₀:=H₀,env:=compEnvC scope cl C X.env,outer:=X.stack,ex:=fp,fn:=fun x=>scope.names.lookup x == some NameKind.cell,pn:=[],xe:=fun _ _=>False }
structure BlkOkC (X:Cx) (scope:Scope) (ns:List Str) (js:List (Option Nat)):Prop where
 kind:scope.kind=.function
 uniq:∀ y∈scope.names,y.2=.cell→scope.names.lookup y.1=some .cell
 names:∀ y∈scope.names,y.2=.local→scope.names.lookup y.1=some .local
 free:∀ y∈scope.names,y.2=.free→X.env.kindOf y.1=some .cell∨X.env.kindOf y.1=some .free
 nd:ns.Nodup
 len:js.length=ns.length
 out:∀ (i:Nat) (x:Str) (j:Nat),ns[i]?=some x→js[i]?=some (some j)→X.N[j]?=some x∧scope.names.lookup x=some .free
def sV (N:List Str) (sc scope:Scope) (ns:List Str) (js:List (Option Nat)):Bool :=
 decide (scope.kind=.function) && scope.names.all (fun y=>decide (y.2=.cell→scope.names.lookup y.1=some .cell)) && scope.names.all (fun y=>decide (y.2=.local→scope.names.lookup y.1=some .local)) &&
 scope.names.all (fun y=>decide (y.2=.free→sc.names.lookup y.1=some .cell∨sc.names.lookup y.1=some .free)) && decide ns.Nodup && decide (js.length=ns.length) &&
 (List.range ns.length).all (fun i=>match js[i]?,ns[i]? with
  | some (some j),some x=>decide (N[j]?=some x) && decide (scope.names.lookup x=some .free)
  | _,_=>true)
theorem El {N:List Str} {scope:Scope} {ns:List Str} {js:List (Option Nat)} (h7:∀ i < ns.length,(match js[i]?,ns[i]? with
  | some (some j),some x=>decide (N[j]?=some x) && decide (scope.names.lookup x=some .free)
  | _,_=>true)=true) {i:Nat} {x:Str} {j:Nat} (e1:ns[i]?=some x) (e2:js[i]?=some (some j)):N[j]?=some x∧scope.names.lookup x=some .free:=by
 have q:=h7 i (List.getElem?_eq_some_iff.mp e1).1
 rw [e1,e2] at q
 simpa using q
theorem BlkOkC.of {X:Cx} {scope:Scope} {ns:List Str} {js:List (Option Nat)} {N0:List Str} {sc0:Scope} (hN:X.N=N0) (hS:X.env.scope=sc0) (h:sV N0 sc0 scope ns js=true):BlkOkC X scope ns js:=by
 unfold sV at h
 simp only [Bool.and_eq_true,List.all_eq_true,decide_eq_true_eq,List.mem_range] at h
 obtain ⟨⟨⟨⟨⟨⟨h1,h2⟩,h3⟩,h4⟩,h5⟩,h6⟩,h7⟩:=h
 refine ⟨h1,fun y hy=>h2 y hy,fun y hy=>h3 y hy,fun y hy hk=>?_,h5,h6,fun i x j e1 e2=>?_⟩
 ·have q:=h4 y hy hk
  rw [← hS] at q
  exact q
 ·rw [hN]
  exact El h7 e1 e2
section
variable {M:Model} {A:Around} {E:Value→Shared→Prop} {s:Shared}
theorem jd {scope:Scope} {globals:Addr} {closure:List (Str × Addr)} {qual:Str} {outer:Env} {builtins:Addr} {Q:Env→Shared→Prop}
  (hQ:Q (newEnv scope s.heap.objs.size globals (cellsFrom (s.heap.objs.size+1) scope.names closure) qual none .none (some outer) builtins) { s with heap:=pushCells (s.heap.push { cls:=.type "dict",data:=.dict #[] }) scope.names }) :
  wpAny M A (newFunctionEnv scope globals closure [] qual none .none (some outer) builtins) Q E s:=by
 simp only [newFunctionEnv,Option.isSome_some,if_true]
 refine wpAny_bind (wpAny_alloc ?_)
 refine wpAny_bind (wpAny_layCells _ (fun name kind cells=>by cases hkc:kind == NameKind.cell <;> simp [hkc]) _ _ _ _ ?_)
 rw [show ({ s with heap:=s.heap.push { cls:=.type "dict",data:=.dict #[] } }:Shared).heap.objs.size=s.heap.objs.size+1 from Heap.size_push ..]
 rw [List.forIn_nil]
 exact wpAny_bind (wpAny_pure (wpAny_pure hQ))
end
section
variable {X:Cx} {elt tg iter:Expr} {ifs:List Expr} {scope:Scope} {pos:Pos} {ns:List Str} {js:List (Option Nat)} {wi:TI} {g:TG} {tt:TT} {te:TE}
theorem xu {pins:List (Addr × Obj)} {s3:Shared} {σ:St} {H3:Hp} {fp:List Addr} {h₁:Heap} {tk:Nat} (B:BlkOkC X scope ns js) (I3:Inv X pins σ H3 s3)
  (f3:∀ b∈fp,jy X pins H3 b) (lt3:∀ b∈fp,b < s3.heap.objs.size) (hns:h₁.Ns s3.heap.objs.size (fun _=>none)) (old:∀ b u,s3.heap.get? b=some u→h₁.get? b=some u)
  (cok:CellsOk h₁ (s3.heap.objs.size+1) (cellsFrom (s3.heap.objs.size+1) scope.names [])) :
  Inv (bv X scope ns s3.heap.objs.size (cellsFrom (s3.heap.objs.size+1) scope.names (fw X.env scope.names)) s3 H3 fp) [] (fZ js σ) H3 { s3 with heap:=h₁,toks:=tk }:=by
 rw [fY]
 have hmem:∀ {x:Str} {c:Addr},(x,c)∈cellsFrom (s3.heap.objs.size+1) scope.names []→scope.names.lookup x=some .cell:=fun {x c} h=>by
  rcases ir _ _ _ h with h | h
  ·simp at h
  ·exact B.uniq _ h rfl
 have hhas:∀ {x:Str},scope.names.lookup x=some .cell→∃ c,(cellsFrom (s3.heap.objs.size+1) scope.names []).lookup x=some c:=fun {x} h=>by
  obtain ⟨c,hc⟩:=iu scope.names (s3.heap.objs.size+1) [] (PySem.mem_of_lookup h)
  exact ip hc
 generalize cellsFrom (s3.heap.objs.size+1) scope.names []=CS at cok hmem hhas
 have has:∀ y∈scope.names,y.2=.free→∃ c,X.env.cells.lookup y.1=some c:=fun y hy hk=>I3.ok.has y.1 (B.free y hy hk)
 have look:∀ {n:Str} {c:Addr},(CS++fw X.env scope.names).lookup n=some c→(CS.lookup n=some c∧h₁.IsCell c none∧s3.heap.objs.size+1≤c)∨(CS.lookup n=none∧X.env.cells.lookup n=some c∧c < s3.heap.objs.size):=fun {n c} e=>by
  rcases qP e with e | ⟨e1,e2⟩
  ·exact .inl ⟨e,cok.empty n c (PySem.mem_of_lookup e)⟩
  ·have e3:=pH has e2
   obtain ⟨v,hv⟩:=I3.cell n c e3
   exact .inr ⟨e1,e3,hv.lt⟩
 refine ⟨⟨I3.ok.mod,B.kind,I3.ok.glob,I3.ok.blt,Nat.le_refl _,fun y z c h1 h2=>?_,fun y hy=>?_,fun y c hf h=>?_,I3.ok.hd,I3.ok.frames,.inl rfl,fun b hb=>?_,I3.bs,Nat.le_trans I3.ok.bsz I3.sz,
   fun b o e hb=>?_,fun b hb z=>?_,I3.stack,I3.stkFree⟩,
  rfl,I3.bare,Un.kept old,⟨_,hns,fun i x v h1 h2 h3=>?_⟩,fun y c h=>?_,I3.fresh,fun y c h=>?_,fun p hp=>absurd (show p∈([]:List (Addr × Obj)) from hp) (by simp),I3.hok.kept old,?_⟩
 ·rcases look h1 with ⟨a1,_,a3⟩ | ⟨_,a2,a3⟩ <;> rcases look h2 with ⟨b1,_,b3⟩ | ⟨_,b2,b3⟩
  ·exact name_of_addr cok.apart (PySem.mem_of_lookup a1) (PySem.mem_of_lookup b1)
  ·exact absurd (Nat.lt_of_lt_of_le (Nat.lt_of_lt_of_le b3 (Nat.le_succ _)) a3) (Nat.lt_irrefl _)
  ·exact absurd (Nat.lt_of_lt_of_le (Nat.lt_of_lt_of_le a3 (Nat.le_succ _)) b3) (Nat.lt_irrefl _)
  ·exact I3.ok.inj y z c a2 b2
 ·have hf:scope.names.lookup y=some .cell∨scope.names.lookup y=some .free:=by
   rcases hy with hy | hy
   ·rcases jT (env:=X.env) hy with q | q
    ·exact .inl q
    ·exact .inr q.1
   ·rcases jT (env:=X.env) hy with q | q
    ·exact .inr q
    ·exact .inr q.1
  show ∃ c,(CS++fw X.env scope.names).lookup y=some c
  rcases hf with hf | hf
  ·obtain ⟨c,hc⟩:=hhas hf
   exact ⟨c,k8 hc⟩
  ·obtain ⟨c,hc⟩:=rp (env:=X.env) (PySem.mem_of_lookup hf)
   cases e:CS.lookup y with
   | none=>exact ⟨c,jZ e hc⟩
   | some d=>exact ⟨d,k8 e⟩
 ·rcases look h with ⟨_,_,a3⟩ | ⟨a1,_,_⟩
  ·show s3.heap.objs.size≤c
   omega
  ·have hf':(scope.names.lookup y == some NameKind.cell)=true:=hf
   obtain ⟨d,hd⟩:=hhas (by simpa using hf')
   rw [a1] at hd
   cases hd
 ·refine ⟨Nat.ne_of_lt (lt3 b hb),fun x c e=>?_⟩
  rcases look e with ⟨_,_,a3⟩ | ⟨_,a2,_⟩
  ·have:=lt3 b hb
   intro z
   subst z
   exact Nat.lt_irrefl _ (Nat.lt_of_lt_of_le (Nat.lt_of_lt_of_le this (Nat.le_succ _)) a3)
  ·exact (f3 b hb).2.2.2.2.1 x c a2
 ·rcases (f3 b hb).2.2.2.1 with z | z
  ·exact I3.ok.noex b o e z
  ·exact absurd (Nat.lt_of_lt_of_le (Nat.lt_of_lt_of_le (Heap.lt_size e) I3.ok.bsz) z) (Nat.lt_irrefl _)
 ·rcases List.mem_cons.mp (I3.stkSub b z) with q | q
  ·exact (f3 b hb).2.1 q
  ·exact (f3 b hb).2.2.1 q
 ·have h2':(js.map fun j=>match j with | some j=>(σ[j]?).join | none=>none)[i]?=some (some v):=h2
  rw [List.getElem?_map] at h2'
  obtain ⟨j,hj,hσ⟩:∃ j,js[i]?=some (some j)∧σ[j]?=some (some v):=by
   cases e:js[i]? with
   | none=>rw [e] at h2'; simp at h2'
   | some oj =>
    rw [e] at h2'
    cases oj with
    | none=>simp at h2'
    | some j =>
     refine ⟨j,rfl,?_⟩
     have q:(σ[j]?).join=some v:=by simpa using h2'
     cases e2:σ[j]? with
     | none=>rw [e2] at q; simp at q
     | some ov =>
      rw [e2] at q
      simp at q
      rw [q]
  obtain ⟨hN,hfr⟩:=B.out i x j h1 hj
  have hf:=B.free (x,.free) (PySem.mem_of_lookup hfr) rfl
  have hf':X.env.kindOf x=some .cell∨X.env.kindOf x=some .free:=hf
  obtain ⟨m,hn,hl⟩:=I3.loc
  obtain ⟨u,r,l⟩:=hl j x v hN hσ (by
   rcases hf' with z | z
   ·exact .inr (.inl z)
   ·exact .inr (.inr z))
  refine ⟨u,r,?_⟩
  rcases l with ⟨hk,_⟩ | ⟨hk,c,hc,hcell⟩
  ·rcases hf' with z | z
   ·rw [z] at hk; cases hk
   ·rw [z] at hk; cases hk
  ·obtain ⟨c',hc'⟩:=rp (env:=X.env) (PySem.mem_of_lookup hfr)
   have e':=pH has hc'
   rw [hc] at e'
   cases e'
   obtain ⟨o,ho,hd⟩:=hcell
   have hno:CS.lookup x=none:=by
    cases e:CS.lookup x with
    | none=>rfl
    | some d =>
     have q:=hmem (PySem.mem_of_lookup e)
     rw [hfr] at q
     cases q
   exact .inr ⟨ni (env:=X.env) hfr,c,jZ hno hc',⟨o,old c o ho,hd⟩⟩
 ·rcases look h with ⟨_,a2,_⟩ | ⟨_,a2,_⟩
  ·exact ⟨_,a2⟩
  ·obtain ⟨v,o,ho,hd⟩:=I3.cell y c a2
   exact ⟨v,o,old c o ho,hd⟩
 ·rcases look h with ⟨_,_,a3⟩ | ⟨_,a2,_⟩
  ·exact I3.hok.fresh (by omega)
  ·exact I3.freeC y c a2
 ·show (js.map _).length=ns.length
  rw [List.length_map]
  exact B.len
theorem qR {pins:List (Addr × Obj)} {s2:Shared} {σ:St} {H2:Hp} {Qv:VK} {J:It} {fp:List Addr} {it:Addr} {tn:Nat→Heap→Prop} {RR:Value→Addr→Result→Shared→Prop}
  (B:BlkOkC X scope ns js) (hc:X.calm=true) (I2:Inv X pins σ H2 s2) (T:Turn X.prog X.w X.K tg J fp it tn) (st2:tn 0 s2.heap) (f2:∀ b∈fp,jy X pins H2 b)
  (hg:∀ C cl s₀ H₀ fp,PG (bv X scope ns C cl s₀ H₀ fp) tg g) (ht:∀ C cl s₀ H₀ fp,PTs (bv X scope ns C cl s₀ H₀ fp) ifs tt) (he:∀ C cl s₀ H₀ fp,PE (bv X scope ns C cl s₀ H₀ fp) elt te)
  (hw:∀ D,H2 D=none→CQ J g tt te (fZ js σ) H2 D Qv)
  (hRR:∀ D C s' H',Inv X pins σ H' s'→Qv (.ref D) H'→(∃ m,s'.heap.Ns C m)→H' C=none→C≠X.env.locals→X.s₀.heap.objs.size≤C→(∀ x c,X.env.cells.lookup x=some c→c≠C)→(∀ p∈X.pn++pins,p.1≠C)→RR (.ref D) C (.ok .next) s') :
  wpAny (model X.prog X.w) X.A (newList []) (fun acc s₃=>wpAny (model X.prog X.w) X.A (newFunctionEnv scope X.env.globals (fw X.env scope.names) [] X.env.qual none .none (some X.env)) (fun cenv s₄ =>
   codeAny (model X.prog X.w) X.A (.compStart (.ListComp elt [⟨tg,iter,ifs,0⟩] scope pos) 0 (.ref it) acc { cenv with scope:=relabel scope X.env }) (RR acc cenv.locals) s₄) X.xe s₃) X.xe s2:=by
 refine wpAny_newObj_type (jd ?_)
 dsimp only
 have I3:Inv X pins σ (upd H2 s2.heap.objs.size (.lst [])) { s2 with heap:=s2.heap.push { cls:=.type "list",data:=.seq ([]:List Value).toArray },toks:=s2.toks }:=I2.lnew .nil (Nat.zero_le _)
 generalize hs3:({ s2 with heap:=s2.heap.push { cls:=.type "list",data:=.seq ([]:List Value).toArray },toks:=s2.toks }:Shared)=s3 at I3
 have e3:s3.heap=s2.heap.push { cls:=.type "list",data:=.seq ([]:List Value).toArray }:=by rw [← hs3]
 have k3:∀ b u,s2.heap.get? b=some u→s3.heap.get? b=some u:=fun b u e=>by rw [e3]; exact Heap.get?_push_of_some _ e
 have sz3:s3.heap.objs.size=s2.heap.objs.size+1:=by rw [e3,Heap.size_push]
 have hD:H2 s2.heap.objs.size=none:=I2.fresh
 obtain ⟨h₁,hh₁⟩:∃ h₁,h₁=pushCells (s3.heap.push { cls:=.type "dict",data:=.dict #[] }) scope.names:=⟨_,rfl⟩
 have old:∀ b u,s3.heap.get? b=some u→h₁.get? b=some u:=fun b u e=>by
  rw [hh₁]
  exact pushCells_keeps _ _ b u (Heap.get?_push_of_some _ e)
 have hns:h₁.Ns s3.heap.objs.size (fun _=>none):=by
  rw [hh₁]
  exact (Heap.Ns.new s3.heap (.type "dict")).keeps (pushCells_keeps _ _)
 have cok:CellsOk h₁ (s3.heap.objs.size+1) (cellsFrom (s3.heap.objs.size+1) scope.names []):=by
  have q:=cellsFrom_ok scope.names (s3.heap.push { cls:=.type "dict",data:=.dict #[] }) (s3.heap.objs.size+1) [] ⟨fun _ _ hm=>(nomatch hm),List.Pairwise.nil⟩ (by rw [Heap.size_push]; exact Nat.le_refl _)
  rw [Heap.size_push,← hh₁] at q
  exact q
 have obj2:∀ b∈fp,b < s2.heap.objs.size:=fun b hb=>let ⟨o,e,_⟩:=T.obj 0 _ st2 b hb; Heap.lt_size e
 have f3:∀ b∈fp,jy X pins (upd H2 s2.heap.objs.size (.lst [])) b:=fun b hb=>⟨by rw [bj (Nat.ne_of_lt (obj2 b hb))]; exact (f2 b hb).1,(f2 b hb).2⟩
 have lt3:∀ b∈fp,b < s3.heap.objs.size:=fun b hb=>by rw [sz3]; exact Nat.lt_succ_of_lt (obj2 b hb)
 obtain ⟨W,⟨m0,w0⟩,turn⟩:=hw _ hD
 have J0:=fun tk=>xu (tk:=tk) B I3 f3 lt3 hns old cok
 have has:∀ y∈scope.names,y.2=.free→∃ c,X.env.cells.lookup y.1=some c:=fun y hy hk=>I2.ok.has y.1 (B.free y hy hk)
 have stat:∀ {H':Hp},(∀ b∈fp,H' b=none)→∀ b∈fp,jy (bv X scope ns s3.heap.objs.size (cellsFrom (s3.heap.objs.size+1) scope.names (fw X.env scope.names)) s3 (upd H2 s2.heap.objs.size (.lst [])) fp) [] H' b:=fun hn b hb =>
  ⟨hn b hb,Nat.ne_of_lt (lt3 b hb),(J0 0).ok.exfs b hb,.inl hb,fun x c e=>(J0 0).ok.exf b hb |>.2 x c e,fun p hp=>absurd (show p∈([]:List (Addr × Obj)) from hp) (by simp)⟩
 have fin:∀ {τ:St} {H':Hp} {s':Shared},Inv (bv X scope ns s3.heap.objs.size (cellsFrom (s3.heap.objs.size+1) scope.names (fw X.env scope.names)) s3 (upd H2 s2.heap.objs.size (.lst [])) fp) [] τ H' s'→Qv (.ref s2.heap.objs.size) H'→RR (.ref s2.heap.objs.size) s3.heap.objs.size (.ok .next) s':=fun {τ H' s'} I6 q=>by
  have u1:Un (frs X.stack) fp H2 (upd H2 s2.heap.objs.size (.lst [])) s2.heap s3.heap:=Un.laid k3 (Nat.le_refl _) hD
  have os3:s3.os=s2.os:=by rw [← hs3]
  have I7:Inv X pins σ H' s':=I2.call' (ch:=fp) (I6.os.trans os3) (u1.trans I6.base) I6.hok I6.bare fun b hb=>⟨(f2 b hb).2.2.2.1,(f2 b hb).2.1,(f2 b hb).2.2.2.2.1,(f2 b hb).2.2.2.2.2⟩
  have le2:s2.heap.objs.size≤s3.heap.objs.size:=by rw [sz3]; exact Nat.le_succ _
  refine hRR _ _ s' H' I7 q ?_ I6.free (Nat.ne_of_gt (Nat.lt_of_lt_of_le I2.lt le2)) (Nat.le_trans I2.sz le2) (fun x c e z=>?_) fun p hp z=>?_
  ·obtain ⟨m,hn,_⟩:=I6.loc
   exact ⟨m,hn⟩
  ·obtain ⟨v,hv⟩:=I2.cell x c e
   exact absurd (Nat.lt_of_lt_of_le hv.lt (by rw [z]; exact le2)) (Nat.lt_irrefl _)
  ·exact absurd (Nat.lt_of_lt_of_le (Heap.lt_size (I2.pin p hp).1) (by rw [z]; exact le2)) (Nat.lt_irrefl _)
 rw [← e3,← hh₁]
 have loop:∀ tk,codeAny (model X.prog X.w) X.A (.compLoop (.ListComp elt [⟨tg,iter,ifs,0⟩] scope pos) 0 (.ref it) (.ref s2.heap.objs.size) (compEnvC scope (cellsFrom (s3.heap.objs.size+1) scope.names (fw X.env scope.names)) s3.heap.objs.size X.env))
   (RR (.ref s2.heap.objs.size) s3.heap.objs.size) { s3 with heap:=h₁,toks:=tk }:=fun tk=>by
  refine codeAny_loop rfl (fun n s'=>∃ i τ H',Inv (bv X scope ns s3.heap.objs.size (cellsFrom (s3.heap.objs.size+1) scope.names (fw X.env scope.names)) s3 (upd H2 s2.heap.objs.size (.lst [])) fp) [] τ H' s'∧tn i s'.heap∧(∀ b∈fp,H' b=none)∧W i n τ H') (fun n s5 hI=>?_) m0
   ⟨0,_,_,J0 tk,T.keep _ _ _ st2 fun b _ o e=>old b o (k3 b o e),fun b hb=>(f3 b hb).1,w0⟩
  obtain ⟨i,τ,H5,I5,st5,fr5,w5⟩:=hI
  show wpAny _ X.A ((compTurn (.ListComp elt [⟨tg,iter,ifs,0⟩] scope pos) 0 (.ref it) (.ref s2.heap.objs.size) (compEnvC scope (cellsFrom (s3.heap.objs.size+1) scope.names (fw X.env scope.names)) s3.heap.objs.size X.env)).onRaise (fun x=>do noteFrame x (compEnvC scope (cellsFrom (s3.heap.objs.size+1) scope.names (fw X.env scope.names)) s3.heap.objs.size X.env); theTreesLotGoes x)) _ _ s5
  refine wpAny_noted ?_
  rw [compTurn_list]
  refine wpAny_bind (wpAny_standAt (wpAny_bind ?_))
  rcases turn i n τ H5 w5 with ⟨stop,qn⟩ | ⟨go,N,hN,step⟩
  ·refine thn (T.done (bv X scope ns s3.heap.objs.size (cellsFrom (s3.heap.objs.size+1) scope.names (fw X.env scope.names)) s3 (upd H2 s2.heap.objs.size (.lst [])) fp) rfl rfl rfl hc i [] s5 τ H5 _ I5 (stat fr5) st5 stop) fun r s6 ⟨hr,I6⟩=>?_
   subst hr
   exact wpAny_pure (fin I6 qn)
  ·refine thn (T.item (bv X scope ns s3.heap.objs.size (cellsFrom (s3.heap.objs.size+1) scope.names (fw X.env scope.names)) s3 (upd H2 s2.heap.objs.size (.lst [])) fp) rfl rfl rfl hc i [] s5 τ H5 _ I5 (stat fr5) st5 go) fun r s6 ⟨u,hr,h6⟩=>?_
   subst hr
   dsimp only
   refine wpAny_bind (thn h6 fun _ s7 ⟨x,H7,I7,r7,y7,st7,fr7⟩=>?_)
   have I7':=I7.pinned (stat fr7) (T.obj _ _ st7)
   have back:∀ {τ9:St} {H9:Hp} {s9:Shared},Inv (bv X scope ns s3.heap.objs.size (cellsFrom (s3.heap.objs.size+1) scope.names (fw X.env scope.names)) s3 (upd H2 s2.heap.objs.size (.lst [])) fp) ([]++kX fp s7.heap) τ9 H9 s9 →
     Inv (bv X scope ns s3.heap.objs.size (cellsFrom (s3.heap.objs.size+1) scope.names (fw X.env scope.names)) s3 (upd H2 s2.heap.objs.size (.lst [])) fp) [] τ9 H9 s9∧tn (i+1) s9.heap∧∀ b∈fp,H9 b=none:=fun {τ9 H9 s9} I9=>by
    refine ⟨I9.unpinned,T.keep _ _ _ st7 fun b hb o e=>(I9.pin (b,o) (List.mem_append_right _ (List.mem_append_right _ (iB hb e)))).1,fun b hb=>?_⟩
    obtain ⟨o,e,d⟩:=T.obj _ _ st7 b hb
    exact (I9.pin (b,o) (List.mem_append_right _ (List.mem_append_right _ (iB hb e)))).2.1
   refine wpAny_bind (thF (hg _ _ _ _ _ _ s7 τ H7 x u _ I7' r7 (step x H7 y7)) fun _ s8 ⟨τ8,H8,I8,q8⟩=>?_)
   refine wpAny_bind (thF (ht _ _ _ _ _ _ s8 τ8 H8 _ I8 q8) fun b s9 ⟨H9,I9,q9⟩=>?_)
   cases b with
   | false =>
    rw [if_neg Bool.false_ne_true] at q9
    obtain ⟨m',hm,w9⟩:=hN _ _ q9
    obtain ⟨a1,a2,a3⟩:=back I9
    exact wpAny_pure ⟨rfl,m',hm,i+1,τ8,H9,a1,a2,a3,w9⟩
   | true =>
    rw [if_pos rfl] at q9
    refine wpAny_bind (wpAny_bind (thF (he _ _ _ _ _ _ s9 τ8 H9 _ I9 q9) fun v s10 ⟨y,H10,I10,r10,q10⟩=>?_))
    obtain ⟨xs,hx,hz,n10⟩:=q10
    obtain ⟨m',hm,w10⟩:=hN _ _ n10
    refine wpAny_bind (thF (pq _ s10 τ8 H10 (.ref s2.heap.objs.size) [y] (.ref s2.heap.objs.size) [v] (fun _ H11=>W (i+1) m' τ8 H11) I10 rfl (.cons r10 .nil) ⟨_,xs,y,rfl,rfl,hx,hz,w10⟩) fun _ s11 ⟨_,H11,I11,_,q11⟩=>?_)
    obtain ⟨a1,a2,a3⟩:=back I11
    exact wpAny_pure (wpAny_pure ⟨rfl,m',hm,i+1,τ8,H11,a1,a2,a3,q11⟩)
 have hst1:tn 0 h₁:=T.keep _ _ _ st2 fun b _ o e=>old b o (k3 b o e)
 subst hs3
 exact codeAny_compStart_list (loop _) (T.self _ 0 _ _ _ hst1 (loop _))
theorem G5 (B:BlkOkC X scope ns js) (hc:X.calm=true) (hi:PI X tg iter wi)
  (hg:∀ C cl s₀ H₀ fp,PG (bv X scope ns C cl s₀ H₀ fp) tg g) (ht:∀ C cl s₀ H₀ fp,PTs (bv X scope ns C cl s₀ H₀ fp) ifs tt) (he:∀ C cl s₀ H₀ fp,PE (bv X scope ns C cl s₀ H₀ fp) elt te)
  (hs:∀ x,foldedSetIterable iter X.env x=pure x:=by intro _; rfl):PE X (.ListComp elt [⟨tg,iter,ifs,0⟩] scope pos) (tLC wi g tt te js):=by
 intro pins s σ H Q I h
 rw [eval_ListComp]
 have hclos:=nS (scope:=scope) (env:=X.env) (fun y hy hk=>I.ok.has y.1 (B.free y hy hk))
 refine wpAny_comprehension_free (use:=none) rfl hs hclos B.kind B.names (thn (hi pins s σ H _ I h) fun v s1 h1=>thn h1 fun itv s2 h2=>?_)
 obtain ⟨it,fp,tn,J,H2,e,I2,T,st2,f2,hw⟩:=h2
 subst e
 refine qR (RR:=fun acc C=>compPost (model X.prog X.w) X.A X.xe none (EP X pins σ Q) acc C) B hc I2 T st2 f2 hg ht he hw ?_
 intro D C s' H' I' q hm c0 c1 c2 c3 c4
 obtain ⟨m,hn⟩:=hm
 exact ⟨m,hn,fun h' hs'=>⟨.ref D,H',I'.turned (t':=s'.toks) (fun b o hb e=>(hs'.2 b hb).trans e) c0 c1 (.inr c2) c3 c4,rfl,q⟩⟩
theorem uG {i:Nat} {x:Str} {spos pos':Pos} (hN:X.N.Nodup) (hi':X.N[i]?=some x) (hx:X.env.scope.names.lookup x=some .local) (B:BlkOkC X scope ns js) (hc:X.calm=true) (hi:PI X tg iter wi)
  (hg:∀ C cl s₀ H₀ fp,PG (bv X scope ns C cl s₀ H₀ fp) tg g) (ht:∀ C cl s₀ H₀ fp,PTs (bv X scope ns C cl s₀ H₀ fp) ifs tt) (he:∀ C cl s₀ H₀ fp,PE (bv X scope ns C cl s₀ H₀ fp) elt te)
  (hsw:swapsWith (.ListComp elt [⟨tg,iter,ifs,0⟩] scope pos) (some (.Name x pos')) spos.line X.env=pure true:=by rfl)
  (hs:∀ x,foldedSetIterable iter X.env x=pure x:=by intro _; rfl):PS X (.Assign [.Name x pos'] (.ListComp elt [⟨tg,iter,ifs,0⟩] scope pos) spos) (qv (tLC wi g tt te js) (nK i)):=by
 intro pins s σ H D I h
 rw [exec_Assign_Name_used _ _ _ _ hsw]
 have hclos:=nS (scope:=scope) (env:=X.env) (fun y hy hk=>I.ok.has y.1 (B.free y hy hk))
 refine wpAny_bind (wpAny_standAt (wpAny_bind ?_))
 show wpAny _ X.A (do let _ ← comprehension (.ListComp elt [⟨tg,iter,ifs,0⟩] scope pos) scope X.env _ (newList []) false (eval iter X.env) (some (assign (.Name x pos') X.env))) _ _ s
 refine wpAny_bind (wpAny_mono (wpAny_comprehension_free (use:=some (assign (.Name x pos') X.env)) (Q:=fun _ s'=>SP X pins D .next s') rfl hs hclos B.kind B.names
  (thn (hi pins s σ H _ I h) fun v s1 h1=>thn h1 fun itv s2 h2=>?_)) (fun _ s' hq=>wpAny_pure (wpAny_pure hq)) fun _ _ e=>e)
 obtain ⟨it,fp,tn,J,H2,e,I2,T,st2,f2,hw⟩:=h2
 subst e
 refine qR (RR:=fun acc C=>compPost (model X.prog X.w) X.A X.xe (some (assign (.Name x pos') X.env)) (fun _ s'=>SP X pins D .next s') acc C) B hc I2 T st2 f2 hg ht he hw ?_
 intro D' C s' H' I' q hm c0 c1 c2 c3 c4
 obtain ⟨m,hn⟩:=hm
 show wpAny _ X.A (assign (.Name x pos') X.env (.ref D')) _ _ _
 refine wpAny_assign_Name (kS (v:=.ref D') I' hN hi' (.inl hx) rfl (fun s4 I4 ⟨a,hsb,ha⟩=>?_) (.inr hx))
 have ne:C≠a:=by
  rcases ha with z | z
  ·rw [z]; exact c1
  ·exact (c3 x a z).symm
 exact ⟨m,hn.sameBut hsb ne,fun h' hs'=>⟨_,H',I4.turned (t':=s4.toks) (fun b o hb e=>(hs'.2 b hb).trans e) c0 c1 (.inr c2) c3 c4,q⟩⟩
end
end L2
namespace L2
open PySem PySem.Spec PyProof.Rows
section
variable {X:Cx} {K:PySem.W.Frag}
theorem l9 (ns:List Int):∀ k,k≤ns.length→preSum (fun i=>ns.getD i 0) k=(ns.take k).sum
 | 0,_=>rfl
 | k+1,h=>by
  show preSum (fun i=>ns.getD i 0) k+ns.getD k 0=_
  rw [l9 ns k (by omega),PyProof.Rows.take_sum_succ ns k (by omega)]
end
end L2
namespace L2
open PySem PySem.Spec PyProof.Rows
mutual
def DV (H:Hp):V→PyData→Prop
 | v,.none=>v=.non
 | v,.bool b=>v=.bl b
 | v,.int i=>v=.int i
 | v,.str x=>v=.str x
 | v,.list ds=>∃ a xs,v=.ref a∧H a=some (.lst xs)∧DVs H xs ds
 | v,.tuple ds=>∃ a xs,v=.ref a∧H a=some (.tup xs)∧DVs H xs ds
 | _,.dict _=>False
def DVs (H:Hp):List V→List PyData→Prop
 | vs,[]=>vs=[]
 | vs,d :: ds=>∃ v r,vs=v :: r∧DV H v d∧DVs H r ds
end
section
variable {X:Cx} {pins:List (Addr × Obj)} {σ:St} {H:Hp} {s:Shared}
end
section
variable {X:Cx}
end
end L2
namespace L2
open PySem PySem.Spec PyProof.Rows
section
variable {prog:Program} {w:World} {A:Around} {E:Value→Shared→Prop} {s:Shared}
end
end L2
namespace L2
open PySem PySem.Spec PyProof.Rows
section
variable {prog:Program} {w:World} {A:Around} {E:Value→Shared→Prop} {s:Shared}
end
section
variable {X:Cx} {K:PySem.W.Frag}
end
end L2
namespace L2
open PySem PySem.Spec PyProof.Rows
section
open PySem.SeqAt
end
end L2
namespace L2
open PySem PySem.Spec PyProof.Rows
def Rp (H:Hp) (v:V) (txt:Str):Prop:=(∃ d,DV H v d∧d.showable=true∧d.depth≤60∧d.shown.length≤sizeLine∧txt=d.shown)∨∃ a,v=.ref a∧H a=some (.dK [])∧txt=("{}" : Str)
section
variable {X:Cx}
end
end L2
namespace L2
open PySem PySem.Spec PyProof.Rows
abbrev D:=PyData
abbrev En:=List (Option D)
abbrev AS:=Addr→Prop
def dn:Nat→Nat
 | 0=>0
 | 1=>0
 | 2=>1
 | n+3=>n+3
theorem oS:∀ {a b:Nat},a≤b→dn a≤dn b
 | 0,_,_=>Nat.zero_le _
 | 1,_,_=>Nat.zero_le _
 | 2,2,_=>Nat.le_refl _
 | 2,b+3,_=>by show 1≤b+3; omega
 | a+3,b+3,h=>h
 | a+3,0,h=>by omega
 | a+3,1,h=>by omega
 | a+3,2,h=>by omega
 | 2,0,h=>by omega
 | 2,1,h=>by omega
def kD:Key→D
 | .inl i=>.int i
 | .inr x=>.str x
def FzL (K:PySem.W.Frag) (O:AS) (H:Hp) (a:Addr) (vs:List V):Prop:=(Rd H a (.lst vs)∧¬ O a)∨∀ H',SqL K H' a vs
def FzT (K:PySem.W.Frag) (O:AS) (H:Hp) (a:Addr) (vs:List V):Prop:=H a=some (.tup vs)∧¬ O a
theorem FzL.sq {K:PySem.W.Frag} {O:AS} {H:Hp} {a:Addr} {vs:List V} (h:FzL K O H a vs):SqL K H a vs:=h.elim (fun h=>.inl h.1) fun h=>h H
theorem FzT.sq {K:PySem.W.Frag} {O:AS} {H:Hp} {a:Addr} {vs:List V} (h:FzT K O H a vs):SqT K H a vs:=SqT.of h.1
def gB (a C:Addr):Heap→Prop:=fun h=>∃ o,h.get? a=some o∧o.cls=.ref C∧∀ c,o.data≠.cls c
def TupD (K:PySem.W.Frag) (H:Hp) (O:AS) (ks:List (D × D)) (a:Addr):Prop:=(∃ (kk:List Key) (b:Bool),ks=[(.tuple (kk.map kD),.bool b)]∧H a=some (.dT [(kk,.bl b)])∧¬ O a) ∨
 ∃ (x:Str) (C:Addr),ks=[(.none,.str x)]∧PySem.W.nsIn K mainGlobals x=some (some (.ref C))∧H a=some (.ext (gB a C))∧¬ O a
theorem TupD.to {K:PySem.W.Frag} {H H':Hp} {O O':AS} {ks:List (D × D)} {a:Addr} (h:TupD K H O ks a) (k:∀ o,H a=some o→¬ O a→H' a=some o∧¬ O' a):TupD K H' O' ks a:=by
 rcases h with ⟨kk,b,h1,h2,h3⟩ | ⟨x,C,h1,h0,h2,h3⟩
 ·obtain ⟨g1,g2⟩:=k _ h2 h3
  exact .inl ⟨kk,b,h1,g1,g2⟩
 ·obtain ⟨g1,g2⟩:=k _ h2 h3
  exact .inr ⟨x,C,h1,h0,g1,g2⟩
mutual
def Ow (K:PySem.W.Frag) (O:AS) (H:Hp):D→Nat→V→AS→Prop
 | .none,_,v,_=>v=.non
 | .bool b,_,v,_=>v=.bl b
 | .int i,_,v,_=>v=.int i
 | .str x,_,v,_=>v=.str x
 | .tuple ts,d,v,F=>∃ a vs,v=.ref a∧((d=0∧FzT K O H a vs∧Ows K O H ts 0 vs F)∨(d≠0∧H a=some (.tup vs)∧F a∧∃ F':AS,(∀ b,F' b→F b∧b≠a)∧Ows K O H ts (dn d) vs F'))
 | .list ts,d,v,F=>∃ a vs,v=.ref a∧((d=0∧FzL K O H a vs∧Ows K O H ts 0 vs F)∨(d≠0∧H a=some (.lst vs)∧F a∧∃ F':AS,(∀ b,F' b→F b∧b≠a)∧Ows K O H ts (dn d) vs F'))
 | .dict ks,d,v,F=>∃ a vs,v=.ref a∧((d=0∧H a=some (.dK vs)∧¬ O a∧Owd K O H ks 0 vs F)∨(d≠0∧H a=some (.dK vs)∧F a∧∃ F':AS,(∀ b,F' b→F b∧b≠a)∧Owd K O H ks (dn d) vs F')∨(d=0∧TupD K H O ks a))
def Ows (K:PySem.W.Frag) (O:AS) (H:Hp):List D→Nat→List V→AS→Prop
 | [],_,vs,_=>vs=[]
 | t :: ts,d,vs,F=>∃ v r,∃ F1 F2:AS,vs=v :: r∧(∀ b,F1 b→F b)∧(∀ b,F2 b→F b)∧(∀ b,F1 b→¬ F2 b)∧Ow K O H t d v F1∧Ows K O H ts d r F2
def Owd (K:PySem.W.Frag) (O:AS) (H:Hp):List (D × D)→Nat→List (Key × V)→AS→Prop
 | [],_,vs,_=>vs=[]
 | (k,t) :: ts,d,vs,F=>∃ q v r,∃ F1 F2:AS,vs=(q,v) :: r∧k=kD q∧(∀ b,F1 b→F b)∧(∀ b,F2 b→F b)∧(∀ b,F1 b→¬ F2 b)∧Ow K O H t d v F1∧Owd K O H ts d r F2
end
section
variable {K:PySem.W.Frag} {O O':AS} {H H':Hp}
theorem Rd.mv {a:Addr} {u:HO} (hk:∀ o,H a=some o→H' a=some o) (h:Rd H a u):Rd H' a u:=by
 rcases h with h | ⟨o,h⟩
 ·exact .inl (hk _ h)
 ·exact .inr ⟨o,hk _ h⟩
theorem Rd.there {a:Addr} {u:HO} (h:Rd H a u):H a≠none:=by
 rcases h with h | ⟨o,h⟩ <;> rw [h] <;> exact fun z=>nomatch z
structure Mv (O O':AS) (G:AS) (H H':Hp):Prop where
 k:∀ a o,H a=some o→(¬ O a∨G a)→H' a=some o
 o:∀ a,O' a→O a∨H a=none
theorem FzL.mv {G:AS} {a:Addr} {vs:List V} (m:Mv O O' G H H') (h:FzL K O H a vs):FzL K O' H' a vs:=by
 rcases h with ⟨h,n⟩ | h
 ·refine .inl ⟨h.mv fun o e=>m.k _ _ e (.inl n),fun z=>?_⟩
  rcases m.o _ z with z | z
  ·exact n z
  ·exact h.there z
 ·exact .inr h
theorem FzT.mv {G:AS} {a:Addr} {vs:List V} (m:Mv O O' G H H') (h:FzT K O H a vs):FzT K O' H' a vs:=by
 obtain ⟨h,n⟩:=h
 refine ⟨m.k _ _ h (.inl n),fun z=>?_⟩
 rcases m.o _ z with z | z
 ·exact n z
 ·rw [h] at z; cases z
mutual
theorem Ow.mv {G:AS} (m:Mv O O' G H H'):∀ (t:D) {d:Nat} {v:V} {F:AS},(∀ b,F b→G b)→Ow K O H t d v F→Ow K O' H' t d v F
 | .none,_,_,_,_,h=>h
 | .bool _,_,_,_,_,h=>h
 | .int _,_,_,_,_,h=>h
 | .str _,_,_,_,_,h=>h
 | .tuple ts,_,_,_,g,h=>by
  obtain ⟨a,vs,e,⟨h0,h1,h2⟩ | ⟨h0,h1,h2,F',hf,h3⟩⟩:=h
  ·exact ⟨a,vs,e,.inl ⟨h0,h1.mv m,Ows.mv m ts g h2⟩⟩
  ·exact ⟨a,vs,e,.inr ⟨h0,m.k _ _ h1 (.inr (g _ h2)),h2,F',hf,Ows.mv m ts (fun b hb=>g _ (hf b hb).1) h3⟩⟩
 | .list ts,_,_,_,g,h=>by
  obtain ⟨a,vs,e,⟨h0,h1,h2⟩ | ⟨h0,h1,h2,F',hf,h3⟩⟩:=h
  ·exact ⟨a,vs,e,.inl ⟨h0,h1.mv m,Ows.mv m ts g h2⟩⟩
  ·exact ⟨a,vs,e,.inr ⟨h0,m.k _ _ h1 (.inr (g _ h2)),h2,F',hf,Ows.mv m ts (fun b hb=>g _ (hf b hb).1) h3⟩⟩
 | .dict ks,_,_,_,g,h=>by
  obtain ⟨a,vs,e,⟨h0,h1,hn,h2⟩ | ⟨h0,h1,h2,F',hf,h3⟩ | ⟨h0,ht⟩⟩:=h
  ·refine ⟨a,vs,e,.inl ⟨h0,m.k _ _ h1 (.inl hn),fun z=>?_,Owd.mv m ks g h2⟩⟩
   rcases m.o _ z with z | z
   ·exact hn z
   ·rw [h1] at z; cases z
  ·exact ⟨a,vs,e,.inr (.inl ⟨h0,m.k _ _ h1 (.inr (g _ h2)),h2,F',hf,Owd.mv m ks (fun b hb=>g _ (hf b hb).1) h3⟩)⟩
  ·refine ⟨a,vs,e,.inr (.inr ⟨h0,ht.to fun o h2 hn=>⟨m.k _ _ h2 (.inl hn),fun z=>?_⟩⟩)⟩
   rcases m.o _ z with z | z
   ·exact hn z
   ·rw [h2] at z; cases z
theorem Ows.mv {G:AS} (m:Mv O O' G H H'):∀ (ts:List D) {d:Nat} {vs:List V} {F:AS},(∀ b,F b→G b)→Ows K O H ts d vs F→Ows K O' H' ts d vs F
 | [],_,_,_,_,h=>h
 | t :: ts,_,_,_,g,h=>by
  obtain ⟨v,r,F1,F2,e,h1,h2,h3,h4,h5⟩:=h
  exact ⟨v,r,F1,F2,e,h1,h2,h3,Ow.mv m t (fun b hb=>g _ (h1 b hb)) h4,Ows.mv m ts (fun b hb=>g _ (h2 b hb)) h5⟩
theorem Owd.mv {G:AS} (m:Mv O O' G H H'):∀ (ts:List (D × D)) {d:Nat} {vs:List (Key × V)} {F:AS},(∀ b,F b→G b)→Owd K O H ts d vs F→Owd K O' H' ts d vs F
 | [],_,_,_,_,h=>h
 | (k,t) :: ts,_,_,_,g,h=>by
  obtain ⟨q,v,r,F1,F2,e,e2,h1,h2,h3,h4,h5⟩:=h
  exact ⟨q,v,r,F1,F2,e,e2,h1,h2,h3,Ow.mv m t (fun b hb=>g _ (h1 b hb)) h4,Owd.mv m ts (fun b hb=>g _ (h2 b hb)) h5⟩
end
theorem FzL.sub {a:Addr} {vs:List V} (ho:∀ a,O' a→O a) (h:FzL K O H a vs):FzL K O' H a vs:=h.imp (fun h=>⟨h.1,fun z=>h.2 (ho _ z)⟩) id
theorem FzT.sub {a:Addr} {vs:List V} (ho:∀ a,O' a→O a) (h:FzT K O H a vs):FzT K O' H a vs:=⟨h.1,fun z=>h.2 (ho _ z)⟩
mutual
theorem Ow.cut:∀ (t:D) {d d':Nat} {v:V} {F:AS},d'≤d→Ow K O H t d v F→∃ F':AS,(∀ b,F' b→F b)∧∀ O':AS,(∀ a,O' a→O a)→(∀ a,F a→O' a→F' a)→Ow K O' H t d' v F'
 | .none,_,_,_,F,_,h=>⟨F,fun _ z=>z,fun _ _ _=>h⟩
 | .bool _,_,_,_,F,_,h=>⟨F,fun _ z=>z,fun _ _ _=>h⟩
 | .int _,_,_,_,F,_,h=>⟨F,fun _ z=>z,fun _ _ _=>h⟩
 | .str _,_,_,_,F,_,h=>⟨F,fun _ z=>z,fun _ _ _=>h⟩
 | .tuple ts,d,d',_,F,hd,h=>by
  obtain ⟨a,vs,e,⟨h0,h1,h2⟩ | ⟨h0,h1,h2,G,hg,h3⟩⟩:=h
  ·subst h0
   have e0:d'=0:=by omega
   subst e0
   obtain ⟨F',s1,s2⟩:=Ows.cut ts (Nat.le_refl _) h2
   exact ⟨F',s1,fun O' ho hx=>⟨a,vs,e,.inl ⟨rfl,h1.sub ho,s2 O' ho hx⟩⟩⟩
  ·by_cases e0:d'=0
   ·subst e0
    obtain ⟨F',s1,s2⟩:=Ows.cut ts (Nat.zero_le _) h3
    refine ⟨F',fun b hb=>(hg _ (s1 b hb)).1,fun O' ho hx=>⟨a,vs,e,.inl ⟨rfl,⟨h1,fun z=>(hg _ (s1 _ (hx _ h2 z))).2 rfl⟩,s2 O' ho fun b hb=>hx b (hg b hb).1⟩⟩⟩
   ·obtain ⟨F',s1,s2⟩:=Ows.cut ts (oS hd) h3
    refine ⟨fun b=>b=a∨F' b,fun b hb=>hb.elim (fun z=>z ▸ h2) fun z=>(hg _ (s1 b z)).1,fun O' ho hx=>⟨a,vs,e,.inr ⟨e0,h1,.inl rfl,F',fun b hb=>⟨.inr hb,(hg _ (s1 b hb)).2⟩,s2 O' ho fun b hb hz=>?_⟩⟩⟩
    exact (hx b (hg b hb).1 hz).elim (fun z=>absurd z (hg b hb).2) id
 | .list ts,d,d',_,F,hd,h=>by
  obtain ⟨a,vs,e,⟨h0,h1,h2⟩ | ⟨h0,h1,h2,G,hg,h3⟩⟩:=h
  ·subst h0
   have e0:d'=0:=by omega
   subst e0
   obtain ⟨F',s1,s2⟩:=Ows.cut ts (Nat.le_refl _) h2
   exact ⟨F',s1,fun O' ho hx=>⟨a,vs,e,.inl ⟨rfl,h1.sub ho,s2 O' ho hx⟩⟩⟩
  ·by_cases e0:d'=0
   ·subst e0
    obtain ⟨F',s1,s2⟩:=Ows.cut ts (Nat.zero_le _) h3
    refine ⟨F',fun b hb=>(hg _ (s1 b hb)).1,fun O' ho hx=>⟨a,vs,e,.inl ⟨rfl,.inl ⟨.inl h1,fun z=>(hg _ (s1 _ (hx _ h2 z))).2 rfl⟩,s2 O' ho fun b hb=>hx b (hg b hb).1⟩⟩⟩
   ·obtain ⟨F',s1,s2⟩:=Ows.cut ts (oS hd) h3
    refine ⟨fun b=>b=a∨F' b,fun b hb=>hb.elim (fun z=>z ▸ h2) fun z=>(hg _ (s1 b z)).1,fun O' ho hx=>⟨a,vs,e,.inr ⟨e0,h1,.inl rfl,F',fun b hb=>⟨.inr hb,(hg _ (s1 b hb)).2⟩,s2 O' ho fun b hb hz=>?_⟩⟩⟩
    exact (hx b (hg b hb).1 hz).elim (fun z=>absurd z (hg b hb).2) id
 | .dict ts,d,d',_,F,hd,h=>by
  obtain ⟨a,vs,e,⟨h0,h1,hn,h2⟩ | ⟨h0,h1,h2,G,hg,h3⟩ | ⟨h0,ht⟩⟩:=h
  ·subst h0
   have e0:d'=0:=by omega
   subst e0
   obtain ⟨F',s1,s2⟩:=Owd.cut ts (Nat.le_refl _) h2
   exact ⟨F',s1,fun O' ho hx=>⟨a,vs,e,.inl ⟨rfl,h1,fun z=>hn (ho _ z),s2 O' ho hx⟩⟩⟩
  ·by_cases e0:d'=0
   ·subst e0
    obtain ⟨F',s1,s2⟩:=Owd.cut ts (Nat.zero_le _) h3
    refine ⟨F',fun b hb=>(hg _ (s1 b hb)).1,fun O' ho hx=>⟨a,vs,e,.inl ⟨rfl,h1,fun z=>(hg _ (s1 _ (hx _ h2 z))).2 rfl,s2 O' ho fun b hb=>hx b (hg b hb).1⟩⟩⟩
   ·obtain ⟨F',s1,s2⟩:=Owd.cut ts (oS hd) h3
    refine ⟨fun b=>b=a∨F' b,fun b hb=>hb.elim (fun z=>z ▸ h2) fun z=>(hg _ (s1 b z)).1,fun O' ho hx=>⟨a,vs,e,.inr (.inl ⟨e0,h1,.inl rfl,F',fun b hb=>⟨.inr hb,(hg _ (s1 b hb)).2⟩,s2 O' ho fun b hb hz=>?_⟩)⟩⟩
    exact (hx b (hg b hb).1 hz).elim (fun z=>absurd z (hg b hb).2) id
  ·subst h0
   have e0:d'=0:=by omega
   subst e0
   exact ⟨F,fun _ z=>z,fun O' ho hx=>⟨a,vs,e,.inr (.inr ⟨rfl,ht.to fun o h2 hn=>⟨h2,fun z=>hn (ho _ z)⟩⟩)⟩⟩
theorem Ows.cut:∀ (ts:List D) {d d':Nat} {vs:List V} {F:AS},d'≤d→Ows K O H ts d vs F→∃ F':AS,(∀ b,F' b→F b)∧∀ O':AS,(∀ a,O' a→O a)→(∀ a,F a→O' a→F' a)→Ows K O' H ts d' vs F'
 | [],_,_,_,F,_,h=>⟨F,fun _ z=>z,fun _ _ _=>h⟩
 | t :: ts,_,_,_,F,hd,h=>by
  obtain ⟨v,r,F1,F2,e,h1,h2,h3,h4,h5⟩:=h
  obtain ⟨G1,a1,a2⟩:=Ow.cut t hd h4
  obtain ⟨G2,b1,b2⟩:=Ows.cut ts hd h5
  refine ⟨fun b=>G1 b∨G2 b,fun b hb=>hb.elim (fun z=>h1 _ (a1 _ z)) fun z=>h2 _ (b1 _ z),fun O' ho hx=>⟨v,r,G1,G2,e,fun b=>.inl,fun b=>.inr,fun b z1 z2=>h3 b (a1 b z1) (b1 b z2),a2 O' ho fun b hb hz=>?_,b2 O' ho fun b hb hz=>?_⟩⟩
  ·exact (hx b (h1 b hb) hz).elim id fun z=>absurd (b1 b z) (h3 b hb)
  ·exact (hx b (h2 b hb) hz).elim (fun z=>absurd hb (h3 b (a1 b z))) id
theorem Owd.cut:∀ (ts:List (D × D)) {d d':Nat} {vs:List (Key × V)} {F:AS},d'≤d→Owd K O H ts d vs F→∃ F':AS,(∀ b,F' b→F b)∧∀ O':AS,(∀ a,O' a→O a)→(∀ a,F a→O' a→F' a)→Owd K O' H ts d' vs F'
 | [],_,_,_,F,_,h=>⟨F,fun _ z=>z,fun _ _ _=>h⟩
 | (k,t) :: ts,_,_,_,F,hd,h=>by
  obtain ⟨q,v,r,F1,F2,e,e2,h1,h2,h3,h4,h5⟩:=h
  obtain ⟨G1,a1,a2⟩:=Ow.cut t hd h4
  obtain ⟨G2,b1,b2⟩:=Owd.cut ts hd h5
  refine ⟨fun b=>G1 b∨G2 b,fun b hb=>hb.elim (fun z=>h1 _ (a1 _ z)) fun z=>h2 _ (b1 _ z),fun O' ho hx=>⟨q,v,r,G1,G2,e,e2,fun b=>.inl,fun b=>.inr,fun b z1 z2=>h3 b (a1 b z1) (b1 b z2),a2 O' ho fun b hb hz=>?_,b2 O' ho fun b hb hz=>?_⟩⟩
  ·exact (hx b (h1 b hb) hz).elim id fun z=>absurd (b1 b z) (h3 b hb)
  ·exact (hx b (h2 b hb) hz).elim (fun z=>absurd hb (h3 b (a1 b z))) id
end
mutual
theorem Ow.grow (ho:∀ a,O' a→O a):∀ (t:D) {d:Nat} {v:V} {F F':AS},(∀ b,F b→F' b)→Ow K O H t d v F→Ow K O' H t d v F'
 | .none,_,_,_,_,_,h=>h
 | .bool _,_,_,_,_,_,h=>h
 | .int _,_,_,_,_,_,h=>h
 | .str _,_,_,_,_,_,h=>h
 | .tuple ts,_,_,_,_,hf,h=>by
  obtain ⟨a,vs,e,⟨h0,h1,h2⟩ | ⟨h0,h1,h2,G,hg,h3⟩⟩:=h
  ·exact ⟨a,vs,e,.inl ⟨h0,h1.sub ho,Ows.grow ho ts hf h2⟩⟩
  ·exact ⟨a,vs,e,.inr ⟨h0,h1,hf _ h2,G,fun b hb=>⟨hf _ (hg b hb).1,(hg b hb).2⟩,Ows.grow ho ts (fun _ z=>z) h3⟩⟩
 | .list ts,_,_,_,_,hf,h=>by
  obtain ⟨a,vs,e,⟨h0,h1,h2⟩ | ⟨h0,h1,h2,G,hg,h3⟩⟩:=h
  ·exact ⟨a,vs,e,.inl ⟨h0,h1.sub ho,Ows.grow ho ts hf h2⟩⟩
  ·exact ⟨a,vs,e,.inr ⟨h0,h1,hf _ h2,G,fun b hb=>⟨hf _ (hg b hb).1,(hg b hb).2⟩,Ows.grow ho ts (fun _ z=>z) h3⟩⟩
 | .dict ts,_,_,_,_,hf,h=>by
  obtain ⟨a,vs,e,⟨h0,h1,hn,h2⟩ | ⟨h0,h1,h2,G,hg,h3⟩ | ⟨h0,ht⟩⟩:=h
  ·exact ⟨a,vs,e,.inl ⟨h0,h1,fun z=>hn (ho _ z),Owd.grow ho ts hf h2⟩⟩
  ·exact ⟨a,vs,e,.inr (.inl ⟨h0,h1,hf _ h2,G,fun b hb=>⟨hf _ (hg b hb).1,(hg b hb).2⟩,Owd.grow ho ts (fun _ z=>z) h3⟩)⟩
  ·exact ⟨a,vs,e,.inr (.inr ⟨h0,ht.to fun o h2 hn=>⟨h2,fun z=>hn (ho _ z)⟩⟩)⟩
theorem Ows.grow (ho:∀ a,O' a→O a):∀ (ts:List D) {d:Nat} {vs:List V} {F F':AS},(∀ b,F b→F' b)→Ows K O H ts d vs F→Ows K O' H ts d vs F'
 | [],_,_,_,_,_,h=>h
 | t :: ts,_,_,_,_,hf,h=>by
  obtain ⟨v,r,F1,F2,e,h1,h2,h3,h4,h5⟩:=h
  exact ⟨v,r,F1,F2,e,fun b z=>hf _ (h1 b z),fun b z=>hf _ (h2 b z),h3,Ow.grow ho t (fun _ z=>z) h4,Ows.grow ho ts (fun _ z=>z) h5⟩
theorem Owd.grow (ho:∀ a,O' a→O a):∀ (ts:List (D × D)) {d:Nat} {vs:List (Key × V)} {F F':AS},(∀ b,F b→F' b)→Owd K O H ts d vs F→Owd K O' H ts d vs F'
 | [],_,_,_,_,_,h=>h
 | (k,t) :: ts,_,_,_,_,hf,h=>by
  obtain ⟨q,v,r,F1,F2,e,e2,h1,h2,h3,h4,h5⟩:=h
  exact ⟨q,v,r,F1,F2,e,e2,fun b z=>hf _ (h1 b z),fun b z=>hf _ (h2 b z),h3,Ow.grow ho t (fun _ z=>z) h4,Owd.grow ho ts (fun _ z=>z) h5⟩
end
mutual
theorem Ow.full:∀ (t:D) {d:Nat} {v:V} {F:AS},Ow K O H t (d+3) v F→Ow K O' H t (d+3) v F
 | .none,_,_,_,h=>h
 | .bool _,_,_,_,h=>h
 | .int _,_,_,_,h=>h
 | .str _,_,_,_,h=>h
 | .tuple ts,_,_,_,h=>by
  obtain ⟨a,vs,e,⟨h0,h1,h2⟩ | ⟨h0,h1,h2,G,hg,h3⟩⟩:=h
  ·cases h0
  ·exact ⟨a,vs,e,.inr ⟨h0,h1,h2,G,hg,Ows.full ts h3⟩⟩
 | .list ts,_,_,_,h=>by
  obtain ⟨a,vs,e,⟨h0,h1,h2⟩ | ⟨h0,h1,h2,G,hg,h3⟩⟩:=h
  ·cases h0
  ·exact ⟨a,vs,e,.inr ⟨h0,h1,h2,G,hg,Ows.full ts h3⟩⟩
 | .dict ts,_,_,_,h=>by
  obtain ⟨a,vs,e,⟨h0,h1,hn,h2⟩ | ⟨h0,h1,h2,G,hg,h3⟩ | ⟨h0,_⟩⟩:=h
  ·cases h0
  ·exact ⟨a,vs,e,.inr (.inl ⟨h0,h1,h2,G,hg,Owd.full ts h3⟩)⟩
  ·cases h0
theorem Ows.full:∀ (ts:List D) {d:Nat} {vs:List V} {F:AS},Ows K O H ts (d+3) vs F→Ows K O' H ts (d+3) vs F
 | [],_,_,_,h=>h
 | t :: ts,_,_,_,h=>by
  obtain ⟨v,r,F1,F2,e,h1,h2,h3,h4,h5⟩:=h
  exact ⟨v,r,F1,F2,e,h1,h2,h3,Ow.full t h4,Ows.full ts h5⟩
theorem Owd.full:∀ (ts:List (D × D)) {d:Nat} {vs:List (Key × V)} {F:AS},Owd K O H ts (d+3) vs F→Owd K O' H ts (d+3) vs F
 | [],_,_,_,h=>h
 | (k,t) :: ts,_,_,_,h=>by
  obtain ⟨q,v,r,F1,F2,e,e2,h1,h2,h3,h4,h5⟩:=h
  exact ⟨q,v,r,F1,F2,e,e2,h1,h2,h3,Ow.full t h4,Owd.full ts h5⟩
end
mutual
theorem Ow.any0:∀ (t:D) {v:V} {F F':AS},Ow K O H t 0 v F→Ow K O H t 0 v F'
 | .none,_,_,_,h=>h
 | .bool _,_,_,_,h=>h
 | .int _,_,_,_,h=>h
 | .str _,_,_,_,h=>h
 | .tuple ts,_,_,_,h=>by
  obtain ⟨a,vs,e,⟨h0,h1,h2⟩ | ⟨h0,_⟩⟩:=h
  ·exact ⟨a,vs,e,.inl ⟨rfl,h1,Ows.any0 ts h2⟩⟩
  ·exact absurd rfl h0
 | .list ts,_,_,_,h=>by
  obtain ⟨a,vs,e,⟨h0,h1,h2⟩ | ⟨h0,_⟩⟩:=h
  ·exact ⟨a,vs,e,.inl ⟨rfl,h1,Ows.any0 ts h2⟩⟩
  ·exact absurd rfl h0
 | .dict ts,_,_,_,h=>by
  obtain ⟨a,vs,e,⟨h0,h1,hn,h2⟩ | ⟨h0,_⟩ | ⟨_,ht⟩⟩:=h
  ·exact ⟨a,vs,e,.inl ⟨rfl,h1,hn,Owd.any0 ts h2⟩⟩
  ·exact absurd rfl h0
  ·exact ⟨a,vs,e,.inr (.inr ⟨rfl,ht⟩)⟩
theorem Ows.any0:∀ (ts:List D) {vs:List V} {F F':AS},Ows K O H ts 0 vs F→Ows K O H ts 0 vs F'
 | [],_,_,_,h=>h
 | t :: ts,_,_,_,h=>by
  obtain ⟨v,r,F1,F2,e,_,_,_,h4,h5⟩:=h
  exact ⟨v,r,fun _=>False,fun _=>False,e,fun _ z=>z.elim,fun _ z=>z.elim,fun _ z=>z.elim,Ow.any0 t h4,Ows.any0 ts h5⟩
theorem Owd.any0:∀ (ts:List (D × D)) {vs:List (Key × V)} {F F':AS},Owd K O H ts 0 vs F→Owd K O H ts 0 vs F'
 | [],_,_,_,h=>h
 | (k,t) :: ts,_,_,_,h=>by
  obtain ⟨q,v,r,F1,F2,e,e2,_,_,_,h4,h5⟩:=h
  exact ⟨q,v,r,fun _=>False,fun _=>False,e,e2,fun _ z=>z.elim,fun _ z=>z.elim,fun _ z=>z.elim,Ow.any0 t h4,Owd.any0 ts h5⟩
end
theorem Ow.fz {t:D} {d:Nat} {v:V} {F F2:AS} (ho:∀ a,O' a→O a) (hn:∀ a,F a→¬ O' a) (h:Ow K O H t d v F):Ow K O' H t 0 v F2:=by
 obtain ⟨F',s1,s2⟩:=Ow.cut t (Nat.zero_le d) h
 exact Ow.any0 t (s2 O' ho fun a z1 z2=>absurd z2 (hn a z1))
end
def U (A B:AS):AS:=fun a=>A a∨B a
def Own (R:Nat→AS) (Ox:AS):AS:=fun a=>(∃ i,R i a)∨Ox a
theorem ib {A B:AS} (h:∀ a,A a↔B a):A=B:=funext fun a=>propext (h a)
structure EnvOk (K:PySem.W.Frag) (ds:List Nat) (Ox:AS) (H:Hp) (σ:St) (en:En) (R:Nat→AS):Prop where
 at_:∀ (i:Nat) (t:D),en[i]?=some (some t)→∃ v d,σ[i]?=some (some v)∧ds[i]?=some d∧Ow K (Own R Ox) H t d v (R i)
 dj:∀ i j a,R i a→R j a→i=j
 dx:∀ i a,R i a→¬ Ox a
 dom:∀ a,Own R Ox a→∃ o,H a=some o
 l1:en.length=σ.length
 l2:ds.length=σ.length
structure Post (K:PySem.W.Frag) (p:Bool) (ds':List Nat) (Ox:AS) (σ:St) (H:Hp) (en:En) (R:Nat→AS) (en':En) (H':Hp) (R':Nat→AS) (F:AS):Prop where
 env:EnvOk K ds' (U F Ox) H' σ en' R'
 fx:∀ a,F a→¬ Ox a
 keep:∀ a o,H a=some o→(∀ i,¬ R i a)→H' a=some o
 own:∀ a,(F a∨∃ i,R' i a)→(∃ i,R i a)∨H a=none
 dom:∀ a o,H a=some o→∃ o',H' a=some o'
 pure:p=true→en'=en∧R'=R∧∀ a o,H a=some o→H' a=some o
section
variable {K:PySem.W.Frag} {p p1 p2:Bool} {ds ds1 ds2 ds':List Nat} {Ox Ox':AS} {H H':Hp} {σ:St} {en en' en1 en2:En} {R R':Nat→AS} {d d1 d2:Nat} {t1 t2:D}
theorem EnvOk.grow (e:EnvOk K ds Ox H σ en R) (hk:∀ a o,H a=some o→H' a=some o) {F:AS} (hf:∀ a,F a→H a=none∧∃ o,H' a=some o):EnvOk K ds (U F Ox) H' σ en R:=by
 have fo:∀ a,F a→¬ Own R Ox a:=fun a z z2=>by
  obtain ⟨o,q⟩:=e.dom a z2
  rw [(hf a z).1] at q
  cases q
 refine ⟨fun i t h=>?_,e.dj,fun i a h z=>?_,fun a h=>?_,e.l1,e.l2⟩
 ·obtain ⟨v,d,h1,h2,h3⟩:=e.at_ i t h
  refine ⟨v,d,h1,h2,Ow.mv (G:=R i) ⟨fun a o q _=>hk a o q,fun a z=>?_⟩ t (fun _ z=>z) h3⟩
  rcases z with z | z | z
  ·exact .inl (.inl z)
  ·exact .inr (hf a z).1
  ·exact .inl (.inr z)
 ·rcases z with z | z
  ·exact fo a z (.inl ⟨i,h⟩)
  ·exact e.dx i a h z
 ·rcases h with h | h | h
  ·obtain ⟨o,q⟩:=e.dom a (.inl h)
   exact ⟨o,hk a o q⟩
  ·exact (hf a h).2
  ·obtain ⟨o,q⟩:=e.dom a (.inr h)
   exact ⟨o,hk a o q⟩
theorem EnvOk.fewer (e:EnvOk K ds Ox H σ en R) (h:∀ a,Ox' a→Ox a):EnvOk K ds Ox' H σ en R:=by
 refine ⟨fun i t q=>?_,e.dj,fun i a z1 z2=>e.dx i a z1 (h a z2),fun a z=>e.dom a (z.imp id (h a)),e.l1,e.l2⟩
 obtain ⟨v,d,h1,h2,h3⟩:=e.at_ i t q
 exact ⟨v,d,h1,h2,Ow.grow (fun a z=>z.imp id (h a)) t (fun _ z=>z) h3⟩
def tF (K:PySem.W.Frag) (p:Bool) (ds ds':List Nat) (d:Nat) (f:En→Option (D × En)):TE:=fun σ H Q =>
 ∃ Ox en R t en',EnvOk K ds Ox H σ en R∧f en=some (t,en')∧∀ v H' R' F,Post K p ds' Ox σ H en R en' H' R' F→Ow K (Own R' (U F Ox)) H' t d v F→Q v H'
theorem Post.refl (e:EnvOk K ds Ox H σ en R):Post K p ds Ox σ H en R en H R (fun _=>False):=by
 have eq:U (fun _=>False) Ox=Ox:=ib fun a=>⟨fun z=>z.elim (fun z=>z.elim) id,.inr⟩
 exact ⟨eq.symm ▸ e,fun _ z=>z.elim,fun _ _ q _=>q,fun a z=>z.elim (fun z=>z.elim) .inl,fun a o q=>⟨o,q⟩,fun _=>⟨rfl,rfl,fun _ _ q=>q⟩⟩
theorem Post.new (e:EnvOk K ds Ox H σ en R) (hk:∀ a o,H a=some o→H' a=some o) {F:AS} (hf:∀ a,F a→H a=none∧∃ o,H' a=some o):Post K p ds Ox σ H en R en H' R F:=by
 refine ⟨e.grow hk hf,fun a z z2=>?_,fun a o q _=>hk a o q,fun a z=>z.elim (fun z=>.inr (hf a z).1) .inl,fun a o q=>⟨o,hk a o q⟩,fun _=>⟨rfl,rfl,hk⟩⟩
 obtain ⟨o,q⟩:=e.dom a (.inr z2)
 rw [(hf a z).1] at q
 cases q
theorem Post.trans {H1 H2:Hp} {R1 R2:Nat→AS} {F1 F2:AS} (P1:Post K p1 ds1 Ox σ H en R en1 H1 R1 F1) (P2:Post K p2 ds2 (U F1 Ox) σ H1 en1 R1 en2 H2 R2 F2) :
  Post K (p1 && p2) ds2 Ox σ H en R en2 H2 R2 (U F1 F2):=by
 have eq:U F2 (U F1 Ox)=U (U F1 F2) Ox:=ib fun a=>by unfold U; exact ⟨fun z=>by rcases z with z | z | z; exact .inl (.inr z); exact .inl (.inl z); exact .inr z,fun z=>by rcases z with (z | z) | z; exact .inr (.inl z); exact .inl z; exact .inr (.inr z)⟩
 have n1:∀ a,H1 a=none→H a=none:=fun a z=>by
  cases q:H a with
  | none=>rfl
  | some o =>
   obtain ⟨o',q'⟩:=P1.dom a o q
   rw [z] at q'
   cases q'
 refine ⟨eq ▸ P2.env,fun a z z2=>?_,fun a o q n=>?_,fun a z=>?_,fun a o q=>?_,fun hp=>?_⟩
 ·rcases z with z | z
  ·exact P1.fx a z z2
  ·exact P2.fx a z (.inr z2)
 ·refine P2.keep a o (P1.keep a o q n) fun i z=>?_
  rcases P1.own a (.inr ⟨i,z⟩) with ⟨j,z⟩ | z
  ·exact n j z
  ·rw [q] at z; cases z
 ·rcases z with (z | z) | z
  ·exact P1.own a (.inl z)
  ·rcases P2.own a (.inl z) with z | z
   ·exact P1.own a (.inr z)
   ·exact .inr (n1 a z)
  ·rcases P2.own a (.inr z) with z | z
   ·exact P1.own a (.inr z)
   ·exact .inr (n1 a z)
 ·obtain ⟨o',q'⟩:=P1.dom a o q
  exact P2.dom a o' q'
 ·have h1:p1=true:=by cases p1 <;> simp_all
  have h2:p2=true:=by cases p2 <;> simp_all
  obtain ⟨a1,a2,a3⟩:=P1.pure h1
  obtain ⟨b1,b2,b3⟩:=P2.pure h2
  exact ⟨b1.trans a1,b2.trans a2,fun a o q=>b3 a o (a3 a o q)⟩
theorem Ow.over {H1 H2:Hp} {R1 R2:Nat→AS} {F1 F2:AS} {t:D} {v:V} (P1:EnvOk K ds1 (U F1 Ox) H1 σ en1 R1) (P2:Post K p2 ds2 (U F1 Ox) σ H1 en1 R1 en2 H2 R2 F2) (h:Ow K (Own R1 (U F1 Ox)) H1 t d v F1) :
  Ow K (Own R2 (U (U F1 F2) Ox)) H2 t d v F1:=by
 refine Ow.mv (G:=F1) ⟨fun a o q z=>P2.keep a o q fun i zi=>?_,fun a z=>?_⟩ t (fun _ z=>z) h
 ·rcases z with z | z
  ·exact z (.inl ⟨i,zi⟩)
  ·exact P1.dx i a zi (.inl z)
 ·rcases z with z | (z | z) | z
  ·rcases P2.own a (.inr z) with z | z
   ·exact .inl (.inl z)
   ·exact .inr z
  ·exact .inl (.inr (.inl z))
  ·rcases P2.own a (.inl z) with z | z
   ·exact .inl (.inl z)
   ·exact .inr z
  ·exact .inl (.inr (.inr z))
theorem lB {F1 F2:AS}:U F2 (U F1 Ox)=U (U F1 F2) Ox:=ib fun a=>by unfold U; exact ⟨fun z=>by rcases z with z | z | z; exact .inl (.inr z); exact .inl (.inl z); exact .inr z,fun z=>by rcases z with (z | z) | z; exact .inr (.inl z); exact .inl z; exact .inr (.inr z)⟩
theorem two {f g:En→Option (D × En)} {Q:V→V→Hp→Prop} (e:EnvOk K ds Ox H σ en R) (h1:f en=some (t1,en1)) (h2:g en1=some (t2,en2))
  (k:∀ x y H2 R2 F1 F2,Post K (p1 && p2) ds2 Ox σ H en R en2 H2 R2 (U F1 F2)→Ow K (Own R2 (U (U F1 F2) Ox)) H2 t1 d1 x F1→Ow K (Own R2 (U (U F1 F2) Ox)) H2 t2 d2 y F2→Q x y H2) :
  tF K p1 ds ds1 d1 f σ H fun x H1=>tF K p2 ds1 ds2 d2 g σ H1 fun y H2=>Q x y H2:=by
 refine ⟨Ox,en,R,t1,en1,e,h1,fun x H1 R1 F1 P1 o1=>?_⟩
 refine ⟨U F1 Ox,en1,R1,t2,en2,P1.env,h2,fun y H2 R2 F2 P2 o2=>?_⟩
 exact k x y H2 R2 F1 F2 (P1.trans P2) (Ow.over P1.env P2 o1) (lB ▸ o2)
end
end L2
namespace L2
open PySem PySem.Spec PyProof.Rows
abbrev ME:=En→Option (D × En)
abbrev MT:=En→Option (Bool × En)
abbrev MA:=En→Option (List (D ⊕ Nat) × En)
def ah (i:Nat):ME:=fun en=>(en[i]?).join.map fun t=>(t,en)
def eMv (i:Nat):ME:=fun en=>(en[i]?).join.map fun t=>(t,en.set i none)
def eC (t:D):ME:=fun en=>some (t,en)
def e1 (g:D→Option D) (f:ME):ME:=fun en=>(f en).bind fun r=>(g r.1).map fun t=>(t,r.2)
def e2 (g:D→D→Option D) (f1 f2:ME):ME:=fun en=>(f1 en).bind fun r=>(f2 r.2).bind fun q=>(g r.1 q.1).map fun t=>(t,q.2)
def ki (f g:ME):ME:=fun en=>(f en).bind fun r=>match r.1 with
 | .bool true=>g r.2
 | .bool false=>some (.bool false,r.2)
 | _=>none
def eOr (f g:ME):ME:=fun en=>(f en).bind fun r=>match r.1 with
 | .bool true=>some (.bool true,r.2)
 | .bool false=>g r.2
 | _=>none
def Kz (f:ME):ME:=fun en=>(f en).bind fun r=>match r.1 with
 | .bool b=>some (.bool (!b),r.2)
 | _=>none
def eIf (c:MT) (f g:ME):ME:=fun en=>(c en).bind fun r=>if r.1 then f r.2 else g r.2
def tV (f:ME):MT:=fun en=>(f en).bind fun r=>match r.1 with
 | .bool b=>some (b,r.2)
 | _=>none
def iw (f g:MT):MT:=fun en=>(f en).bind fun r=>if r.1 then g r.2 else some (false,r.2)
def bOr (f g:MT):MT:=fun en=>(f en).bind fun r=>if r.1 then some (true,r.2) else g r.2
def eQ (f:MT):MT:=fun en=>(f en).map fun r=>(!r.1,r.2)
def ak:MA:=fun en=>some ([],en)
def ad (f:ME) (r:MA):MA:=fun en=>(f en).bind fun x=>(r x.2).map fun y=>(.inl x.1 :: y.1,y.2)
def bf (i:Nat) (r:MA):MA:=fun en=>(en[i]?).join.bind fun _=>(r en).map fun y=>(.inr i :: y.1,y.2)
def ck:List (D ⊕ Nat)→Option (List D)
 | []=>some []
 | .inl t :: r=>(ck r).map (t :: ·)
 | .inr _ :: _=>none
def eN (g:List D→Option D) (fa:MA):ME:=fun en=>(fa en).bind fun r=>(ck r.1).bind fun ts=>(g ts).map fun t=>(t,r.2)
def NewTo (H H':Hp) (F:AS):Prop:=(∀ a o,H a=some o→H' a=some o)∧∀ a,F a→H a=none∧∃ o,H' a=some o
def NoA:AS:=fun _=>False
theorem gZ {A:AS}:U NoA A=A:=ib fun a=>⟨fun z=>z.elim (fun z=>z.elim) id,.inr⟩
def rF1 (K:PySem.W.Frag) (g:D→Option D) (d:Nat):V→Hp→VK→Prop:=fun x H Q=>∃ (O:AS) (a t:D),Ow K O H a 0 x NoA∧(∀ a,O a→∃ o,H a=some o)∧g a=some t∧∀ v H' F,NewTo H H' F→Ow K (U F O) H' t d v F→Q v H'
def rF2 (K:PySem.W.Frag) (g:D→D→Option D) (d:Nat):R2:=fun x y H Q=>∃ (O:AS) (a b t:D),Ow K O H a 0 x NoA∧Ow K O H b 0 y NoA∧(∀ a,O a→∃ o,H a=some o)∧g a b=some t∧∀ v H' F,NewTo H H' F→Ow K (U F O) H' t d v F→Q v H'
def rFn (K:PySem.W.Frag) (g:List D→Option D) (d:Nat):List V→Hp→VK→Prop:=fun xs H Q=>∃ (O:AS) (ts:List D) (t:D),Ows K O H ts 0 xs NoA∧(∀ a,O a→∃ o,H a=some o)∧g ts=some t∧∀ v H' F,NewTo H H' F→Ow K (U F O) H' t d v F→Q v H'
section
variable {K:PySem.W.Frag} {p p1 p2:Bool} {ds ds0 ds1 ds2 ds':List Nat} {Ox Ox':AS} {H H':Hp} {σ:St} {en en' en1 en2:En} {R R':Nat→AS} {d d' d1 d2:Nat} {t t1 t2:D} {Q:VK} {f f1 f2 fa fb:ME}
theorem l5 {F:AS}:U F (Own R Ox)=Own R (U F Ox):=ib fun a=>by
 unfold U Own
 exact ⟨fun z=>by rcases z with z | z | z; exact .inr (.inl z); exact .inl z; exact .inr (.inr z),fun z=>by rcases z with z | z | z; exact .inr (.inl z); exact .inl z; exact .inr (.inr z)⟩
theorem Post.fin {H1:Hp} {F0 F:AS} (P:Post K p ds' Ox σ H en R en' H1 R' F0) (n:NewTo H1 H' F):Post K p ds' Ox σ H en R en' H' R' F:=by
 have e:=P.env.fewer (Ox':=Ox) fun a z=>.inr z
 have n1:∀ a,H1 a=none→H a=none:=fun a z=>by
  cases q:H a with
  | none=>rfl
  | some o =>
   obtain ⟨o',q'⟩:=P.dom a o q
   rw [z] at q'
   cases q'
 refine ⟨e.grow n.1 n.2,fun a z z2=>?_,fun a o q nn=>n.1 a o (P.keep a o q nn),fun a z=>?_,fun a o q=>?_,fun hp=>?_⟩
 ·obtain ⟨o,q⟩:=e.dom a (.inr z2)
  rw [(n.2 a z).1] at q
  cases q
 ·rcases z with z | z
  ·exact .inr (n1 a (n.2 a z).1)
  ·exact P.own a (.inr z)
 ·obtain ⟨o',q'⟩:=P.dom a o q
  exact ⟨o',n.1 a o' q'⟩
 ·obtain ⟨a1,a2,a3⟩:=P.pure hp
  exact ⟨a1,a2,fun a o q=>n.1 a o (a3 a o q)⟩
theorem Post.less {F F':AS} (P:Post K p ds' Ox σ H en R en' H' R' F) (h:∀ a,F' a→F a):Post K p ds' Ox σ H en R en' H' R' F' :=
 ⟨P.env.fewer fun a z=>z.imp (h a) id,fun a z=>P.fx a (h a z),P.keep,fun a z=>P.own a (z.imp (h a) id),P.dom,P.pure⟩
theorem Ow.letgo {F F0:AS} {v:V} (P:Post K p ds' Ox σ H en R en' H' R' F0) (hf:∀ a,F a→F0 a) (h:Ow K (Own R' (U F0 Ox)) H' t d v F):Ow K (Own R' Ox) H' t 0 v NoA:=by
 refine Ow.fz (fun a z=>z.imp id .inr) (fun a z z2=>?_) h
 rcases z2 with ⟨i,z2⟩ | z2
 ·exact P.env.dx i a z2 (.inl (hf a z))
 ·exact P.fx a (hf a z) z2
theorem Post.doms {F0:AS} (P:Post K p ds' Ox σ H en R en' H' R' F0):∀ a,Own R' Ox a→∃ o,H' a=some o:=fun a z=>P.env.dom a (z.imp id .inr)
theorem Jr (hd:ds[i]?=some 0) (h:tF K true ds ds 0 (ah i) σ H Q):mx i σ H Q:=by
 obtain ⟨Ox,en,R,t,en',e,hf,k⟩:=h
 unfold ah at hf
 cases q:en[i]? with
 | none=>rw [q] at hf; cases hf
 | some o =>
  rw [q] at hf
  cases o with
  | none=>cases hf
  | some t' =>
   cases hf
   obtain ⟨v,d,h1,h2,h3⟩:=e.at_ i t q
   rw [hd] at h2
   cases h2
   exact ⟨v,h1,k v H R NoA (Post.refl e) (by rw [gZ]; exact Ow.any0 t h3)⟩
theorem f_c {v:V} (hv:∀ K O H F,Ow K O H t 3 v F) (h:tF K true ds ds 3 (eC t) σ H Q):tC v σ H Q:=by
 obtain ⟨Ox,en,R,t',en',e,hf,k⟩:=h
 cases hf
 exact k v H R NoA (Post.refl e) (hv _ _ _ _)
theorem Ju (hd:d'≤d) (h:tF K p ds ds' d' f σ H Q):tF K p ds ds' d f σ H Q:=by
 obtain ⟨Ox,en,R,t,en',e,hf,k⟩:=h
 refine ⟨Ox,en,R,t,en',e,hf,fun v H' R' F P o=>?_⟩
 obtain ⟨F',s1,s2⟩:=Ow.cut t hd o
 refine k v H' R' F' (P.less s1) (s2 _ (fun a z=>z.imp id fun z=>z.imp (s1 a) id) fun a z z2=>?_)
 rcases z2 with ⟨i,z2⟩ | z2 | z2
 ·exact absurd (.inl z) (P.env.dx i a z2)
 ·exact z2
 ·exact absurd z2 (P.fx a z)
theorem kf (hp:p'=true→p=true) (h:tF K p' ds ds' d f σ H Q):tF K p ds ds' d f σ H Q:=by
 obtain ⟨Ox,en,R,t,en',e,hf,k⟩:=h
 exact ⟨Ox,en,R,t,en',e,hf,fun v H' R' F P o=>k v H' R' F ⟨P.env,P.fx,P.keep,P.own,P.dom,fun z=>P.pure (hp z)⟩ o⟩
theorem EnvOk.cut (e:EnvOk K ds Ox H σ en R) (hl:ds0.length=ds.length) (hd:∀ (i:Nat) a b,ds0[i]?=some a→ds[i]?=some b→a≤b):∃ R',(∀ i a,R' i a→R i a)∧EnvOk K ds0 Ox H σ en R':=by
 have ch:∀ i,∃ F':AS,(∀ b,F' b→R i b)∧∀ t v d0,en[i]?=some (some t)→σ[i]?=some (some v)→ds0[i]?=some d0→∀ O':AS,(∀ a,O' a→Own R Ox a)→(∀ a,R i a→O' a→F' a)→Ow K O' H t d0 v F':=fun i=>by
  by_cases h:∃ t,en[i]?=some (some t)
  ·obtain ⟨t,ht⟩:=h
   obtain ⟨v,d,h1,h2,h3⟩:=e.at_ i t ht
   cases q:ds0[i]? with
   | none=>exact ⟨NoA,fun _ z=>z.elim,fun _ _ _ _ _ z=>nomatch z⟩
   | some d0 =>
    obtain ⟨F',s1,s2⟩:=Ow.cut t (hd i d0 d q h2) h3
    refine ⟨F',s1,fun t' v' d0' h1' h2' h3' O'=>?_⟩
    rw [ht] at h1'; cases h1'
    rw [h1] at h2'; cases h2'
    cases h3'
    exact s2 O'
  ·exact ⟨NoA,fun _ z=>z.elim,fun t _ _ ht=>absurd ⟨t,ht⟩ h⟩
 refine ⟨fun i=>(ch i).choose,fun i=>(ch i).choose_spec.1,fun i t ht=>?_,fun i j a z1 z2=>e.dj i j a ((ch i).choose_spec.1 a z1) ((ch j).choose_spec.1 a z2),fun i a z=>e.dx i a ((ch i).choose_spec.1 a z),fun a z=>e.dom a (z.imp (fun ⟨i,z⟩=>⟨i,(ch i).choose_spec.1 a z⟩) id),e.l1,hl.trans e.l2⟩
 obtain ⟨v,d,h1,h2,h3⟩:=e.at_ i t ht
 have hi:i < ds0.length:=by rw [hl]; exact (List.getElem?_eq_some_iff.mp h2).1
 refine ⟨v,ds0[i],h1,List.getElem?_eq_getElem hi,(ch i).choose_spec.2 t v _ ht h1 (List.getElem?_eq_getElem hi) _ (fun a z=>z.imp (fun ⟨j,z⟩=>⟨j,(ch j).choose_spec.1 a z⟩) id) fun a z z2=>?_⟩
 rcases z2 with ⟨j,z2⟩ | z2
 ·have:=e.dj i j a z ((ch j).choose_spec.1 a z2)
  subst this
  exact z2
 ·exact absurd z2 (e.dx i a z)
def leD:List Nat→List Nat→Bool
 | [],[]=>true
 | a :: r,b :: s=>decide (a≤b) && leD r s
 | _,_=>false
theorem fG:∀ {a b:List Nat},leD a b=true→a.length=b.length∧∀ (i:Nat) x y,a[i]?=some x→b[i]?=some y→x≤y
 | [],[],_=>⟨rfl,fun i x y h=>by simp at h⟩
 | a :: r,b :: s,h=>by
  unfold leD at h
  rw [Bool.and_eq_true] at h
  obtain ⟨h1,h2⟩:=h
  obtain ⟨h3,h4⟩:=fG h2
  refine ⟨by rw [List.length_cons,List.length_cons,h3],fun i x y e1 e2=>?_⟩
  cases i with
  | zero=>cases e1; cases e2; exact of_decide_eq_true h1
  | succ i=>exact h4 i x y e1 e2
 | [],_ :: _,h=>nomatch h
 | _ :: _,[],h=>nomatch h
theorem JX (hd:leD ds0 ds=true) (h:tF K false ds ds' d f σ H Q):tF K p ds0 ds' d f σ H Q:=by
 obtain ⟨Ox,en,R,t,en',e,hf,k⟩:=h
 obtain ⟨R1,s1,e1⟩:=e.cut (fG hd).1 (fG hd).2
 refine ⟨Ox,en,R1,t,en',e1,hf,fun v H' R' F P o=>k v H' R' F ⟨P.env,P.fx,fun a o q n=>P.keep a o q fun i z=>n i (s1 i a z),fun a z=>(P.own a z).imp (fun ⟨i,z⟩=>⟨i,s1 i a z⟩) id,P.dom,fun z=>nomatch z⟩ o⟩
theorem Jz (hd:leD ds0 ds=true) (h:tF K true ds ds 3 f σ H Q):tF K true ds0 ds0 3 f σ H Q:=by
 obtain ⟨Ox,en,R,t,en',e,hf,k⟩:=h
 obtain ⟨R1,s1,e1⟩:=e.cut (fG hd).1 (fG hd).2
 refine ⟨Ox,en,R1,t,en',e1,hf,fun v H' R' F P o=>?_⟩
 obtain ⟨a1,a2,a3⟩:=P.pure rfl
 subst a1 a2
 have nf:∀ a,F a→H a=none:=fun a z=>by
  rcases P.own a (.inl z) with ⟨i,z2⟩ | z2
  ·exact absurd (.inl z) (P.env.dx i a z2)
  ·exact z2
 have nt:NewTo H H' F:=⟨a3,fun a z=>⟨nf a z,P.env.dom a (.inr (.inl z))⟩⟩
 exact k v H' R F (Post.new e nt.1 nt.2) (Ow.full t o)
theorem Jw {g:D→Option D} (h:tF K p ds ds1 d (e1 g f) σ H Q):tUn (rF1 K g d) (tF K p ds ds1 d1 f) σ H Q:=by
 obtain ⟨Ox,en,R,t,en',e,hf,k⟩:=h
 unfold e1 at hf
 obtain ⟨⟨t1,en1⟩,h1,hf⟩:=Option.bind_eq_some_iff.mp hf
 obtain ⟨t',h3,hf⟩:=Option.map_eq_some_iff.mp hf
 cases hf
 refine ⟨Ox,en,R,t1,en1,e,h1,fun v H' R' F P o=>?_⟩
 refine ⟨Own R' Ox,t1,t,Ow.letgo P (fun _ z=>z) o,P.doms,h3,fun v2 H2 F2 n o2=>k v2 H2 R' F2 (P.fin n) (l5 ▸ o2)⟩
theorem lY {g:D→D→Option D} (h:tF K (p1 && p2) ds ds2 d (e2 g f1 f2) σ H Q):tOp (rF2 K g d) (tF K p1 ds ds1 d1 f1) (tF K p2 ds1 ds2 d2 f2) σ H Q:=by
 obtain ⟨Ox,en,R,t,en',e,hf,k⟩:=h
 unfold e2 at hf
 obtain ⟨⟨t1,en1⟩,h1,hf⟩:=Option.bind_eq_some_iff.mp hf
 obtain ⟨⟨t2,en2⟩,h2,hf⟩:=Option.bind_eq_some_iff.mp hf
 obtain ⟨t',h3,hf⟩:=Option.map_eq_some_iff.mp hf
 cases hf
 refine two e h1 h2 fun x y H2 R2 F1 F2 P o1 o2=>?_
 exact ⟨Own R2 Ox,t1,t2,t,Ow.letgo P (fun _=>.inl) o1,Ow.letgo P (fun _=>.inr) o2,P.doms,h3,fun v2 H3 F3 n o3=>k v2 H3 R2 F3 (P.fin n) (l5 ▸ o3)⟩
theorem Post.after {H1:Hp} {R1 R2:Nat→AS} {F1 F:AS} (P1:Post K p1 ds1 Ox σ H en R en1 H1 R1 F1) (P2:Post K p2 ds2 Ox σ H1 en1 R1 en2 H' R2 F):Post K (p1 && p2) ds2 Ox σ H en R en2 H' R2 F:=by
 have P1':=P1.less (F':=NoA) fun _ z=>z.elim
 have P2':Post K p2 ds2 (U NoA Ox) σ H1 en1 R1 en2 H' R2 F:=by rw [gZ]; exact P2
 have:=P1'.trans P2'
 rw [gZ] at this
 exact this
theorem Post.env0 {F:AS} (P:Post K p ds' Ox σ H en R en' H' R' F):EnvOk K ds' Ox H' σ en' R':=P.env.fewer fun a z=>.inr z
theorem JB (h:tF K (p1 && p2) ds ds1 d (ki f1 f2) σ H Q):CD (tF K p1 ds ds1 d1 f1) (tF K p2 ds1 ds1 d f2) σ H Q:=by
 obtain ⟨Ox,en,R,t,en',e,hf,k⟩:=h
 unfold ki at hf
 obtain ⟨⟨t1,en1⟩,h1,hf⟩:=Option.bind_eq_some_iff.mp hf
 refine ⟨Ox,en,R,t1,en1,e,h1,fun v H1 R1 F1 P1 o1=>?_⟩
 cases t1 with
 | bool b =>
  have ev:v=.bl b:=o1
  refine ⟨b,ev,?_⟩
  cases b with
  | true =>
   rw [if_pos rfl]
   exact ⟨Ox,en1,R1,t,en',P1.env0,hf,fun v2 H2 R2 F2 P2 o2=>k v2 H2 R2 F2 (P1.after P2) o2⟩
  | false =>
   cases hf
   rw [if_neg Bool.false_ne_true]
   refine k _ H1 R1 NoA ?_ rfl
   have:=(P1.less (F':=NoA) fun _ z=>z.elim)
   exact ⟨this.env,this.fx,this.keep,this.own,this.dom,fun hp=>this.pure (by cases p1 <;> simp_all)⟩
 | _=>cases hf
def tFT (K:PySem.W.Frag) (p:Bool) (ds ds':List Nat) (f:MT):TT:=fun σ H Q =>
 ∃ Ox en R b en',EnvOk K ds Ox H σ en R∧f en=some (b,en')∧∀ H' R',Post K p ds' Ox σ H en R en' H' R' NoA→Q b H'
variable {c c1 c2:MT} {QT:Bool→Hp→Prop}
theorem rg (h:tFT K p ds ds' (tV f) σ H QT):tB (tF K p ds ds' d f) σ H QT:=by
 obtain ⟨Ox,en,R,b,en',e,hf,k⟩:=h
 unfold tV at hf
 obtain ⟨⟨t1,en1⟩,h1,hf⟩:=Option.bind_eq_some_iff.mp hf
 refine ⟨Ox,en,R,t1,en1,e,h1,fun v H1 R1 F1 P1 o1=>?_⟩
 cases t1 with
 | bool b =>
  cases hf
  exact ⟨_,o1,k H1 R1 (P1.less fun _ z=>z.elim)⟩
 | _=>cases hf
theorem HH (h:tFT K (p1 && p2) ds ds1 (iw c1 c2) σ H QT):GB (tFT K p1 ds ds1 c1) (tFT K p2 ds1 ds1 c2) σ H QT:=by
 obtain ⟨Ox,en,R,b,en',e,hf,k⟩:=h
 unfold iw at hf
 obtain ⟨⟨b1,en1⟩,h1,hf⟩:=Option.bind_eq_some_iff.mp hf
 refine ⟨Ox,en,R,b1,en1,e,h1,fun H1 R1 P1=>?_⟩
 cases b1 with
 | true =>
  rw [if_pos rfl]
  exact ⟨Ox,en1,R1,b,en',P1.env0,hf,fun H2 R2 P2=>k H2 R2 (P1.after P2)⟩
 | false =>
  cases hf
  rw [if_neg Bool.false_ne_true]
  exact k H1 R1 ⟨P1.env,P1.fx,P1.keep,P1.own,P1.dom,fun hp=>P1.pure (by cases p1 <;> simp_all)⟩
theorem Jf (h:tFT K (p1 && p2) ds ds1 (bOr c1 c2) σ H QT):tOr (tFT K p1 ds ds1 c1) (tFT K p2 ds1 ds1 c2) σ H QT:=by
 obtain ⟨Ox,en,R,b,en',e,hf,k⟩:=h
 unfold bOr at hf
 obtain ⟨⟨b1,en1⟩,h1,hf⟩:=Option.bind_eq_some_iff.mp hf
 refine ⟨Ox,en,R,b1,en1,e,h1,fun H1 R1 P1=>?_⟩
 cases b1 with
 | false =>
  rw [if_neg Bool.false_ne_true]
  exact ⟨Ox,en1,R1,b,en',P1.env0,hf,fun H2 R2 P2=>k H2 R2 (P1.after P2)⟩
 | true =>
  cases hf
  rw [if_pos rfl]
  exact k H1 R1 ⟨P1.env,P1.fx,P1.keep,P1.own,P1.dom,fun hp=>P1.pure (by cases p1 <;> simp_all)⟩
theorem HF (h:tFT K p ds ds1 (eQ c) σ H QT):Gw (tFT K p ds ds1 c) σ H QT:=by
 obtain ⟨Ox,en,R,b,en',e,hf,k⟩:=h
 unfold eQ at hf
 obtain ⟨⟨b1,en1⟩,h1,hf⟩:=Option.map_eq_some_iff.mp hf
 cases hf
 exact ⟨Ox,en,R,b1,_,e,h1,fun H1 R1 P1=>k H1 R1 P1⟩
theorem HG (hd:leD ds0 ds=true) (h:tFT K true ds ds c σ H QT):tFT K true ds0 ds0 c σ H QT:=by
 obtain ⟨Ox,en,R,t,en',e,hf,k⟩:=h
 obtain ⟨R1,s1,e1⟩:=e.cut (fG hd).1 (fG hd).2
 refine ⟨Ox,en,R1,t,en',e1,hf,fun H' R' P=>?_⟩
 obtain ⟨a1,a2,a3⟩:=P.pure rfl
 subst a1 a2
 exact k H' R (Post.new e a3 fun _ z=>z.elim)
end
end L2
namespace L2
open PySem PySem.Spec PyProof.Rows
abbrev Sh:=List (Nat ⊕ Nat)
def OwA (K:PySem.W.Frag) (O:AS) (H:Hp) (σ:St):List (D ⊕ Nat)→Sh→List V→AS→Prop
 | [],ds,vs,_=>ds=[]∧vs=[]
 | .inl t :: as,ds,vs,F=>∃ v r d dr,∃ F1 F2:AS,vs=v :: r∧ds=.inl d :: dr∧(∀ b,F1 b→F b)∧(∀ b,F2 b→F b)∧(∀ b,F1 b→¬ F2 b)∧Ow K O H t d v F1∧OwA K O H σ as dr r F2
 | .inr i :: as,ds,vs,F=>∃ v r dr,vs=v :: r∧ds=.inr i :: dr∧σ[i]?=some (some v)∧OwA K O H σ as dr r F
def tFA (K:PySem.W.Frag) (p:Bool) (ds ds':List Nat) (sh:Sh) (f:MA):TA:=fun σ H Q =>
 ∃ Ox en R as en',EnvOk K ds Ox H σ en R∧f en=some (as,en')∧∀ vs H' R' F,Post K p ds' Ox σ H en R en' H' R' F→OwA K (Own R' (U F Ox)) H' σ as sh vs F→Q vs H'
def bO (fa:MA):ME:=fun en=>(fa en).bind fun r=>(ck r.1).bind fun ts=>if ts.length≤sizeLine then some (.list ts,r.2) else none
def bw (fa:MA):ME:=fun en=>(fa en).bind fun r=>(ck r.1).bind fun ts=>if ts.length≤sizeLine then some (.tuple ts,r.2) else none
section
variable {K:PySem.W.Frag} {p p1 p2:Bool} {ds ds0 ds1 ds2 ds':List Nat} {Ox Ox' O O':AS} {H H':Hp} {σ:St} {en en' en1 en2:En} {R R':Nat→AS} {d d' d1 d2:Nat} {t t1 t2:D} {Q:VK} {f f1 f2:ME} {fa:MA} {sh:Sh} {QA:List V→Hp→Prop} {i:Nat}
theorem vt (h:tFA K true ds ds [] ak σ H QA):s0 σ H QA:=by
 obtain ⟨Ox,en,R,as,en',e,hf,k⟩:=h
 cases hf
 exact k [] H R NoA (Post.refl e) ⟨rfl,rfl⟩
theorem oO (h:tFA K (p1 && p2) ds ds2 (.inl d :: sh) (ad f fa) σ H QA):lM (tF K p1 ds ds1 d f) (tFA K p2 ds1 ds2 sh fa) σ H QA:=by
 obtain ⟨Ox,en,R,as,en',e,hf,k⟩:=h
 unfold ad at hf
 obtain ⟨⟨t1,en1⟩,h1,hf⟩:=Option.bind_eq_some_iff.mp hf
 obtain ⟨⟨as2,en2⟩,h2,hf⟩:=Option.map_eq_some_iff.mp hf
 cases hf
 refine ⟨Ox,en,R,t1,en1,e,h1,fun x H1 R1 F1 P1 o1=>?_⟩
 refine ⟨U F1 Ox,en1,R1,as2,en2,P1.env,h2,fun vs H2 R2 F2 P2 o2=>?_⟩
 refine k (x :: vs) H2 R2 (U F1 F2) (P1.trans P2) ⟨x,vs,d,sh,F1,F2,rfl,rfl,fun _=>.inl,fun _=>.inr,fun b z1 z2=>P2.fx b z2 (.inl z1),Ow.over P1.env P2 o1,?_⟩
 rw [← lB]
 exact o2
theorem Eb (h:tFA K p ds ds2 (.inr i :: sh) (bf i fa) σ H QA):lM (mx i) (tFA K p ds ds2 sh fa) σ H QA:=by
 obtain ⟨Ox,en,R,as,en',e,hf,k⟩:=h
 unfold bf at hf
 obtain ⟨t0,h0,hf⟩:=Option.bind_eq_some_iff.mp hf
 obtain ⟨⟨as2,en2⟩,h2,hf⟩:=Option.map_eq_some_iff.mp hf
 cases hf
 have q:en[i]?=some (some t0):=by
  cases q:en[i]? with
  | none=>rw [q] at h0; cases h0
  | some o=>rw [q] at h0; exact congrArg some h0
 obtain ⟨v,d,h1,_⟩:=e.at_ i t0 q
 exact ⟨v,h1,Ox,en,R,as2,en2,e,h2,fun vs H2 R2 F2 P2 o2=>k (v :: vs) H2 R2 F2 P2 ⟨v,vs,sh,rfl,rfl,h1,o2⟩⟩
def dq (c:Nat):Sh→Bool
 | []=>true
 | .inl d :: r=>decide (c≤d) && dq c r
 | .inr _ :: _=>false
theorem OwA.ows:∀ {as:List (D ⊕ Nat)} {sh:Sh} {vs:List V} {F:AS} {ts:List D} {c:Nat},dq c sh=true→ck as=some ts→OwA K O H σ as sh vs F →
  ∃ F':AS,(∀ b,F' b→F b)∧∀ O':AS,(∀ a,O' a→O a)→(∀ a,F a→O' a→F' a)→Ows K O' H ts c vs F'
 | [],_,_,F,ts,c,_,hv,h=>by
  cases hv
  exact ⟨F,fun _ z=>z,fun _ _ _=>h.2⟩
 | .inl t :: as,_,_,F,ts,c,hs,hv,h=>by
  obtain ⟨v,r,d,dr,F1,F2,e1,e2,s1,s2,s3,h1,h2⟩:=h
  subst e1 e2
  unfold ck at hv
  obtain ⟨ts',hv',e⟩:=Option.map_eq_some_iff.mp hv
  subst e
  unfold dq at hs
  rw [Bool.and_eq_true] at hs
  obtain ⟨G1,a1,a2⟩:=Ow.cut t (of_decide_eq_true hs.1) h1
  obtain ⟨G2,b1,b2⟩:=OwA.ows hs.2 hv' h2
  refine ⟨fun b=>G1 b∨G2 b,fun b hb=>hb.elim (fun z=>s1 _ (a1 _ z)) fun z=>s2 _ (b1 _ z),fun O' ho hx=>⟨v,r,G1,G2,rfl,fun b=>.inl,fun b=>.inr,fun b z1 z2=>s3 b (a1 b z1) (b1 b z2),a2 O' ho fun b hb hz=>?_,b2 O' ho fun b hb hz=>?_⟩⟩
  ·exact (hx b (s1 b hb) hz).elim id fun z=>absurd (b1 b z) (s3 b hb)
  ·exact (hx b (s2 b hb) hz).elim (fun z=>absurd hb (s3 b (a1 b z))) id
 | .inr i :: as,_,_,F,ts,c,_,hv,_=>by cases hv
theorem OwA.len:∀ {as:List (D ⊕ Nat)} {sh:Sh} {vs:List V} {F:AS},OwA K O H σ as sh vs F→vs.length=as.length
 | [],_,_,_,h=>by rw [h.2]; rfl
 | .inl t :: as,_,_,_,h=>by
  obtain ⟨v,r,d,dr,F1,F2,e1,e2,s1,s2,s3,h1,h2⟩:=h
  rw [e1,List.length_cons,List.length_cons,h2.len]
 | .inr i :: as,_,_,_,h=>by
  obtain ⟨v,r,dr,e1,e2,e3,h2⟩:=h
  rw [e1,List.length_cons,List.length_cons,h2.len]
theorem mw:∀ {as:List (D ⊕ Nat)} {ts:List D},ck as=some ts→ts.length=as.length
 | [],_,h=>by cases h; rfl
 | .inl t :: as,_,h=>by
  unfold ck at h
  obtain ⟨ts',hv',e⟩:=Option.map_eq_some_iff.mp h
  subst e
  rw [List.length_cons,List.length_cons,mw hv']
 | .inr _ :: _,_,h=>by cases h
theorem vv {g:List D→Option D} (hs:dq 0 sh=true) (h:tF K p ds ds1 d (eN g fa) σ H Q):tCB (rFn K g d) (tFA K p ds ds1 sh fa) σ H Q:=by
 obtain ⟨Ox,en,R,t,en',e,hf,k⟩:=h
 unfold eN at hf
 obtain ⟨⟨as,en1⟩,h1,hf⟩:=Option.bind_eq_some_iff.mp hf
 obtain ⟨ts,h2,hf⟩:=Option.bind_eq_some_iff.mp hf
 obtain ⟨t',h3,hf⟩:=Option.map_eq_some_iff.mp hf
 cases hf
 refine ⟨Ox,en,R,as,en1,e,h1,fun vs H1 R1 F P o=>?_⟩
 obtain ⟨F',s1,s2⟩:=OwA.ows hs h2 o
 have o2:Ows K (Own R1 Ox) H1 ts 0 vs F':=s2 _ (fun a z=>z.imp id .inr) fun a z z2=>by
  rcases z2 with ⟨i,z2⟩ | z2
  ·exact absurd (.inl z) (P.env.dx i a z2)
  ·exact absurd z2 (P.fx a z)
 exact ⟨Own R1 Ox,ts,t,Ows.any0 ts o2,P.doms,h3,fun v2 H2 F2 n o2=>k v2 H2 R1 F2 (P.fin n) (l5 ▸ o2)⟩
theorem Post.add {H1:Hp} {F G:AS} (P:Post K p ds' Ox σ H en R en' H1 R' F) (n:NewTo H1 H' G):Post K p ds' Ox σ H en R en' H' R' (U F G):=by
 have P2:Post K true ds' (U F Ox) σ H1 en' R' en' H' R' G:=Post.new P.env n.1 n.2
 have:=P.trans P2
 rw [Bool.and_true] at this
 exact this
theorem cW {l:Addr} {o:HO} (hl:H l=none):NewTo H (upd H l o) (fun b=>b=l):=by
 refine ⟨fun a u q=>?_,fun a z=>?_⟩
 ·rw [bj]
  ·exact q
  ·intro z
   subst z
   rw [hl] at q
   cases q
 ·subst z
  exact ⟨hl,_,bC⟩
theorem Jx {c:Nat} (hs:dq c sh=true) (hd:dn d=c) (hz:d≠0) (h:tF K p ds ds1 d (bO fa) σ H Q):Gx (tFA K p ds ds1 sh fa) σ H Q:=by
 obtain ⟨Ox,en,R,t,en',e,hf,k⟩:=h
 unfold bO at hf
 obtain ⟨⟨as,en1⟩,h1,hf⟩:=Option.bind_eq_some_iff.mp hf
 obtain ⟨ts,h2,hf⟩:=Option.bind_eq_some_iff.mp hf
 by_cases hlen:ts.length≤sizeLine
 case neg=>rw [if_neg hlen] at hf; cases hf
 rw [if_pos hlen] at hf
 cases hf
 refine ⟨Ox,en,R,as,en1,e,h1,fun vs H1 R1 F P o=>⟨?_,fun l hl=>?_⟩⟩
 ·rw [o.len,← mw h2]; exact hlen
 obtain ⟨F',s1,s2⟩:=OwA.ows hs h2 o
 have o2:=s2 (Own R1 (U F' Ox)) (fun a z=>z.imp id fun z=>z.imp (s1 a) id) fun a z z2=>by
  rcases z2 with ⟨i,z2⟩ | z2 | z2
  ·exact absurd (.inl z) (P.env.dx i a z2)
  ·exact z2
  ·exact absurd z2 (P.fx a z)
 have P':=(P.less s1).add (cW (o:=.lst vs) hl)
 have nl:∀ a,F' a→a≠l:=fun a z z2=>by
  subst z2
  obtain ⟨o',q⟩:=P.env.dom a (.inr (.inl (s1 a z)))
  rw [hl] at q
  cases q
 refine k (.ref l) (upd H1 l (.lst vs)) R1 _ P' ⟨l,vs,rfl,.inr ⟨hz,bC,.inr rfl,F',fun b z=>⟨.inl z,nl b z⟩,?_⟩⟩
 rw [hd]
 refine Ows.mv (G:=F') ⟨fun a o q _=>(cW (o:=.lst vs) hl).1 a o q,fun a z=>?_⟩ ts (fun _ z=>z) o2
 rcases z with z | (z | z) | z
 ·exact .inl (.inl z)
 ·exact .inl (.inr (.inl z))
 ·exact .inr (by rw [show a=l from z]; exact hl)
 ·exact .inl (.inr (.inr z))
theorem Js {c:Nat} (hs:dq c sh=true) (hd:dn d=c) (h:tF K p ds ds1 d (bw fa) σ H Q):Gq (tFA K p ds ds1 sh fa) σ H Q:=by
 obtain ⟨Ox,en,R,t,en',e,hf,k⟩:=h
 unfold bw at hf
 obtain ⟨⟨as,en1⟩,h1,hf⟩:=Option.bind_eq_some_iff.mp hf
 obtain ⟨ts,h2,hf⟩:=Option.bind_eq_some_iff.mp hf
 by_cases hlen:ts.length≤sizeLine
 case neg=>rw [if_neg hlen] at hf; cases hf
 rw [if_pos hlen] at hf
 cases hf
 refine ⟨Ox,en,R,as,en1,e,h1,fun vs H1 R1 F P o=>⟨?_,fun l hl=>?_⟩⟩
 ·rw [o.len,← mw h2]; exact hlen
 obtain ⟨F',s1,s2⟩:=OwA.ows hs h2 o
 have o2:=s2 (Own R1 (U F' Ox)) (fun a z=>z.imp id fun z=>z.imp (s1 a) id) fun a z z2=>by
  rcases z2 with ⟨i,z2⟩ | z2 | z2
  ·exact absurd (.inl z) (P.env.dx i a z2)
  ·exact z2
  ·exact absurd z2 (P.fx a z)
 have nl:∀ a,Own R1 (U F' Ox) a→a≠l:=fun a z z2=>by
  subst z2
  obtain ⟨o',q⟩:=P.env.dom a (z.imp id fun z=>z.imp (s1 a) id)
  rw [hl] at q
  cases q
 by_cases hz:d=0
 ·subst hz
  have P':=(P.less s1).add (G:=NoA) (H':=upd H1 l (.tup vs)) ⟨(cW (o:=.tup vs) hl).1,fun _ z=>z.elim⟩
  have eq:U F' NoA=F':=ib fun a=>⟨fun z=>z.elim id fun z=>z.elim,.inl⟩
  rw [eq] at P'
  refine k (.ref l) (upd H1 l (.tup vs)) R1 _ P' ⟨l,vs,rfl,.inl ⟨rfl,⟨bC,fun z=>nl l z rfl⟩,?_⟩⟩
  have hc:c=0:=hd.symm
  subst hc
  exact Ows.mv (G:=F') ⟨fun a o q _=>(cW (o:=.tup vs) hl).1 a o q,fun a z=>.inl z⟩ ts (fun _ z=>z) o2
 ·have P':=(P.less s1).add (cW (o:=.tup vs) hl)
  refine k (.ref l) (upd H1 l (.tup vs)) R1 _ P' ⟨l,vs,rfl,.inr ⟨hz,bC,.inr rfl,F',fun b z=>⟨.inl z,nl b (.inr (.inl z))⟩,?_⟩⟩
  rw [hd]
  refine Ows.mv (G:=F') ⟨fun a o q _=>(cW (o:=.tup vs) hl).1 a o q,fun a z=>?_⟩ ts (fun _ z=>z) o2
  rcases z with z | (z | z) | z
  ·exact .inl (.inl z)
  ·exact .inl (.inr (.inl z))
  ·exact .inr (by rw [show a=l from z]; exact hl)
  ·exact .inl (.inr (.inr z))
end
def spF (K:PySem.W.Frag) (dps:List Nat) (dr:Nat) (F:List D→Option (D × En)):Sp:=fun vs H Q _ =>
 ∃ Ox ts R r outs,EnvOk K dps Ox H (vs.map some) (ts.map some) R∧F ts=some (r,outs) ∧
  ∀ v H' R' Fr,Post K false dps Ox (vs.map some) H (ts.map some) R outs H' R' Fr→Ow K (Own R' (U Fr Ox)) H' r dr v Fr→Q v H'
def dO:List (D ⊕ Nat)→En→Option (List D)
 | [],_=>some []
 | .inl t :: r,en=>(dO r en).map (t :: ·)
 | .inr i :: r,en=>(en[i]?).join.bind fun t=>(dO r en).map (t :: ·)
def wb:List (D ⊕ Nat)→En→En→En
 | .inr i :: r,o :: outs,en=>wb r outs (en.set i o)
 | .inl _ :: r,_ :: outs,en=>wb r outs en
 | _,_,en=>en
def ay (F:List D→Option (D × En)) (fa:MA):ME:=fun en=>(fa en).bind fun r=>(dO r.1 r.2).bind fun ts=>(F ts).map fun q=>(q.1,wb r.1 q.2 r.2)
def jG:Sh→List Nat
 | []=>[]
 | .inl _ :: r=>jG r
 | .inr i :: r=>i :: jG r
def fJ (ds:List Nat):Sh→List Nat→Bool
 | [],[]=>true
 | .inl d :: r,q :: s=>decide (d=q) && fJ ds r s
 | .inr i :: r,q :: s=>decide (ds[i]?=some q) && (decide (i ∉ jG r) && fJ ds r s)
 | _,_=>false
def iV:Sh→Bool
 | []=>true
 | .inl _ :: r=>iV r
 | .inr _ :: _=>false
section
variable {K:PySem.W.Frag} {p p1 p2:Bool} {ds ds0 ds1 ds2 ds' dps:List Nat} {Ox Ox' O O':AS} {H H':Hp} {σ:St} {en en' en1 en2:En} {R R':Nat→AS} {d d' d1 d2 dr:Nat} {t t1 t2:D} {Q:VK} {f f1 f2:ME} {fa:MA} {sh:Sh} {QA:List V→Hp→Prop} {i:Nat}
theorem OwA.parts:∀ {as:List (D ⊕ Nat)} {sh:Sh} {vs:List V} {F:AS},OwA K O H σ as sh vs F →
  ∃ Rp:Nat→AS,(∀ (j:Nat) t,as[j]?=some (.inl t)→∃ v d,vs[j]?=some v∧sh[j]?=some (.inl d)∧Ow K O H t d v (Rp j))∧(∀ (j i:Nat),as[j]?=some (.inr i)→∃ v,vs[j]?=some v∧sh[j]?=some (.inr i)∧σ[i]?=some (some v)) ∧
   (∀ j a,Rp j a→F a)∧(∀ j j' a,Rp j a→Rp j' a→j=j')
 | [],sh,vs,F,h=>⟨fun _=>NoA,fun j t z=>by simp at z,fun j i z=>by simp at z,fun _ _ z=>z.elim,fun _ _ _ z=>z.elim⟩
 | .inl t :: as,sh,vs,F,h=>by
  obtain ⟨v,r,d,dr,F1,F2,e1,e2,s1,s2,s3,h1,h2⟩:=h
  subst e1 e2
  obtain ⟨Rp,a1,a2,a3,a4⟩:=h2.parts
  refine ⟨fun j=>match j with | 0=>F1 | j+1=>Rp j,fun j u hj=>?_,fun j i hj=>?_,fun j a z=>?_,fun j j' a z z'=>?_⟩
  ·cases j with
   | zero =>
    have:t=u:=by simpa using hj
    subst this
    exact ⟨v,d,rfl,rfl,h1⟩
   | succ j=>exact a1 j u (by simpa using hj)
  ·cases j with
   | zero=>simp at hj
   | succ j=>exact a2 j i (by simpa using hj)
  ·cases j with
   | zero=>exact s1 a z
   | succ j=>exact s2 a (a3 j a z)
  ·cases j with
   | zero =>
    cases j' with
    | zero=>rfl
    | succ j'=>exact absurd (a3 j' a z') (s3 a z)
   | succ j =>
    cases j' with
    | zero=>exact absurd (a3 j a z) (s3 a z')
    | succ j'=>rw [a4 j j' a z z']
 | .inr i :: as,sh,vs,F,h=>by
  obtain ⟨v,r,dr,e1,e2,e3,h2⟩:=h
  subst e1 e2
  obtain ⟨Rp,a1,a2,a3,a4⟩:=h2.parts
  refine ⟨fun j=>match j with | 0=>NoA | j+1=>Rp j,fun j u hj=>?_,fun j i' hj=>?_,fun j a z=>?_,fun j j' a z z'=>?_⟩
  ·cases j with
   | zero=>simp at hj
   | succ j=>exact a1 j u (by simpa using hj)
  ·cases j with
   | zero =>
    have:i=i':=by simpa using hj
    subst this
    exact ⟨v,rfl,rfl,e3⟩
   | succ j=>exact a2 j i' (by simpa using hj)
  ·cases j with
   | zero=>exact z.elim
   | succ j=>exact a3 j a z
  ·cases j with
   | zero=>exact z.elim
   | succ j =>
    cases j' with
    | zero=>exact z'.elim
    | succ j'=>rw [a4 j j' a z z']
theorem mS:∀ {as:List (D ⊕ Nat)} {en:En} {ts:List D},dO as en=some ts→ts.length=as.length∧∀ (j:Nat) t,ts[j]?=some t→as[j]?=some (.inl t)∨∃ i,as[j]?=some (.inr i)∧en[i]?=some (some t)
 | [],_,_,h=>by cases h; exact ⟨rfl,fun j t z=>by simp at z⟩
 | .inl t :: as,en,_,h=>by
  unfold dO at h
  obtain ⟨ts',h',e⟩:=Option.map_eq_some_iff.mp h
  subst e
  obtain ⟨l,g⟩:=mS h'
  refine ⟨by rw [List.length_cons,List.length_cons,l],fun j u z=>?_⟩
  cases j with
  | zero=>simp at z; subst z; exact .inl rfl
  | succ j=>exact g j u (by simpa using z)
 | .inr i :: as,en,_,h=>by
  unfold dO at h
  obtain ⟨t,ht,h⟩:=Option.bind_eq_some_iff.mp h
  obtain ⟨ts',h',e⟩:=Option.map_eq_some_iff.mp h
  subst e
  obtain ⟨l,g⟩:=mS h'
  refine ⟨by rw [List.length_cons,List.length_cons,l],fun j u z=>?_⟩
  cases j with
  | zero =>
   simp at z
   subst z
   refine .inr ⟨i,rfl,?_⟩
   cases q:en[i]? with
   | none=>rw [q] at ht; cases ht
   | some o=>rw [q] at ht; exact congrArg some ht
  | succ j=>exact g j u (by simpa using z)
theorem lw:∀ {sh:Sh} {dps:List Nat},fJ ds sh dps=true→sh.length=dps.length∧(∀ (j d:Nat),sh[j]?=some (.inl d)→dps[j]?=some d)∧(∀ (j i:Nat),sh[j]?=some (.inr i)→∃ q,dps[j]?=some q∧ds[i]?=some q) ∧
   (∀ (j j' i:Nat),sh[j]?=some (.inr i)→sh[j']?=some (.inr i)→j=j')
 | [],[],_=>⟨rfl,fun j d z=>by simp at z,fun j d z=>by simp at z,fun j j' d z=>by simp at z⟩
 | .inl d :: r,q :: s,h=>by
  unfold fJ at h
  rw [Bool.and_eq_true] at h
  obtain ⟨h1,h2⟩:=h
  have h1':=of_decide_eq_true h1
  subst h1'
  obtain ⟨l,a,b,c⟩:=lw h2
  refine ⟨by rw [List.length_cons,List.length_cons,l],fun j u z=>?_,fun j i z=>?_,fun j j' i z z'=>?_⟩
  ·cases j with
   | zero=>simp at z; subst z; rfl
   | succ j=>exact a j u (by simpa using z)
  ·cases j with
   | zero=>simp at z
   | succ j=>exact b j i (by simpa using z)
  ·cases j with
   | zero=>simp at z
   | succ j =>
    cases j' with
    | zero=>simp at z'
    | succ j'=>rw [c j j' i (by simpa using z) (by simpa using z')]
 | .inr i0 :: r,q :: s,h=>by
  unfold fJ at h
  rw [Bool.and_eq_true,Bool.and_eq_true] at h
  obtain ⟨h1,h2,h3⟩:=h
  have h1':=of_decide_eq_true h1
  have h2':=of_decide_eq_true h2
  obtain ⟨l,a,b,c⟩:=lw h3
  have mem:∀ {r:Sh} {j i:Nat},r[j]?=some (.inr i)→i∈jG r:=fun {r}=>by
   induction r with
   | nil=>intro j i z; simp at z
   | cons x r ih =>
    intro j i z
    cases j with
    | zero =>
     simp at z
     subst z
     unfold jG
     exact List.mem_cons_self
    | succ j =>
     have:=ih (j:=j) (i:=i) (by simpa using z)
     cases x with
     | inl _=>exact this
     | inr _=>exact List.mem_cons_of_mem _ this
  refine ⟨by rw [List.length_cons,List.length_cons,l],fun j u z=>?_,fun j i z=>?_,fun j j' i z z'=>?_⟩
  ·cases j with
   | zero=>simp at z
   | succ j=>exact a j u (by simpa using z)
  ·cases j with
   | zero=>simp at z; subst z; exact ⟨q,rfl,h1'⟩
   | succ j=>exact b j i (by simpa using z)
  ·cases j with
   | zero =>
    simp at z
    subst z
    cases j' with
    | zero=>rfl
    | succ j'=>exact absurd (mem (by simpa using z')) h2'
   | succ j =>
    cases j' with
    | zero =>
     simp at z'
     subst z'
     exact absurd (mem (by simpa using z)) h2'
    | succ j'=>rw [c j j' i (by simpa using z) (by simpa using z')]
 | [],_ :: _,h=>nomatch h
 | .inl _ :: _,[],h=>nomatch h
 | .inr _ :: _,[],h=>nomatch h
theorem qj:∀ (as:List (D ⊕ Nat)) (outs en:En),(wb as outs en).length=en.length
 | [],_,_=>by unfold wb; rfl
 | .inl _ :: as,[],_=>by unfold wb; rfl
 | .inr _ :: as,[],_=>by unfold wb; rfl
 | .inl _ :: as,o :: outs,en=>by unfold wb; exact qj as outs en
 | .inr i :: as,o :: outs,en=>by unfold wb; rw [qj as outs _,List.length_set]
theorem kQ:∀ (as:List (D ⊕ Nat)) (outs en:En) (i:Nat),(∀ j:Nat,as[j]?≠some (.inr i))→(wb as outs en)[i]?=en[i]?
 | [],_,_,_,_=>by unfold wb; rfl
 | .inl _ :: as,[],_,_,_=>by unfold wb; rfl
 | .inr _ :: as,[],_,_,_=>by unfold wb; rfl
 | .inl _ :: as,o :: outs,en,i,h=>by unfold wb; exact kQ as outs en i fun j=>h (j+1)
 | .inr k :: as,o :: outs,en,i,h=>by
  unfold wb
  rw [kQ as outs _ i fun j=>h (j+1),List.getElem?_set_ne]
  intro e
  subst e
  exact h 0 rfl
theorem sX:∀ (as:List (D ⊕ Nat)) (outs en:En) (i j:Nat),as[j]?=some (.inr i)→(∀ j':Nat,as[j']?=some (.inr i)→j'=j)→outs.length=as.length→i < en.length→(wb as outs en)[i]?=outs[j]?
 | [],_,_,_,_,h,_,_,_=>by simp at h
 | .inl _ :: as,[],_,_,_,_,_,h,_=>by simp at h
 | .inr _ :: as,[],_,_,_,_,_,h,_=>by simp at h
 | .inl _ :: as,o :: outs,en,i,j,h,u,l,b=>by
  unfold wb
  cases j with
  | zero=>simp at h
  | succ j=>exact sX as outs en i j (by simpa using h) (fun j' z=>by have:=u (j'+1) (by simpa using z); omega) (by simpa using l) b
 | .inr k :: as,o :: outs,en,i,j,h,u,l,b=>by
  unfold wb
  cases j with
  | zero =>
   have e:k=i:=by simpa using h
   subst e
   rw [kQ as outs _ k fun j' z=>by have:=u (j'+1) (by simpa using z); omega]
   rw [List.getElem?_set_self b]
   rfl
  | succ j=>exact sX as outs _ i j (by simpa using h) (fun j' z=>by have:=u (j'+1) (by simpa using z); omega) (by simpa using l) (by rw [List.length_set]; exact b)
end
end L2
namespace L2
open PySem PySem.Spec PyProof.Rows
section
variable {K:PySem.W.Frag} {p p1 p2:Bool} {ds ds0 ds1 ds2 ds' dps:List Nat} {Ox Ox' O O':AS} {H H':Hp} {σ:St} {en en' en1 en2:En} {R R':Nat→AS} {d d' d1 d2 dr:Nat} {t t1 t2:D} {Q:VK} {f f1 f2:ME} {fa:MA} {sh:Sh} {QA:List V→Hp→Prop} {i:Nat}
theorem OwA.shl:∀ {as:List (D ⊕ Nat)} {sh:Sh} {vs:List V} {F:AS},OwA K O H σ as sh vs F→sh.length=as.length
 | [],_,_,_,h=>by rw [h.1]; rfl
 | .inl t :: as,_,_,_,h=>by
  obtain ⟨v,r,d,dr,F1,F2,e1,e2,s1,s2,s3,h1,h2⟩:=h
  rw [e2,List.length_cons,List.length_cons,h2.shl]
 | .inr i :: as,_,_,_,h=>by
  obtain ⟨v,r,dr,e1,e2,e3,h2⟩:=h
  rw [e2,List.length_cons,List.length_cons,h2.shl]
theorem nq:∀ {sh:Sh},iV sh=true→∀ (j i:Nat),sh[j]?≠some (.inr i)
 | [],_,j,i,z=>by simp at z
 | .inl _ :: r,h,j,i,z=>by
  cases j with
  | zero=>simp at z
  | succ j=>exact nq (sh:=r) h j i (by simpa using z)
 | .inr _ :: r,h,_,_,_=>nomatch h
theorem xj {E:XK} {F:List D→Option (D × En)} (hc:fJ ds1 sh dps=true) (h:tF K (p && iV sh) ds ds1 dr (ay F fa) σ H Q):tj (spF K dps dr F) [] E (tFA K p ds ds1 sh fa) σ H Q:=by
 obtain ⟨Ox,en,R,t,en',e,hf,k⟩:=h
 unfold ay at hf
 obtain ⟨⟨as,en1⟩,h1,hf⟩:=Option.bind_eq_some_iff.mp hf
 obtain ⟨ts,h2,hf⟩:=Option.bind_eq_some_iff.mp hf
 obtain ⟨⟨r,outs⟩,h3,hf⟩:=Option.map_eq_some_iff.mp hf
 cases hf
 refine ⟨Ox,en,R,as,en1,e,h1,fun vs H1 R1 F0 P o=>?_⟩
 obtain ⟨cl,c1,c2,c3⟩:=lw hc
 obtain ⟨Rp,a1,a2,a3,a4⟩:=o.parts
 obtain ⟨tl,tg⟩:=mS h2
 have ol:=o.len
 have asl:∀ (j i:Nat),as[j]?=some (.inr i)→sh[j]?=some (.inr i):=fun j i z=>(a2 j i z).choose_spec.2.1
 have asr:∀ (j i:Nat),sh[j]?=some (.inr i)→as[j]?=some (.inr i):=fun j i z=>by
  cases q:as[j]? with
  | none =>
   have e1:as.length≤j:=List.getElem?_eq_none_iff.mp q
   have e2:j < sh.length:=(List.getElem?_eq_some_iff.mp z).1
   have:=o.shl
   omega
  | some x =>
   cases x with
   | inl t =>
    obtain ⟨_,_,_,e2,_⟩:=a1 j t q
    rw [z] at e2; cases e2
   | inr i' =>
    have:=asl j i' q
    rw [z] at this
    cases this
    rfl
 let Rq:Nat→AS:=fun j=>match sh[j]? with | some (.inr i)=>R1 i | _=>Rp j
 have rq1:∀ j i:Nat,sh[j]?=some (.inr i)→Rq j=R1 i:=fun j i z=>by show (match sh[j]? with | some (.inr i)=>R1 i | _=>Rp j)=R1 i; rw [z]
 have rq2:∀ j:Nat,(∀ i:Nat,sh[j]?≠some (.inr i))→Rq j=Rp j:=fun j z=>by
  show (match sh[j]? with | some (.inr i)=>R1 i | _=>Rp j)=Rp j
  split
  ·next i q=>exact absurd q (z i)
  ·rfl
 have rqc:∀ (j:Nat) a,Rq j a→(∃ i,sh[j]?=some (.inr i)∧R1 i a)∨Rp j a:=fun j a z=>by
  by_cases q:∃ i,sh[j]?=some (.inr i)
  ·obtain ⟨i,q⟩:=q
   rw [rq1 j i q] at z
   exact .inl ⟨i,q,z⟩
  ·rw [rq2 j fun i z=>q ⟨i,z⟩] at z
   exact .inr z
 let Oxp:AS:=fun a=>Ox a∨∃ i,R1 i a∧∀ j:Nat,sh[j]?≠some (.inr i)
 have sub:∀ a,Own Rq Oxp a→Own R1 (U F0 Ox) a:=fun a z=>by
  rcases z with ⟨j,z⟩ | z | ⟨i,z,_⟩
  ·rcases rqc j a z with ⟨i,_,z⟩ | z
   ·exact .inl ⟨i,z⟩
   ·exact .inr (.inl (a3 j a z))
  ·exact .inr (.inr z)
  ·exact .inl ⟨i,z⟩
 have ec:EnvOk K dps Oxp H1 (vs.map some) (ts.map some) Rq:=by
  refine ⟨fun j u hu=>?_,fun j j' a z z'=>?_,fun j a z z2=>?_,fun a z=>P.env.dom a (sub a z),by rw [List.length_map,List.length_map,tl,ol],?_⟩
  ·rw [List.getElem?_map] at hu
   obtain ⟨u',hu,eu⟩:=Option.map_eq_some_iff.mp hu
   cases eu
   rcases tg j u hu with q | ⟨i,q,qe⟩
   ·obtain ⟨v,d,b1,b2,b3⟩:=a1 j u q
    refine ⟨v,d,by rw [List.getElem?_map,b1]; rfl,c1 j d b2,?_⟩
    rw [rq2 j fun i z=>by rw [b2] at z; cases z]
    exact Ow.grow sub u (fun _ z=>z) b3
   ·obtain ⟨v,b1,b2,b3⟩:=a2 j i q
    obtain ⟨v',d,g1,g2,g3⟩:=P.env.at_ i u qe
    rw [b3] at g1
    cases g1
    obtain ⟨qd,q1,q2⟩:=c2 j i b2
    rw [g2] at q2
    cases q2
    refine ⟨v,d,by rw [List.getElem?_map,b1]; rfl,q1,?_⟩
    rw [rq1 j i b2]
    exact Ow.grow sub u (fun _ z=>z) g3
  ·rcases rqc j a z with ⟨i,q,z⟩ | z <;> rcases rqc j' a z' with ⟨i',q',z'⟩ | z'
   ·have:=P.env.dj i i' a z z'
    subst this
    exact c3 j j' i q q'
   ·exact absurd (.inl (a3 j' a z')) (P.env.dx i a z)
   ·exact absurd (.inl (a3 j a z)) (P.env.dx i' a z')
   ·exact a4 j j' a z z'
  ·rcases rqc j a z with ⟨i,q,z⟩ | z
   ·rcases z2 with z2 | ⟨i',z2,n⟩
    ·exact P.env.dx i a z (.inr z2)
    ·have:=P.env.dj i i' a z z2
     subst this
     exact n j q
   ·rcases z2 with z2 | ⟨i',z2,n⟩
    ·exact P.fx a (a3 j a z) z2
    ·exact P.env.dx i' a z2 (.inl (a3 j a z))
  ·have:=o.shl
   rw [List.length_map]
   omega
 rw [List.append_nil]
 refine ⟨Oxp,ts,Rq,r,outs,ec,h3,fun v H2 R2 Fr Pc oc=>?_⟩
 have outl:outs.length=as.length:=by rw [Pc.env.l1,List.length_map]; exact ol
 classical
 let R3:Nat→AS:=fun i=>if q:∃ j:Nat,sh[j]?=some (.inr i) then R2 q.choose else R1 i
 have r31:∀ (i j:Nat),sh[j]?=some (.inr i)→R3 i=R2 j:=fun i j z=>by
  have q:∃ j:Nat,sh[j]?=some (.inr i):=⟨j,z⟩
  have:q.choose=j:=c3 _ _ i q.choose_spec z
  show (if q:∃ j:Nat,sh[j]?=some (.inr i) then R2 q.choose else R1 i)=R2 j
  rw [dif_pos q,this]
 have r32:∀ i:Nat,(∀ j:Nat,sh[j]?≠some (.inr i))→R3 i=R1 i:=fun i z=>by
  show (if q:∃ j:Nat,sh[j]?=some (.inr i) then R2 q.choose else R1 i)=R1 i
  rw [dif_neg fun ⟨j,q⟩=>z j q]
 have r3c:∀ (i:Nat) a,R3 i a→(∃ j:Nat,sh[j]?=some (.inr i)∧R2 j a)∨((∀ j:Nat,sh[j]?≠some (.inr i))∧R1 i a):=fun i a z=>by
  by_cases q:∃ j:Nat,sh[j]?=some (.inr i)
  ·obtain ⟨j,q⟩:=q
   rw [r31 i j q] at z
   exact .inl ⟨j,q,z⟩
  ·rw [r32 i fun j z=>q ⟨j,z⟩] at z
   exact .inr ⟨fun j z=>q ⟨j,z⟩,z⟩
 have sub3:∀ a,Own R3 (U Fr Ox) a→Own R2 (U Fr Oxp) a:=fun a z=>by
  rcases z with ⟨i,z⟩ | z | z
  ·rcases r3c i a z with ⟨j,_,z⟩ | ⟨n,z⟩
   ·exact .inl ⟨j,z⟩
   ·exact .inr (.inr (.inr ⟨i,z,n⟩))
  ·exact .inr (.inl z)
  ·exact .inr (.inr (.inl z))
 have back:∀ a,(Fr a∨∃ j,R2 j a)→Own R1 (U F0 Ox) a∨H1 a=none:=fun a z=>by
  rcases Pc.own a z with ⟨j,z⟩ | z
  ·exact .inl (sub a (.inl ⟨j,z⟩))
  ·exact .inr z
 have back2:∀ a,(Fr a∨∃ j,R2 j a)→(F0 a∨∃ i,R1 i a)∨H1 a=none:=fun a z=>by
  rcases Pc.own a z with ⟨j,z⟩ | z
  ·rcases rqc j a z with ⟨i,_,z⟩ | z
   ·exact .inl (.inr ⟨i,z⟩)
   ·exact .inl (.inl (a3 j a z))
  ·exact .inr z
 have n1:∀ a,H1 a=none→H a=none:=fun a z=>by
  cases q:H a with
  | none=>rfl
  | some o =>
   obtain ⟨o',q'⟩:=P.dom a o q
   rw [z] at q'
   cases q'
 have rqsub:∀ j a,Rq j a→Own R1 (U F0 Ox) a:=fun j a z=>sub a (.inl ⟨j,z⟩)
 have env3:EnvOk K ds1 (U Fr Ox) H2 σ (wb as outs en1) R3:=by
  refine ⟨fun i u hu=>?_,fun i i' a z z'=>?_,fun i a z z2=>?_,fun a z=>Pc.env.dom a (sub3 a z),by rw [qj]; exact P.env.l1,P.env.l2⟩
  ·by_cases q:∃ j:Nat,as[j]?=some (.inr i)
   ·obtain ⟨j,q⟩:=q
    obtain ⟨v,b1,b2,b3⟩:=a2 j i q
    have hil:i < en1.length:=by rw [P.env.l1]; exact (List.getElem?_eq_some_iff.mp b3).1
    rw [sX as outs en1 i j q (fun j' z=>c3 j' j i (asl j' i z) b2) outl hil] at hu
    obtain ⟨v',d,g1,g2,g3⟩:=Pc.env.at_ j u hu
    rw [List.getElem?_map,b1] at g1
    cases g1
    obtain ⟨qd,q1,q2⟩:=c2 j i b2
    rw [g2] at q1
    cases q1
    refine ⟨v,d,b3,q2,?_⟩
    rw [r31 i j b2]
    exact Ow.grow sub3 u (fun _ z=>z) g3
   ·rw [kQ as outs en1 i fun j z=>q ⟨j,z⟩] at hu
    have ns:∀ j:Nat,sh[j]?≠some (.inr i):=fun j z=>q ⟨j,asr j i z⟩
    obtain ⟨v,d,g1,g2,g3⟩:=P.env.at_ i u hu
    refine ⟨v,d,g1,g2,?_⟩
    rw [r32 i ns]
    refine Ow.mv (G:=R1 i) ⟨fun a o q z=>Pc.keep a o q fun j zj=>?_,fun a z=>?_⟩ u (fun _ z=>z) g3
    ·rcases z with z | z
     ·exact z (rqsub j a zj)
     ·rcases rqc j a zj with ⟨i',q',z'⟩ | z'
      ·have:=P.env.dj i i' a z z'
       subst this
       exact ns j q'
      ·exact P.env.dx i a z (.inl (a3 j a z'))
    ·rcases z with ⟨i',z⟩ | z | z
     ·rcases r3c i' a z with ⟨j,_,z⟩ | ⟨n,z⟩
      ·exact back a (.inr ⟨j,z⟩)
      ·exact .inl (.inl ⟨i',z⟩)
     ·exact back a (.inl z)
     ·exact .inl (.inr (.inr z))
  ·rcases r3c i a z with ⟨j,q,z⟩ | ⟨n,z⟩ <;> rcases r3c i' a z' with ⟨j',q',z'⟩ | ⟨n',z'⟩
   ·have:=Pc.env.dj j j' a z z'
    subst this
    rw [q] at q'
    cases q'
    rfl
   ·exact absurd (.inr (.inr ⟨i',z',n'⟩)) (Pc.env.dx j a z)
   ·exact absurd (.inr (.inr ⟨i,z,n⟩)) (Pc.env.dx j' a z')
   ·exact P.env.dj i i' a z z'
  ·rcases r3c i a z with ⟨j,q,z⟩ | ⟨n,z⟩
   ·exact Pc.env.dx j a z (z2.imp id .inl)
   ·rcases z2 with z2 | z2
    ·exact Pc.fx a z2 (.inr ⟨i,z,n⟩)
    ·exact P.env.dx i a z (.inr z2)
 refine k v H2 R3 Fr ⟨env3,fun a z z2=>Pc.fx a z (.inl z2),fun a o q n=>?_,fun a z=>?_,fun a o q=>?_,fun hp=>?_⟩ (Ow.grow sub3 r (fun _ z=>z) oc)
 ·refine Pc.keep a o (P.keep a o q n) fun j z=>?_
  have nn:∀ i,¬ R1 i a:=fun i z=>by
   rcases P.own a (.inr ⟨i,z⟩) with ⟨i',z⟩ | z
   ·exact n i' z
   ·rw [q] at z; cases z
  rcases rqc j a z with ⟨i,_,z⟩ | z
  ·exact nn i z
  ·rcases P.own a (.inl (a3 j a z)) with ⟨i',z⟩ | z
   ·exact n i' z
   ·rw [q] at z; cases z
 ·have:(F0 a∨∃ i,R1 i a)∨H1 a=none:=by
   rcases z with z | ⟨i,z⟩
   ·exact back2 a (.inl z)
   ·rcases r3c i a z with ⟨j,_,z⟩ | ⟨n,z⟩
    ·exact back2 a (.inr ⟨j,z⟩)
    ·exact .inl (.inr ⟨i,z⟩)
  rcases this with z | z
  ·exact P.own a z
  ·exact .inr (n1 a z)
 ·obtain ⟨o',q'⟩:=P.dom a o q
  exact Pc.dom a o' q'
 ·obtain ⟨hp1,hp2⟩:=(Bool.and_eq_true _ _ ▸ hp:p=true∧iV sh=true)
  obtain ⟨b1,b2,b3⟩:=P.pure hp1
  have ns:=nq hp2
  refine ⟨?_,?_,fun a o q=>?_⟩
  ·show wb as outs en1=en
   rw [← b1]
   refine List.ext_getElem? fun i=>?_
   exact kQ as outs en1 i fun j z=>ns j i (asl j i z)
  ·rw [← b2]
   funext i
   exact r32 i fun j=>ns j i
  ·refine Pc.keep a o (b3 a o q) fun j z=>?_
   rcases rqc j a z with ⟨i,z,_⟩ | z
   ·exact ns j i z
   ·have zf:=a3 j a z
    rcases P.own a (.inl zf) with ⟨i,z2⟩ | z2
    ·rw [← b2] at z2
     exact P.env.dx i a z2 (.inl zf)
    ·rw [q] at z2; cases z2
end
end L2
namespace L2
open PySem PySem.Spec PyProof.Rows
inductive Fl where
 | nx (en:En) | rt (t:D) (en:En) | ct (en:En)
abbrev MS:=En→Option Fl
structure Jd where
 lk:List Nat
 dsr:List Nat
 dr:Nat
 dsl:List Nat
structure PostS (K:PySem.W.Frag) (lk:List Nat) (ds':List Nat) (Ox:AS) (σ:St) (H:Hp) (R:Nat→AS) (σ':St) (en':En) (H':Hp) (R':Nat→AS) (F:AS):Prop where
 env:EnvOk K ds' (U F Ox) H' σ' en' R'
 fx:∀ a,F a→¬ Ox a
 keep:∀ a o,H a=some o→(∀ i,¬ R i a)→H' a=some o
 own:∀ a,(F a∨∃ i,R' i a)→(∃ i,R i a)∨H a=none
 dom:∀ a o,H a=some o→∃ o',H' a=some o'
 lk:∀ j∈lk,σ'[j]?=σ[j]?
def tFS (K:PySem.W.Frag) (J:Jd) (ds ds':List Nat) (f:MS):TS:=fun D σ H =>
 ∃ Ox en R fl,EnvOk K ds Ox H σ en R∧f en=some fl∧match fl with
  | .nx en'=>∀ σ' H' R',PostS K J.lk ds' Ox σ H R σ' en' H' R' NoA→D.nx σ' H'
  | .ct en'=>∀ σ' H' R',PostS K J.lk J.dsl Ox σ H R σ' en' H' R' NoA→D.ct σ' H'
  | .rt t en'=>∀ v σ' H' R' F,PostS K J.lk J.dsr Ox σ H R σ' en' H' R' F→Ow K (Own R' (U F Ox)) H' t J.dr v F→D.rt v H'
def au (f g:MS):MS:=fun en=>(f en).bind fun fl=>match fl with
 | .nx en1=>g en1
 | .rt t en1=>some (.rt t en1)
 | .ct en1=>some (.ct en1)
def aC (i:Nat) (f:ME):MS:=fun en=>(f en).map fun r=>.nx (r.2.set i (some r.1))
def dF (f:ME):MS:=fun en=>(f en).map fun r=>.nx r.2
def aQ (f:ME):MS:=fun en=>(f en).map fun r=>.rt r.1 r.2
def Kg:MS:=fun en=>some (.rt .none en)
def br:MS:=fun en=>some (.nx en)
def Kh:MS:=fun en=>some (.ct en)
def iS:MS:=fun _=>none
def sIf (c:MT) (f g:MS):MS:=fun en=>(c en).bind fun r=>if r.1 then f r.2 else g r.2
section
variable {K:PySem.W.Frag} {p p1 p2:Bool} {J:Jd} {lk:List Nat} {ds ds0 ds1 ds2 ds':List Nat} {Ox Ox' O O':AS} {H H':Hp} {σ σ':St} {en en' en1 en2:En} {R R':Nat→AS} {d d' d1 d2 dr:Nat} {t t1 t2:D} {f f1 f2:ME} {c:MT} {m m1 m2:MS} {i:Nat} {D:Ends}
theorem PostS.refl (e:EnvOk K ds Ox H σ en R):PostS K lk ds Ox σ H R σ en H R NoA :=
 ⟨by rw [gZ]; exact e,fun _ z=>z.elim,fun _ _ q _=>q,fun a z=>z.elim (fun z=>z.elim) .inl,fun a o q=>⟨o,q⟩,fun _ _=>rfl⟩
theorem PostS.env0 {F:AS} (P:PostS K lk ds' Ox σ H R σ' en' H' R' F):EnvOk K ds' Ox H' σ' en' R':=P.env.fewer fun a z=>.inr z
theorem PostS.less {F F':AS} (P:PostS K lk ds' Ox σ H R σ' en' H' R' F) (h:∀ a,F' a→F a):PostS K lk ds' Ox σ H R σ' en' H' R' F' :=
 ⟨P.env.fewer fun a z=>z.imp (h a) id,fun a z=>P.fx a (h a z),P.keep,fun a z=>P.own a (z.imp (h a) id),P.dom,P.lk⟩
theorem PostS.after {σ1 σ2:St} {H1:Hp} {R1 R2:Nat→AS} {F:AS} (P1:PostS K lk ds1 Ox σ H R σ1 en1 H1 R1 NoA) (P2:PostS K lk ds2 Ox σ1 H1 R1 σ2 en2 H' R2 F):PostS K lk ds2 Ox σ H R σ2 en2 H' R2 F:=by
 have n1:∀ a,H1 a=none→H a=none:=fun a z=>by
  cases q:H a with
  | none=>rfl
  | some o =>
   obtain ⟨o',q'⟩:=P1.dom a o q
   rw [z] at q'
   cases q'
 refine ⟨P2.env,P2.fx,fun a o q n=>?_,fun a z=>?_,fun a o q=>?_,fun j hj=>(P2.lk j hj).trans (P1.lk j hj)⟩
 ·refine P2.keep a o (P1.keep a o q n) fun i z=>?_
  rcases P1.own a (.inr ⟨i,z⟩) with ⟨j,z⟩ | z
  ·exact n j z
  ·rw [q] at z; cases z
 ·rcases P2.own a z with z | z
  ·exact P1.own a (.inr z)
  ·exact .inr (n1 a z)
 ·obtain ⟨o',q'⟩:=P1.dom a o q
  exact P2.dom a o' q'
theorem Post.s {F:AS} (P:Post K p ds' Ox σ H en R en' H' R' F):PostS K lk ds' Ox σ H R σ en' H' R' F:=⟨P.env,P.fx,P.keep,P.own,P.dom,fun _ _=>rfl⟩
theorem PostS.cut {F:AS} (P:PostS K lk ds1 Ox σ H R σ' en' H' R' F) (hd:leD ds2 ds1=true):∃ R2,(∀ i a,R2 i a→R' i a)∧PostS K lk ds2 Ox σ H R σ' en' H' R2 F:=by
 obtain ⟨R2,s1,e2⟩:=P.env.cut (fG hd).1 (fG hd).2
 exact ⟨R2,s1,e2,P.fx,P.keep,fun a z=>P.own a (z.imp id fun ⟨i,z⟩=>⟨i,s1 i a z⟩),P.dom,P.lk⟩
theorem HK (h:tFS K J ds ds br D σ H):CB D σ H:=by
 obtain ⟨Ox,en,R,fl,e,hf,k⟩:=h
 cases hf
 exact k σ H R (PostS.refl e)
theorem HI (h:tFS K J ds ds2 (au m1 m2) D σ H):Gr (tFS K J ds ds1 m1) (tFS K J ds1 ds2 m2) D σ H:=by
 obtain ⟨Ox,en,R,fl,e,hf,k⟩:=h
 unfold au at hf
 obtain ⟨fl1,h1,hf⟩:=Option.bind_eq_some_iff.mp hf
 refine ⟨Ox,en,R,fl1,e,h1,?_⟩
 cases fl1 with
 | nx en1 =>
  intro σ1 H1 R1 P1
  refine ⟨Ox,en1,R1,fl,P1.env0,hf,?_⟩
  cases fl with
  | nx en2=>exact fun σ2 H2 R2 P2=>k σ2 H2 R2 (P1.after P2)
  | ct en2=>exact fun σ2 H2 R2 P2=>k σ2 H2 R2 (P1.after P2)
  | rt t en2=>exact fun v σ2 H2 R2 F P2 o=>k v σ2 H2 R2 F (P1.after P2) o
 | ct en1=>cases hf; exact k
 | rt t en1=>cases hf; exact k
theorem va (hd:leD ds1 ds2=true) (h:tFS K J ds ds1 m D σ H):tFS K J ds ds2 m D σ H:=by
 obtain ⟨Ox,en,R,fl,e,hf,k⟩:=h
 refine ⟨Ox,en,R,fl,e,hf,?_⟩
 cases fl with
 | nx en2 =>
  intro σ2 H2 R2 P2
  obtain ⟨R3,_,P3⟩:=P2.cut hd
  exact k σ2 H2 R3 P3
 | ct en2=>exact k
 | rt t en2=>exact k
theorem HM (h:tFS K J ds ds1 (dF f) D σ H):CC (tF K p ds ds1 d f) D σ H:=by
 obtain ⟨Ox,en,R,fl,e,hf,k⟩:=h
 unfold dF at hf
 obtain ⟨⟨t,en1⟩,h1,hf⟩:=Option.map_eq_some_iff.mp hf
 cases hf
 exact ⟨Ox,en,R,t,en1,e,h1,fun v H1 R1 F P o=>k σ H1 R1 (P.s.less fun _ z=>z.elim)⟩
theorem HJ (hd:leD J.dsr ds1=true) (h:tFS K J ds ds' (aQ f) D σ H):Gs (tF K p ds ds1 J.dr f) D σ H:=by
 obtain ⟨Ox,en,R,fl,e,hf,k⟩:=h
 unfold aQ at hf
 obtain ⟨⟨t,en1⟩,h1,hf⟩:=Option.map_eq_some_iff.mp hf
 cases hf
 refine ⟨Ox,en,R,t,en1,e,h1,fun v H1 R1 F P o=>?_⟩
 obtain ⟨R2,s1,P2⟩:=(P.s (lk:=J.lk)).cut hd
 exact k v σ H1 R2 F P2 (Ow.grow (fun a z=>z.imp (fun ⟨i,z⟩=>⟨i,s1 i a z⟩) id) t (fun _ z=>z) o)
theorem wU (h:tFS K J ds ds' iS D σ H):qt D σ H:=by
 obtain ⟨Ox,en,R,fl,e,hf,k⟩:=h
 cases hf
theorem Jg (h:tFS K J ds ds2 (sIf c m1 m2) D σ H):Gy (tFT K p ds ds1 c) (tFS K J ds1 ds2 m1) (tFS K J ds1 ds2 m2) D σ H:=by
 obtain ⟨Ox,en,R,fl,e,hf,k⟩:=h
 unfold sIf at hf
 obtain ⟨⟨b,en1⟩,h1,hf⟩:=Option.bind_eq_some_iff.mp hf
 refine ⟨Ox,en,R,b,en1,e,h1,fun H1 R1 P1=>?_⟩
 have fin:∀ m,m en1=some fl→tFS K J ds1 ds2 m D σ H1:=fun m hm=>by
  refine ⟨Ox,en1,R1,fl,P1.env0,hm,?_⟩
  cases fl with
  | nx en2=>exact fun σ2 H2 R2 P2=>k σ2 H2 R2 (P1.s.after P2)
  | ct en2=>exact fun σ2 H2 R2 P2=>k σ2 H2 R2 (P1.s.after P2)
  | rt t en2=>exact fun v σ2 H2 R2 F P2 o=>k v σ2 H2 R2 F (P1.s.after P2) o
 cases b with
 | true=>exact fin m1 hf
 | false=>exact fin m2 hf
theorem PostS.store {F:AS} {v:V} (P:Post K p ds1 Ox σ H en R en1 H' R' F) (o:Ow K (Own R' (U F Ox)) H' t d v F) (hi:i < ds1.length) (hl:i ∉ lk) :
  PostS K lk (ds1.set i d) Ox σ H R (σ.set i (some v)) (en1.set i (some t)) H' (fun j=>if j=i then F else R' j) NoA:=by
 have l1:=P.env.l1
 have l2:=P.env.l2
 have sub:∀ a,Own (fun j=>if j=i then F else R' j) Ox a→Own R' (U F Ox) a:=fun a z=>by
  rcases z with ⟨j,z⟩ | z
  ·by_cases hj:j=i
   ·rw [if_pos hj] at z; exact .inr (.inl z)
   ·rw [if_neg hj] at z; exact .inl ⟨j,z⟩
  ·exact .inr (.inr z)
 refine ⟨?_,fun _ z=>z.elim,P.keep,fun a z=>?_,P.dom,fun j hj=>?_⟩
 ·rw [gZ]
  refine ⟨fun j u hu=>?_,fun j j' a z z'=>?_,fun j a z z2=>?_,fun a z=>P.env.dom a (sub a z),by rw [List.length_set,List.length_set]; exact l1,by rw [List.length_set,List.length_set]; exact l2⟩
  ·by_cases hj:j=i
   ·subst hj
    rw [List.getElem?_set_self (by omega)] at hu
    cases hu
    refine ⟨v,d,List.getElem?_set_self (by omega),List.getElem?_set_self hi,?_⟩
    rw [if_pos rfl]
    exact Ow.grow sub t (fun _ z=>z) o
   ·rw [List.getElem?_set_ne (Ne.symm hj)] at hu
    obtain ⟨v',d',g1,g2,g3⟩:=P.env.at_ j u hu
    refine ⟨v',d',by rw [List.getElem?_set_ne (Ne.symm hj)]; exact g1,by rw [List.getElem?_set_ne (Ne.symm hj)]; exact g2,?_⟩
    rw [if_neg hj]
    exact Ow.grow sub u (fun _ z=>z) g3
  ·by_cases hj:j=i <;> by_cases hj':j'=i
   ·rw [hj,hj']
   ·rw [if_pos hj] at z; rw [if_neg hj'] at z'
    exact absurd (.inl z) (P.env.dx j' a z')
   ·rw [if_neg hj] at z; rw [if_pos hj'] at z'
    exact absurd (.inl z') (P.env.dx j a z)
   ·rw [if_neg hj] at z; rw [if_neg hj'] at z'
    exact P.env.dj j j' a z z'
  ·by_cases hj:j=i
   ·rw [if_pos hj] at z
    exact P.fx a z z2
   ·rw [if_neg hj] at z
    exact P.env.dx j a z (.inr z2)
 ·rcases z with z | ⟨j,z⟩
  ·exact z.elim
  ·by_cases hj:j=i
   ·rw [if_pos hj] at z; exact P.own a (.inl z)
   ·rw [if_neg hj] at z; exact P.own a (.inr ⟨j,z⟩)
 ·rw [List.getElem?_set_ne]
  intro z
  subst z
  exact hl hj
theorem vb (hi:i < ds1.length) (hl:i ∉ J.lk) (h:tFS K J ds (ds1.set i d) (aC i f) D σ H):qv (tF K p ds ds1 d f) (nK i) D σ H:=by
 obtain ⟨Ox,en,R,fl,e,hf,k⟩:=h
 unfold aC at hf
 obtain ⟨⟨t,en1⟩,h1,hf⟩:=Option.map_eq_some_iff.mp hf
 cases hf
 exact ⟨Ox,en,R,t,en1,e,h1,fun v H1 R1 F P o=>k _ H1 _ (PostS.store P o hi hl)⟩
abbrev MG:=PyData→En→Option En
def tFG (K:PySem.W.Frag) (lk:List Nat) (ds ds':List Nat) (g:MG):TG:=fun v σ H Q =>
 ∃ Ox en R t en',EnvOk K ds Ox H σ en R∧Ow K (Own R Ox) H t 0 v NoA∧g t en=some en'∧∀ σ' R',PostS K lk ds' Ox σ H R σ' en' H R' NoA→(∀ j∈lk,R' j=R j)→Q σ' H
def gN (i:Nat):MG:=fun t en=>some (en.set i (some t))
def gs0:List PyData→En→Option En:=fun ts en=>match ts with
 | []=>some en
 | _=>none
def gsC (g:MG) (r:List PyData→En→Option En):List PyData→En→Option En:=fun ts en=>match ts with
 | t :: ts=>(g t en).bind fun en1=>r ts en1
 | []=>none
def gT (g:List PyData→En→Option En):MG:=fun t en=>match t with
 | .tuple ts=>g ts en
 | _=>none
variable {g g1:MG} {gs:List PyData→En→Option En} {v:V} {vs:List V} {QS:St→Hp→Prop}
theorem D6 (hi:i < ds.length) (hl:i ∉ lk) (h:tFG K lk ds (ds.set i 0) (gN i) v σ H QS):nK i v σ H QS:=by
 obtain ⟨Ox,en,R,t,en',e,o,hf,k⟩:=h
 cases hf
 exact k _ _ (PostS.store (p:=true) (Post.refl e) (by rw [show (fun _=>False:AS)=NoA from rfl,gZ]; exact o) hi hl) fun j hj=>if_neg (fun (z:j=i)=>hl (by rw [← z]; exact hj))
abbrev MI:=En→Option (List PyData × En)
def rF (K:PySem.W.Frag) (O:AS) (H0:Hp) (J:It) (ts:List PyData):Prop :=
 ∀ (i:Nat) (H:Hp) (O1:AS),(∀ a o,H0 a=some o→¬ O a→H a=some o)→(∀ a,O1 a→O a∨H0 a=none)→(∀ a,O1 a→∃ o,H a=some o) →
  (∀ t,ts[i]?=some t→J.go i H∧∀ x H1,J.yld i H x H1→(∀ a o,H a=some o→H1 a=some o)∧Ow K O1 H1 t 0 x NoA)∧(ts.length=i→J.stop i H)
def tFI (K:PySem.W.Frag) (p:Bool) (ds ds':List Nat) (f:MI):TI:=fun σ H RJ =>
 ∃ Ox en R ts en',EnvOk K ds Ox H σ en R∧f en=some (ts,en')∧∀ J H' R',Post K p ds' Ox σ H en R en' H' R' NoA→rF K (Own R' Ox) H' J ts→RJ J H'
def eh (g:MG) (b:MS):List PyData→En→Option Fl
 | [],en=>some (.nx en)
 | t :: ts,en=>(g t en).bind fun en1=>(b en1).bind fun fl=>match fl with
  | .nx en2=>eh g b ts en2
  | .ct en2=>eh g b ts en2
  | .rt r en2=>some (.rt r en2)
def eP (fi:MI) (g:MG) (b:MS):MS:=fun en=>(fi en).bind fun r=>eh g b r.1 r.2
theorem HL {fi:MI} (h:tFS K J ds ds1 (eP fi g m) D σ H):Gz (tFI K p ds ds1 fi) (tFG K J.lk ds1 ds2 g) (tFS K { J with dsl:=ds1 } ds2 ds1 m) D σ H:=by
 obtain ⟨Ox,en,R,fl,e,hf,k⟩:=h
 unfold eP at hf
 obtain ⟨⟨ts,en1⟩,h1,hf⟩:=Option.bind_eq_some_iff.mp hf
 refine ⟨Ox,en,R,ts,en1,e,h1,fun Jt H1 R1 P1 wk=>?_⟩
 refine ⟨fun i n σ' H'=>∃ en' R',n=ts.length - i∧i≤ts.length∧PostS K J.lk ds1 Ox σ H1 R1 σ' en' H' R' NoA∧eh g m (ts.drop i) en'=some fl,⟨_,en1,R1,rfl,Nat.zero_le _,PostS.refl P1.env0,hf⟩,?_⟩
 rintro i n σ2 H2 ⟨en2,R2,rfl,hi,P2,hr⟩
 obtain ⟨w1,w2⟩:=wk i H2 (Own R2 Ox) (fun a o q z=>P2.keep a o q fun j zj=>z (.inl ⟨j,zj⟩)) (fun a z=>by
  rcases z with z | z
  ·exact (P2.own a (.inr z)).imp .inl id
  ·exact .inl (.inr z)) fun a z=>P2.env0.dom a z
 by_cases hlt:i < ts.length
 ·obtain ⟨go,yl⟩:=w1 ts[i] (List.getElem?_eq_getElem hlt)
  have hd:ts.drop i=ts[i] :: ts.drop (i+1):=List.drop_eq_getElem_cons hlt
  rw [hd] at hr
  obtain ⟨en3,h3,hr⟩:=Option.bind_eq_some_iff.mp hr
  obtain ⟨fl2,h4,hr⟩:=Option.bind_eq_some_iff.mp hr
  refine .inr ⟨go,fun σ' H'=>∃ en' R',PostS K J.lk ds1 Ox σ H1 R1 σ' en' H' R' NoA∧eh g m (ts.drop (i+1)) en'=some fl,fun σ' H' ⟨en',R',P',h'⟩=>⟨ts.length - (i+1),by omega,en',R',rfl,hlt,P',h'⟩,fun x H3 y=>?_⟩
  obtain ⟨gr,ox⟩:=yl x H3 y
  have P3:Post K true ds1 Ox σ2 H2 en2 R2 en2 H3 R2 NoA:=Post.new P2.env0 gr fun _ z=>z.elim
  refine ⟨Ox,en2,R2,ts[i],en3,P3.env0,ox,h3,fun σ4 R4 P4 _=>?_⟩
  have P4':=(P2.after P3.s).after P4
  refine ⟨Ox,en3,R4,fl2,P4.env0,h4,?_⟩
  cases fl2 with
  | nx en5=>exact fun σ5 H5 R5 P5=>⟨en5,R5,P4'.after P5,hr⟩
  | ct en5=>exact fun σ5 H5 R5 P5=>⟨en5,R5,P4'.after P5,hr⟩
  | rt t en5 =>
   cases hr
   exact fun v σ5 H5 R5 F P5 o=>k v σ5 H5 R5 F (P1.s.after (P4'.after P5)) o
 ·have e2:i=ts.length:=by omega
  subst e2
  rw [List.drop_length] at hr
  cases hr
  exact .inl ⟨w2 rfl,k σ2 H2 R2 (P1.s.after P2)⟩
def whN (c:MT) (b:MS):Nat→En→Option Fl
 | 0,_=>none
 | n+1,en=>(c en).bind fun r=>if r.1 then (b r.2).bind fun fl=>match fl with
   | .nx en2=>whN c b n en2
   | .ct en2=>whN c b n en2
   | .rt t en2=>some (.rt t en2)
  else some (.nx r.2)
open Classical in
noncomputable def du (c:MT) (b:MS):MS:=fun en=>if h:∃ n fl,whN c b n en=some fl then some h.choose_spec.choose else none
theorem jn {b:MS} {fl:Fl} (h:du c b en=some fl):∃ n,whN c b n en=some fl:=by
 unfold du at h
 split at h
 ·next q =>
  cases h
  exact ⟨q.choose,q.choose_spec.choose_spec⟩
 ·cases h
theorem wT (h:tFS K J ds ds1 (du c m) D σ H):uz (tFT K p ds ds1 c) (tFS K { J with dsl:=ds } ds1 ds m) D σ H:=by
 obtain ⟨Ox,en,R,fl,e,hf,k⟩:=h
 obtain ⟨n0,hn⟩:=jn hf
 refine ⟨fun n σ' H'=>∃ en' R',PostS K J.lk ds Ox σ H R σ' en' H' R' NoA∧whN c m n en'=some fl,⟨n0,en,R,PostS.refl e,hn⟩,?_⟩
 rintro n σ2 H2 ⟨en2,R2,P2,hr⟩
 cases n with
 | zero=>cases hr
 | succ n =>
  unfold whN at hr
  obtain ⟨⟨b,en3⟩,h3,hr⟩:=Option.bind_eq_some_iff.mp hr
  refine ⟨Ox,en2,R2,b,en3,P2.env0,h3,fun H3 R3 P3=>?_⟩
  cases b with
  | false =>
   cases hr
   rw [if_neg Bool.false_ne_true]
   exact k σ2 H3 R3 (P2.after P3.s)
  | true =>
   rw [if_pos rfl] at hr ⊢
   obtain ⟨fl2,h4,hr⟩:=Option.bind_eq_some_iff.mp hr
   refine ⟨fun σ' H'=>∃ en' R',PostS K J.lk ds Ox σ H R σ' en' H' R' NoA∧whN c m n en'=some fl,fun σ' H' q=>⟨n,Nat.lt_succ_self _,q⟩,Ox,en3,R3,fl2,P3.env0,h4,?_⟩
   have P3':=P2.after (P3.s (lk:=J.lk))
   cases fl2 with
   | nx en5=>exact fun σ5 H5 R5 P5=>⟨en5,R5,P3'.after P5,hr⟩
   | ct en5=>exact fun σ5 H5 R5 P5=>⟨en5,R5,P3'.after P5,hr⟩
   | rt t en5 =>
    cases hr
    exact fun v σ5 H5 R5 F P5 o=>k v σ5 H5 R5 F (P3'.after P5) o
end
end L2
namespace L2
open PySem PySem.Spec PyProof.Rows
def lcF (g:MG) (c:MT) (f:ME):List D→List D→En→Option (List D × En)
 | [],acc,en=>some (acc,en)
 | t :: ts,acc,en=>(g t en).bind fun en1=>(c en1).bind fun r=>if r.1 then (f r.2).bind fun q=>if acc.length < sizeLine then lcF g c f ts (acc++[q.1]) q.2 else none else lcF g c f ts acc r.2
def eU (js:List (Option Nat)) (en:En):En:=js.map fun j=>match j with
 | some j=>(en[j]?).join
 | none=>none
def wbB:List (Option Nat)→En→En→En
 | some j :: js,o :: r,en=>wbB js r (en.set j o)
 | none :: js,_ :: r,en=>wbB js r en
 | _,_,en=>en
def eLC (q:Bool) (fi:MI) (g:MG) (c:MT) (f:ME) (js:List (Option Nat)):ME:=fun en=>(fi en).bind fun r=>(lcF g c f r.1 [] (eU js r.2)).map fun z=>(.list z.1,if q then r.2 else wbB js z.2 r.2)
def jt (ds:List Nat):List (Option Nat)→List Nat→Bool
 | [],[]=>true
 | some j :: js,d :: r=>decide (ds[j]?=some d) && (decide (some j ∉ js) && jt ds js r)
 | none :: js,_ :: r=>jt ds js r
 | _,_=>false
section
variable {K:PySem.W.Frag} {p p1 p2 q:Bool} {lk:List Nat} {ds ds0 ds1 ds2 ds' dsi:List Nat} {Ox Ox' O O':AS} {H H':Hp} {σ σ':St} {en en' en1 en2:En} {R R':Nat→AS} {d d' d1 d2 dr:Nat} {t t1 t2:D} {Q:VK} {f f1 f2:ME} {c:MT} {g:MG} {fi:MI} {i:Nat} {js:List (Option Nat)}
theorem mR:∀ {js:List (Option Nat)} {dsi:List Nat},jt ds js dsi=true→dsi.length=js.length∧(∀ (k j:Nat),js[k]?=some (some j)→∃ d,dsi[k]?=some d∧ds[j]?=some d)∧(∀ (k k' j:Nat),js[k]?=some (some j)→js[k']?=some (some j)→k=k')
 | [],[],_=>⟨rfl,fun k j z=>by simp at z,fun k k' j z=>by simp at z⟩
 | some j0 :: js,d :: r,h=>by
  unfold jt at h
  rw [Bool.and_eq_true,Bool.and_eq_true] at h
  obtain ⟨h1,h2,h3⟩:=h
  obtain ⟨a,b,c⟩:=mR h3
  have n:=of_decide_eq_true h2
  refine ⟨by rw [List.length_cons,List.length_cons,a],fun k j z=>?_,fun k k' j z z'=>?_⟩
  ·cases k with
   | zero=>simp at z; subst z; exact ⟨d,rfl,of_decide_eq_true h1⟩
   | succ k=>exact b k j (by simpa using z)
  ·cases k with
   | zero =>
    simp at z
    subst z
    cases k' with
    | zero=>rfl
    | succ k'=>exact absurd (List.mem_of_getElem? (by simpa using z':js[k']?=some (some j0))) n
   | succ k =>
    cases k' with
    | zero =>
     simp at z'
     subst z'
     exact absurd (List.mem_of_getElem? (by simpa using z:js[k]?=some (some j0))) n
    | succ k'=>rw [c k k' j (by simpa using z) (by simpa using z')]
 | none :: js,d :: r,h=>by
  unfold jt at h
  obtain ⟨a,b,c⟩:=mR h
  refine ⟨by rw [List.length_cons,List.length_cons,a],fun k j z=>?_,fun k k' j z z'=>?_⟩
  ·cases k with
   | zero=>simp at z
   | succ k=>exact b k j (by simpa using z)
  ·cases k with
   | zero=>simp at z
   | succ k =>
    cases k' with
    | zero=>simp at z'
    | succ k'=>rw [c k k' j (by simpa using z) (by simpa using z')]
 | [],_ :: _,h=>nomatch h
 | some _ :: _,[],h=>nomatch h
 | none :: _,[],h=>nomatch h
theorem on:∀ (js:List (Option Nat)) (r en:En),(wbB js r en).length=en.length
 | [],_,_=>by unfold wbB; rfl
 | some _ :: _,[],_=>by unfold wbB; rfl
 | none :: _,[],_=>by unfold wbB; rfl
 | some j :: js,o :: r,en=>by unfold wbB; rw [on js r _,List.length_set]
 | none :: js,o :: r,en=>by unfold wbB; exact on js r _
theorem lK:∀ (js:List (Option Nat)) (r en:En) (i:Nat),(∀ k:Nat,js[k]?≠some (some i))→(wbB js r en)[i]?=en[i]?
 | [],_,_,_,_=>by unfold wbB; rfl
 | some _ :: _,[],_,_,_=>by unfold wbB; rfl
 | none :: _,[],_,_,_=>by unfold wbB; rfl
 | none :: js,o :: r,en,i,h=>by unfold wbB; exact lK js r en i fun j=>h (j+1)
 | some k :: js,o :: r,en,i,h=>by
  unfold wbB
  rw [lK js r _ i fun j=>h (j+1),List.getElem?_set_ne]
  intro e
  subst e
  exact h 0 rfl
theorem qk:∀ (js:List (Option Nat)) (r en:En) (i k:Nat),js[k]?=some (some i)→(∀ k':Nat,js[k']?=some (some i)→k'=k)→r.length=js.length→i < en.length→(wbB js r en)[i]?=r[k]?
 | [],_,_,_,_,h,_,_,_=>by simp at h
 | some _ :: js,[],_,_,_,_,_,h,_=>by simp at h
 | none :: js,[],_,_,_,_,_,h,_=>by simp at h
 | none :: js,o :: r,en,i,k,h,u,l,b=>by
  unfold wbB
  cases k with
  | zero=>simp at h
  | succ k=>exact qk js r en i k (by simpa using h) (fun j' z=>by have:=u (j'+1) (by simpa using z); omega) (by simpa using l) b
 | some j :: js,o :: r,en,i,k,h,u,l,b=>by
  unfold wbB
  cases k with
  | zero =>
   have e:j=i:=by simpa using h
   subst e
   rw [lK js r _ j fun j' z=>by have:=u (j'+1) (by simpa using z); omega]
   rw [List.getElem?_set_self b]
   rfl
  | succ k=>exact qk js r _ i k (by simpa using h) (fun j' z=>by have:=u (j'+1) (by simpa using z); omega) (by simpa using l) (by rw [List.length_set]; exact b)
theorem Ows.snoc:∀ {ts:List D} {vs:List V} {F1 F2:AS} {v:V},Ows K O H ts d vs F1→Ow K O H t d v F2→(∀ b,F1 b→¬ F2 b)→Ows K O H (ts++[t]) d (vs++[v]) (U F1 F2)
 | [],vs,F1,F2,v,h,h2,_=>by
  have e:vs=[]:=h
  subst e
  exact ⟨v,[],F2,NoA,rfl,fun _ z=>.inr z,fun _ z=>z.elim,fun _ _ z=>z.elim,h2,rfl⟩
 | u :: ts,vs,F1,F2,v,h,h2,hd=>by
  obtain ⟨w,r,G1,G2,e,s1,s2,s3,h4,h5⟩:=h
  subst e
  refine ⟨w,r++[v],G1,U G2 F2,rfl,fun b z=>.inl (s1 b z),fun b z=>z.imp (s2 b) id,fun b z z2=>?_,h4,Ows.snoc h5 h2 fun b z=>hd b (s2 b z)⟩
  rcases z2 with z2 | z2
  ·exact s3 b z z2
  ·exact hd b (s1 b z) z2
theorem Ows.len:∀ {ts:List D} {vs:List V} {F:AS},Ows K O H ts d vs F→vs.length=ts.length
 | [],_,_,h=>by rw [show _=[] from h]; rfl
 | t :: ts,_,_,h=>by
  obtain ⟨v,r,F1,F2,e,h1,h2,h3,h4,h5⟩:=h
  rw [e,List.length_cons,List.length_cons,h5.len]
def jr:List (Option Nat)→Nat→List Nat
 | [],_=>[]
 | some _ :: r,n=>n :: jr r (n+1)
 | none :: r,n=>jr r (n+1)
theorem jX:∀ {js:List (Option Nat)} {n k j:Nat},js[k]?=some (some j)→n+k∈jr js n
 | [],n,k,j,h=>by simp at h
 | some x :: r,n,k,j,h=>by
  unfold jr
  cases k with
  | zero=>exact List.mem_cons_self
  | succ k =>
   refine List.mem_cons_of_mem _ ?_
   have:=jX (n:=n+1) (k:=k) (j:=j) (by simpa using h)
   rw [show n+(k+1)=n+1+k by omega]
   exact this
 | none :: r,n,k,j,h=>by
  unfold jr
  cases k with
  | zero=>simp at h
  | succ k =>
   have:=jX (n:=n+1) (k:=k) (j:=j) (by simpa using h)
   rw [show n+(k+1)=n+1+k by omega]
   exact this
def rz (js:List (Option Nat)) (R1:Nat→AS):Nat→AS:=fun k=>match js[k]? with
 | some (some j)=>R1 j
 | _=>NoA
theorem Eo {R1:Nat→AS} {k j:Nat} (h:js[k]?=some (some j)):rz js R1 k=R1 j:=by unfold rz; rw [h]
theorem Em {R1:Nat→AS} {k:Nat} {a:Addr} (h:rz js R1 k a):∃ j,js[k]?=some (some j)∧R1 j a:=by
 unfold rz at h
 cases q:js[k]? with
 | none=>rw [q] at h; exact h.elim
 | some o =>
  rw [q] at h
  cases o with
  | none=>exact h.elim
  | some j=>exact ⟨j,rfl,h⟩
theorem Iu {cd:Nat} (hc:jt ds1 js dsi=true) (hd:dn d=cd) (hz:d≠0) (hl:lk=jr js 0) (h:tF K (p && q) ds ds1 d (eLC q fi g c f js) σ H Q) :
  tLC (tFI K p ds ds1 fi) (tFG K lk dsi dsi g) (tFT K q dsi dsi c) (tF K q dsi dsi cd f) js σ H Q:=by
 obtain ⟨Ox,en,R,t,en',e,hf,k⟩:=h
 unfold eLC at hf
 obtain ⟨⟨ts,en1⟩,h1,hf⟩:=Option.bind_eq_some_iff.mp hf
 obtain ⟨⟨fin,enf⟩,h2,hf⟩:=Option.map_eq_some_iff.mp hf
 cases hf
 obtain ⟨cl,c1,c2⟩:=mR hc
 refine ⟨Ox,en,R,ts,en1,e,h1,fun J H1 R1 P1 wk D hD=>?_⟩
 have E1:=P1.env0
 generalize hRI:rz js R1=RI
 have ri1:∀ k j:Nat,js[k]?=some (some j)→RI k=R1 j:=fun k j z=>by rw [← hRI]; exact Eo z
 have ric:∀ (k:Nat) a,RI k a→∃ j,js[k]?=some (some j)∧R1 j a:=fun k a z=>by rw [← hRI] at z; exact Em z
 let OxI:AS:=fun a=>Ox a∨a=D∨∃ i,R1 i a∧∀ k:Nat,js[k]?≠some (some i)
 have nD:∀ a,Own R1 Ox a→a≠D:=fun a z z2=>by
  subst z2
  obtain ⟨o,q⟩:=E1.dom a z
  rw [hD] at q
  cases q
 have lI:(eU js en1).length=js.length:=by unfold eU; rw [List.length_map]
 have lS:(fZ js σ).length=js.length:=by unfold fZ; rw [List.length_map]
 have getE:∀ (k:Nat) t,(eU js en1)[k]?=some (some t)→∃ j,js[k]?=some (some j)∧en1[j]?=some (some t):=fun k t z=>by
  unfold eU at z
  rw [List.getElem?_map] at z
  obtain ⟨oj,h1,h2⟩:=Option.map_eq_some_iff.mp z
  cases oj with
  | none=>cases h2
  | some j =>
   refine ⟨j,h1,?_⟩
   have h2':(en1[j]?).join=some t:=h2
   cases q:en1[j]? with
   | none=>rw [q] at h2'; cases h2'
   | some o=>rw [q] at h2'; exact congrArg some h2'
 have getS:∀ (k j:Nat) v,js[k]?=some (some j)→σ[j]?=some (some v)→(fZ js σ)[k]?=some (some v):=fun k j v z1 z2=>by
  unfold fZ
  rw [List.getElem?_map,z1]
  show some ((σ[j]?).join)=_
  rw [z2]
  rfl
 have u2:∀ a o,H1 a=some o→upd H1 D (.lst []) a=some o:=fun a o q=>(cW (o:=.lst []) hD).1 a o q
 have EI:EnvOk K dsi OxI (upd H1 D (.lst [])) (fZ js σ) (eU js en1) RI:=by
  refine ⟨fun k t hk=>?_,fun k k' a z z'=>?_,fun k a z z2=>?_,fun a z=>?_,by rw [lI,lS],by rw [cl,lS]⟩
  ·obtain ⟨j,hj,ht⟩:=getE k t hk
   obtain ⟨v,d,g1,g2,g3⟩:=E1.at_ j t ht
   obtain ⟨d',q1,q2⟩:=c1 k j hj
   rw [g2] at q2
   cases q2
   refine ⟨v,d,getS k j v hj g1,q1,?_⟩
   rw [ri1 k j hj]
   refine Ow.mv (G:=R1 j) ⟨fun a o q _=>u2 a o q,fun a z=>?_⟩ t (fun _ z=>z) g3
   rcases z with ⟨k',z⟩ | z | z | ⟨i,z,_⟩
   ·obtain ⟨j',_,z⟩:=ric k' a z
    exact .inl (.inl ⟨j',z⟩)
   ·exact .inl (.inr z)
   ·exact .inr (z ▸ hD)
   ·exact .inl (.inl ⟨i,z⟩)
  ·obtain ⟨j,hj,z⟩:=ric k a z
   obtain ⟨j',hj',z'⟩:=ric k' a z'
   have:=E1.dj j j' a z z'
   subst this
   exact c2 k k' j hj hj'
  ·obtain ⟨j,hj,z⟩:=ric k a z
   rcases z2 with z2 | z2 | ⟨i,z2,n⟩
   ·exact E1.dx j a z z2
   ·exact nD a (.inl ⟨j,z⟩) z2
   ·have:=E1.dj j i a z z2
    subst this
    exact n k hj
  ·rcases z with ⟨k,z⟩ | z | z | ⟨i,z,_⟩
   ·obtain ⟨j,hj,z⟩:=ric k a z
    obtain ⟨o,q⟩:=E1.dom a (.inl ⟨j,z⟩)
    exact ⟨o,u2 a o q⟩
   ·obtain ⟨o,q⟩:=E1.dom a (.inr z)
    exact ⟨o,u2 a o q⟩
   ·subst z
    exact ⟨_,bC⟩
   ·obtain ⟨o,q⟩:=E1.dom a (.inl ⟨i,z⟩)
    exact ⟨o,u2 a o q⟩
 refine ⟨fun i n τ H'=>∃ eni RI' acc vs Fa,n=ts.length - i∧i≤ts.length∧PostS K lk dsi OxI (fZ js σ) H1 RI τ eni H' RI' Fa∧H' D=some (.lst vs)∧Ows K (Own RI' (U Fa OxI)) H' acc cd vs Fa∧lcF g c f (ts.drop i) acc eni=some (fin,enf) ∧
   (q=true→(∀ k j:Nat,js[k]?=some (some j)→RI' k=RI k)∧(∀ a o,H1 a=some o→H' a=some o)),
  ⟨_,eU js en1,RI,[],[],NoA,rfl,Nat.zero_le _,⟨by rw [gZ]; exact EI,fun _ z=>z.elim,fun a o q _=>u2 a o q,fun a z=>z.elim (fun z=>z.elim) .inl,fun a o q=>⟨o,u2 a o q⟩,fun _ _=>rfl⟩,bC,rfl,h2,fun _=>⟨fun _ _ _=>rfl,u2⟩⟩,?_⟩
 rintro i n τ H2 ⟨eni,RI2,acc,vs,Fa,rfl,hi,P2,hDl,oacc,hr,pu⟩
 have io:∀ a,Own RI2 (U Fa OxI) a→Own R1 Ox a∨H1 a=none:=fun a z=>by
  rcases z with z | z | z | z | ⟨i,z,_⟩
  ·rcases P2.own a (.inr z) with ⟨k,z⟩ | z
   ·obtain ⟨j,_,z⟩:=ric k a z
    exact .inl (.inl ⟨j,z⟩)
   ·exact .inr z
  ·rcases P2.own a (.inl z) with ⟨k,z⟩ | z
   ·obtain ⟨j,_,z⟩:=ric k a z
    exact .inl (.inl ⟨j,z⟩)
   ·exact .inr z
  ·exact .inl (.inr z)
  ·exact .inr (z ▸ hD)
  ·exact .inl (.inl ⟨i,z⟩)
 obtain ⟨w1,w2⟩:=wk i H2 (Own RI2 (U Fa OxI)) (fun a o q z=>P2.keep a o q fun k zk=>by
  obtain ⟨j,_,zj⟩:=ric k a zk
  exact z (.inl ⟨j,zj⟩)) io fun a z=>P2.env.dom a z
 have DO:OxI D:=.inr (.inl rfl)
 by_cases hlt:i < ts.length
 ·obtain ⟨go,yl⟩:=w1 ts[i] (List.getElem?_eq_getElem hlt)
  rw [List.drop_eq_getElem_cons hlt] at hr
  obtain ⟨en3,h3,hr⟩:=Option.bind_eq_some_iff.mp hr
  obtain ⟨⟨b,en4⟩,h4,hr⟩:=Option.bind_eq_some_iff.mp hr
  refine .inr ⟨go,fun τ' H'=>∃ eni RI' acc vs Fa,PostS K lk dsi OxI (fZ js σ) H1 RI τ' eni H' RI' Fa∧H' D=some (.lst vs)∧Ows K (Own RI' (U Fa OxI)) H' acc cd vs Fa∧lcF g c f (ts.drop (i+1)) acc eni=some (fin,enf)∧(q=true→(∀ k j:Nat,js[k]?=some (some j)→RI' k=RI k)∧(∀ a o,H1 a=some o→H' a=some o)),
   fun τ' H' ⟨eni,RI',acc,vs,Fa,P',x1,x2,x3,x4⟩=>⟨_,by omega,eni,RI',acc,vs,Fa,rfl,hlt,P',x1,x2,x3,x4⟩,fun x H3 y=>?_⟩
  obtain ⟨gr,ox⟩:=yl x H3 y
  have P3:Post K true dsi (U Fa OxI) τ H2 eni RI2 eni H3 RI2 NoA:=Post.new P2.env gr fun _ z=>z.elim
  have chain:∀ {τ5 en5 H5 RI5 F5},PostS K lk dsi (U Fa OxI) τ H2 RI2 τ5 en5 H5 RI5 F5→PostS K lk dsi OxI (fZ js σ) H1 RI τ5 en5 H5 RI5 (U Fa F5):=fun {τ5 en5 H5 RI5 F5} P5=>by
   have n1:∀ a,H2 a=none→H1 a=none:=fun a z=>by
    cases q:H1 a with
    | none=>rfl
    | some o =>
     obtain ⟨o',q'⟩:=P2.dom a o q
     rw [z] at q'
     cases q'
   refine ⟨lB ▸ P5.env,fun a z z2=>?_,fun a o q n=>?_,fun a z=>?_,fun a o q=>?_,fun j hj=>(P5.lk j hj).trans (P2.lk j hj)⟩
   ·rcases z with z | z
    ·exact P2.fx a z z2
    ·exact P5.fx a z (.inr z2)
   ·refine P5.keep a o (P2.keep a o q n) fun i z=>?_
    rcases P2.own a (.inr ⟨i,z⟩) with ⟨j,z⟩ | z
    ·exact n j z
    ·rw [q] at z; cases z
   ·rcases z with (z | z) | z
    ·exact P2.own a (.inl z)
    ·rcases P5.own a (.inl z) with z | z
     ·exact P2.own a (.inr z)
     ·exact .inr (n1 a z)
    ·rcases P5.own a (.inr z) with z | z
     ·exact P2.own a (.inr z)
     ·exact .inr (n1 a z)
   ·obtain ⟨o',q'⟩:=P2.dom a o q
    exact P5.dom a o' q'
  have carry:∀ {τ5 en5 H5 RI5 F5},PostS K lk dsi (U Fa OxI) τ H2 RI2 τ5 en5 H5 RI5 F5→Ows K (Own RI5 (U (U Fa F5) OxI)) H5 acc cd vs Fa:=fun {τ5 en5 H5 RI5 F5} P5=>by
   refine Ows.mv (G:=Fa) ⟨fun a o q z=>P5.keep a o q fun i zi=>?_,fun a z=>?_⟩ acc (fun _ z=>z) oacc
   ·rcases z with z | z
    ·exact z (.inl ⟨i,zi⟩)
    ·exact P2.env.dx i a zi (.inl z)
   ·rcases z with z | (z | z) | z
    ·exact (P5.own a (.inr z)).imp .inl id
    ·exact .inl (.inr (.inl z))
    ·exact (P5.own a (.inl z)).imp .inl id
    ·exact .inl (.inr (.inr z))
  have UFN:U Fa NoA=Fa:=ib fun a=>⟨fun z=>z.elim id fun z=>z.elim,.inl⟩
  refine ⟨U Fa OxI,eni,RI2,ts[i],en3,P3.env0,ox,h3,fun τ4 R4 P4 r4=>?_⟩
  have P4':=(P3.s (lk:=lk)).after P4
  refine ⟨U Fa OxI,en3,R4,b,en4,P4.env0,h4,fun H5 R5 P5=>?_⟩
  have P5':=P4'.after (P5.s (lk:=lk))
  have pu5:q=true→(∀ k j:Nat,js[k]?=some (some j)→R5 k=RI k)∧(∀ a o,H1 a=some o→H5 a=some o):=fun hq=>by
   obtain ⟨_,b2,b3⟩:=P5.pure hq
   obtain ⟨e1,e2⟩:=pu hq
   refine ⟨fun k j z=>?_,fun a o qq=>b3 a o (gr a o (e2 a o qq))⟩
   rw [b2,r4 k (by rw [hl]; have:=jX (n:=0) z; rw [Nat.zero_add] at this; exact this)]
   exact e1 k j z
  cases b with
  | false =>
   dsimp only
   rw [if_neg Bool.false_ne_true]
   have c5:=chain P5'
   have o5:=carry P5'
   rw [UFN] at c5 o5
   exact ⟨en4,R5,acc,vs,Fa,c5,P5'.keep D _ hDl fun k z=>P2.env.dx k D z (.inr DO),o5,hr,pu5⟩
  | true =>
   dsimp only
   rw [if_pos rfl]
   obtain ⟨⟨t6,en6⟩,h6,hr⟩:=Option.bind_eq_some_iff.mp (show ((f en4).bind fun q=>if acc.length < sizeLine then lcF g c f (ts.drop (i+1)) (acc++[q.1]) q.2 else none)=some (fin,enf) from hr)
   refine ⟨U Fa OxI,en4,R5,t6,en6,P5.env0,h6,fun v H6 R6 F6 P6 o6=>?_⟩
   have P6':=P5'.after (P6.s (lk:=lk))
   by_cases hlen:acc.length < sizeLine
   case neg=>rw [if_neg hlen] at hr; cases hr
   rw [if_pos hlen] at hr
   have hD6:=P6'.keep D _ hDl fun k z=>P2.env.dx k D z (.inr DO)
   refine ⟨vs,hD6,by rw [oacc.len]; exact hlen,en6,R6,acc++[t6],vs++[v],U Fa F6,?_,bC,?_,hr,?_⟩
   ·have c6:=chain P6'
    have keepD:∀ a o,H6 a=some o→a≠D→upd H6 D (.lst (vs++[v])) a=some o:=fun a o q n=>by rw [bj n]; exact q
    refine ⟨⟨fun k t hk=>?_,c6.env.dj,c6.env.dx,fun a z=>?_,c6.env.l1,c6.env.l2⟩,c6.fx,fun a o q n=>?_,c6.own,fun a o q=>?_,c6.lk⟩
    ·obtain ⟨v',d',g1,g2,g3⟩:=c6.env.at_ k t hk
     refine ⟨v',d',g1,g2,Ow.mv (G:=R6 k) ⟨fun a o q z=>keepD a o q fun zD=>?_,fun a z=>.inl z⟩ t (fun _ z=>z) g3⟩
     subst zD
     rcases z with z | z
     ·exact z (.inr (.inr DO))
     ·exact c6.env.dx k a z (.inr DO)
    ·by_cases ha:a=D
     ·subst ha; exact ⟨_,bC⟩
     ·obtain ⟨o,q⟩:=c6.env.dom a z
      exact ⟨o,keepD a o q ha⟩
    ·refine keepD a o (c6.keep a o q n) fun zD=>?_
     subst zD
     rw [hD] at q
     cases q
    ·obtain ⟨o',q'⟩:=c6.dom a o q
     by_cases ha:a=D
     ·subst ha; exact ⟨_,bC⟩
     ·exact ⟨o',keepD a o' q' ha⟩
   ·have o1:=carry P6'
    have o2:Ow K (Own R6 (U (U Fa F6) OxI)) H6 t6 cd v F6:=lB ▸ o6
    have:=Ows.snoc o1 o2 fun b z1 z2=>P6.fx b z2 (.inl z1)
    refine Ows.mv (G:=U Fa F6) ⟨fun a o q z=>?_,fun a z=>.inl z⟩ _ (fun _ z=>z) this
    rw [bj]
    ·exact q
    ·intro zD
     subst zD
     rcases z with z | z | z
     ·exact z (.inr (.inr DO))
     ·exact P2.fx a z DO
     ·exact P6.fx a z (.inr DO)
   ·intro hq
    obtain ⟨_,b2,b3⟩:=P6.pure hq
    obtain ⟨e1,e2⟩:=pu5 hq
    refine ⟨fun k j z=>by rw [b2]; exact e1 k j z,fun a o qq=>?_⟩
    rw [bj]
    ·exact b3 a o (e2 a o qq)
    ·intro zD
     subst zD
     rw [hD] at qq
     cases qq
 ·have e2:i=ts.length:=by omega
  subst e2
  rw [List.drop_length] at hr
  obtain ⟨e3,e4⟩:acc=fin∧eni=enf:=by cases hr; exact ⟨rfl,rfl⟩
  subst e3 e4
  refine .inl ⟨w2 rfl,?_⟩
  have fD:∀ a,Fa a→a≠D:=fun a z z2=>by
   subst z2
   exact P2.fx a z DO
  cases hq:q with
  | true =>
   obtain ⟨e1,e2⟩:=pu hq
   subst hq
   have fn:∀ a,Fa a→H1 a=none:=fun a z=>by
    rcases P2.own a (.inl z) with ⟨k,z2⟩ | z2
    ·obtain ⟨j,hj,z3⟩:=ric k a z2
     rw [← e1 k j hj] at z2
     exact absurd (.inl z) (P2.env.dx k a z2)
    ·exact z2
   have nt:NewTo H1 H2 (fun a=>a=D∨Fa a):=⟨e2,fun a z=>by
    rcases z with z | z
    ·subst z
     exact ⟨hD,_,hDl⟩
    ·exact ⟨fn a z,P2.env.dom a (.inr (.inl z))⟩⟩
   have PF:=P1.fin nt
   rw [Bool.and_true] at k
   refine k (.ref D) H2 R1 _ PF ⟨D,vs,rfl,.inr ⟨hz,hDl,.inl rfl,Fa,fun b z=>⟨.inr z,fD b z⟩,?_⟩⟩
   rw [hd]
   refine Ows.grow (fun a z=>?_) _ (fun _ z=>z) oacc
   rcases z with ⟨i,z⟩ | (z | z) | z
   ·by_cases hc2:∃ kk:Nat,js[kk]?=some (some i)
    ·obtain ⟨kk,hk⟩:=hc2
     refine .inl ⟨kk,?_⟩
     rw [e1 kk i hk,ri1 kk i hk]
     exact z
    ·exact .inr (.inr (.inr (.inr ⟨i,z,fun kk hk=>hc2 ⟨kk,hk⟩⟩)))
   ·exact .inr (.inr (z ▸ DO))
   ·exact .inr (.inl z)
   ·exact .inr (.inr (.inl z))
  | false =>
   subst hq
   rw [Bool.and_false] at k
   classical
   let R3:Nat→AS:=fun i=>if hh:∃ kk:Nat,js[kk]?=some (some i) then RI2 hh.choose else R1 i
   have r31:∀ (i kk:Nat),js[kk]?=some (some i)→R3 i=RI2 kk:=fun i kk z=>by
    have hh:∃ kk:Nat,js[kk]?=some (some i):=⟨kk,z⟩
    have:hh.choose=kk:=c2 _ _ i hh.choose_spec z
    show (if hh:∃ kk:Nat,js[kk]?=some (some i) then RI2 hh.choose else R1 i)=RI2 kk
    rw [dif_pos hh,this]
   have r32:∀ i:Nat,(∀ kk:Nat,js[kk]?≠some (some i))→R3 i=R1 i:=fun i z=>by
    show (if hh:∃ kk:Nat,js[kk]?=some (some i) then RI2 hh.choose else R1 i)=R1 i
    rw [dif_neg fun ⟨j,q⟩=>z j q]
   have r3c:∀ (i:Nat) a,R3 i a→(∃ kk:Nat,js[kk]?=some (some i)∧RI2 kk a)∨((∀ kk:Nat,js[kk]?≠some (some i))∧R1 i a):=fun i a z=>by
    by_cases hh:∃ kk:Nat,js[kk]?=some (some i)
    ·obtain ⟨kk,hk⟩:=hh
     rw [r31 i kk hk] at z
     exact .inl ⟨kk,hk,z⟩
    ·rw [r32 i fun j z=>hh ⟨j,z⟩] at z
     exact .inr ⟨fun j z=>hh ⟨j,z⟩,z⟩
   have sub3:∀ a,Own R3 (U (fun a=>a=D∨Fa a) Ox) a→Own RI2 (U Fa OxI) a:=fun a z=>by
    rcases z with ⟨i,z⟩ | (z | z) | z
    ·rcases r3c i a z with ⟨j,_,z⟩ | ⟨n,z⟩
     ·exact .inl ⟨j,z⟩
     ·exact .inr (.inr (.inr (.inr ⟨i,z,n⟩)))
    ·exact .inr (.inr (z ▸ DO))
    ·exact .inr (.inl z)
    ·exact .inr (.inr (.inl z))
   have el:eni.length=js.length:=by rw [P2.env.l1,← P2.env.l2]; exact cl
   have riO:∀ (kk:Nat) a,RI kk a→Own R1 Ox a:=fun kk a z=>by
    obtain ⟨j,_,z⟩:=ric kk a z
    exact .inl ⟨j,z⟩
   have env3:EnvOk K ds1 (U (fun a=>a=D∨Fa a) Ox) H2 σ (wbB js eni en1) R3:=by
    refine ⟨fun i u hu=>?_,fun i i' a z z'=>?_,fun i a z z2=>?_,fun a z=>P2.env.dom a (sub3 a z),by rw [on]; exact E1.l1,E1.l2⟩
    ·by_cases hh:∃ kk:Nat,js[kk]?=some (some i)
     ·obtain ⟨kk,hk⟩:=hh
      obtain ⟨dd,q1,q2⟩:=c1 kk i hk
      have hil:i < en1.length:=by rw [E1.l1,← E1.l2]; exact (List.getElem?_eq_some_iff.mp q2).1
      rw [qk js eni en1 i kk hk (fun k' z=>c2 k' kk i z hk) el hil] at hu
      obtain ⟨v,d',g1,g2,g3⟩:=P2.env.at_ kk u hu
      rw [q1] at g2
      cases g2
      have hlk:=P2.lk kk (by rw [hl]; have:=jX (n:=0) hk; rw [Nat.zero_add] at this; exact this)
      rw [hlk] at g1
      refine ⟨v,dd,?_,q2,?_⟩
      ·unfold fZ at g1
       rw [List.getElem?_map,hk] at g1
       have g1':(σ[i]?).join=some v:=Option.some.inj g1
       cases q3:σ[i]? with
       | none=>rw [q3] at g1'; cases g1'
       | some o=>rw [q3] at g1'; exact congrArg some g1'
      ·rw [r31 i kk hk]
       exact Ow.grow sub3 u (fun _ z=>z) g3
     ·rw [lK js eni en1 i fun j z=>hh ⟨j,z⟩] at hu
      have ns:∀ j:Nat,js[j]?≠some (some i):=fun j z=>hh ⟨j,z⟩
      obtain ⟨v,d',g1,g2,g3⟩:=E1.at_ i u hu
      refine ⟨v,d',g1,g2,?_⟩
      rw [r32 i ns]
      refine Ow.mv (G:=R1 i) ⟨fun a o q z=>P2.keep a o q fun j zj=>?_,fun a z=>io a (sub3 a z)⟩ u (fun _ z=>z) g3
      obtain ⟨j',hj',zj⟩:=ric j a zj
      rcases z with z | z
      ·exact z (.inl ⟨j',zj⟩)
      ·have:=E1.dj i j' a z zj
       subst this
       exact ns j hj'
    ·rcases r3c i a z with ⟨j,q,z⟩ | ⟨n,z⟩ <;> rcases r3c i' a z' with ⟨j',q',z'⟩ | ⟨n',z'⟩
     ·have:=P2.env.dj j j' a z z'
      subst this
      rw [q] at q'
      cases q'
      rfl
     ·exact absurd (.inr (.inr (.inr ⟨i',z',n'⟩))) (P2.env.dx j a z)
     ·exact absurd (.inr (.inr (.inr ⟨i,z,n⟩))) (P2.env.dx j' a z')
     ·exact E1.dj i i' a z z'
    ·rcases r3c i a z with ⟨j,q,z⟩ | ⟨n,z⟩
     ·refine P2.env.dx j a z ?_
      rcases z2 with (z2 | z2) | z2
      ·exact .inr (z2 ▸ DO)
      ·exact .inl z2
      ·exact .inr (.inl z2)
     ·rcases z2 with (z2 | z2) | z2
      ·exact nD a (.inl ⟨i,z⟩) z2
      ·exact P2.fx a z2 (.inr (.inr ⟨i,z,n⟩))
      ·exact E1.dx i a z z2
   have n1:∀ a,H1 a=none→H a=none:=fun a z=>by
    cases q:H a with
    | none=>rfl
    | some o =>
     obtain ⟨o',q'⟩:=P1.dom a o q
     rw [z] at q'
     cases q'
   refine k (.ref D) H2 R3 (fun a=>a=D∨Fa a) ⟨env3,fun a z z2=>?_,fun a o q n=>?_,fun a z=>?_,fun a o q=>?_,fun z=>nomatch z⟩ ⟨D,vs,rfl,.inr ⟨hz,hDl,.inl rfl,Fa,fun b z=>⟨.inr z,fD b z⟩,?_⟩⟩
   ·rcases z with z | z
    ·exact nD a (.inr z2) z
    ·exact P2.fx a z (.inl z2)
   ·refine P2.keep a o (P1.keep a o q n) fun kk z=>?_
    obtain ⟨j,_,z⟩:=ric kk a z
    rcases P1.own a (.inr ⟨j,z⟩) with ⟨i',z⟩ | z
    ·exact n i' z
    ·rw [q] at z; cases z
   ·have h3:(∃ i,R1 i a)∨H1 a=none:=by
     have h4:(Fa a∨∃ kk,RI2 kk a)→(∃ i,R1 i a)∨H1 a=none:=fun z=>by
      rcases P2.own a z with ⟨kk,z⟩ | z
      ·obtain ⟨j,_,z⟩:=ric kk a z
       exact .inl ⟨j,z⟩
      ·exact .inr z
     rcases z with (z | z) | ⟨i,z⟩
     ·exact .inr (z ▸ hD)
     ·exact h4 (.inl z)
     ·rcases r3c i a z with ⟨j,_,z⟩ | ⟨n,z⟩
      ·exact h4 (.inr ⟨j,z⟩)
      ·exact .inl ⟨i,z⟩
    rcases h3 with h3 | h3
    ·exact P1.own a (.inr h3)
    ·exact .inr (n1 a h3)
   ·obtain ⟨o',q'⟩:=P1.dom a o q
    exact P2.dom a o' q'
   ·rw [hd]
    exact Ows.grow sub3 _ (fun _ z=>z) oacc
end
end L2
namespace L2
open PySem PySem.Spec PyProof.Rows
def msk:List Nat→En→En
 | d :: ds,o :: en=>(if d=0 then none else o) :: msk ds en
 | _,_=>[]
def fnF (n:Nat) (dps:List Nat) (b:MS):List PyData→Option (PyData × En):=fun ts=>(b (ts.map some++List.replicate n none)).bind fun fl=>match fl with
 | .rt t en=>some (t,msk dps en)
 | .nx en=>some (.none,msk dps en)
 | .ct _=>none
def qQ (dps:List Nat):List Nat:=(List.range dps.length).filter fun j=>dps[j]? != some 0
section
variable {K:PySem.W.Frag} {p p1 p2 q:Bool} {J:Jd} {lk:List Nat} {ds ds0 ds1 ds2 ds' dps:List Nat} {Ox Ox' O O':AS} {H H' H1:Hp} {σ σ':St} {en en' en1 en2:En} {R R' R1:Nat→AS} {d d' d1 d2 dr:Nat} {t t1 t2:PyData} {Q:VK} {f f1 f2:ME} {i:Nat} {v:V} {D:Ends}
theorem sJ:∀ {dps:List Nat} {en:En} {j:Nat} {u:PyData},(msk dps en)[j]?=some (some u)→∃ d,dps[j]?=some d∧d≠0∧en[j]?=some (some u)
 | [],en,j,u,h=>by unfold msk at h; simp at h
 | d :: ds,[],j,u,h=>by unfold msk at h; simp at h
 | d :: ds,o :: en,j,u,h=>by
  unfold msk at h
  cases j with
  | zero =>
   by_cases hd:d=0
   ·simp [hd] at h
   ·refine ⟨d,rfl,hd,?_⟩
    simpa [hd] using h
  | succ j =>
   have:=sJ (dps:=ds) (en:=en) (j:=j) (u:=u) (by simpa using h)
   simpa using this
theorem sI:∀ {dps:List Nat} {en:En},dps.length≤en.length→(msk dps en).length=dps.length
 | [],en,_=>by unfold msk; rfl
 | d :: ds,[],h=>by simp at h
 | d :: ds,o :: en,h=>by
  unfold msk
  rw [List.length_cons,List.length_cons,sI (by simpa using h)]
theorem D3 {N:List Str} {vs:List V} {E:XK} {n:Nat} {b:MS} (hn:N.length - dps.length=n) (h:spF K dps dr (fnF n dps b) vs H Q E) :
  tFS K ⟨qQ dps,dps++List.replicate n 0,dr,[]⟩ (dps++List.replicate n 0) (dps++List.replicate n 0) b { nx:=fun _ H'=>Q .non H',rt:=Q } (dE N vs) H:=by
 obtain ⟨Ox,ts,R,r,outs,e,hf,k⟩:=h
 have lv:dps.length=vs.length:=by have:=e.l2; rw [List.length_map] at this; exact this
 have lt:ts.length=vs.length:=by have:=e.l1; rw [List.length_map,List.length_map] at this; exact this
 have hs:dE N vs=vs.map some++List.replicate n none:=by unfold dE; rw [← lv,hn]
 unfold fnF at hf
 obtain ⟨fl,h1,hf⟩:=Option.bind_eq_some_iff.mp hf
 have get0:∀ {α:Type} (xs:List α) (i:Nat) (u:α),(xs.map some++List.replicate n none)[i]?=some (some u)→(xs.map some)[i]?=some (some u)∧i < xs.length:=fun xs i u z=>by
  by_cases hi:i < xs.length
  ·rw [List.getElem?_append_left (by rw [List.length_map]; exact hi)] at z
   exact ⟨z,hi⟩
  ·rw [List.getElem?_append_right (by rw [List.length_map]; omega),List.getElem?_replicate] at z
   split at z
   ·cases z
   ·cases z
 have e0:EnvOk K (dps++List.replicate n 0) Ox H (dE N vs) (ts.map some++List.replicate n none) R:=by
  rw [hs]
  refine ⟨fun i u hu=>?_,e.dj,e.dx,e.dom,by simp [lt],by simp [lv]⟩
  obtain ⟨hu',hi⟩:=get0 ts i u hu
  obtain ⟨v,d,g1,g2,g3⟩:=e.at_ i u hu'
  refine ⟨v,d,?_,?_,g3⟩
  ·rw [List.getElem?_append_left (by rw [List.length_map]; omega)]; exact g1
  ·rw [List.getElem?_append_left (by omega)]; exact g2
 have back:∀ {σ' en' H' R' F},PostS K (qQ dps) (dps++List.replicate n 0) Ox (dE N vs) H R σ' en' H' R' F→Post K false dps Ox (vs.map some) H (ts.map some) R (msk dps en') H' R' F:=fun {σ' en' H' R' F} P=>by
  have l1:=P.env.l1
  have l2:=P.env.l2
  rw [List.length_append,List.length_replicate] at l2
  refine ⟨⟨fun j u hu=>?_,P.env.dj,P.env.dx,P.env.dom,by rw [sI (by omega),List.length_map]; exact lv,by rw [List.length_map]; exact lv⟩,P.fx,P.keep,P.own,P.dom,fun z=>nomatch z⟩
  obtain ⟨d,a1,a2,a3⟩:=sJ hu
  obtain ⟨v,d',g1,g2,g3⟩:=P.env.at_ j u a3
  have hj:j < dps.length:=(List.getElem?_eq_some_iff.mp a1).1
  have hlk:j∈qQ dps:=by
   unfold qQ
   rw [List.mem_filter,List.mem_range]
   refine ⟨hj,?_⟩
   rw [a1]
   simpa using a2
  rw [P.lk j hlk,hs,List.getElem?_append_left (by rw [List.length_map]; omega)] at g1
  rw [List.getElem?_append_left hj] at g2
  exact ⟨v,d',g1,g2,g3⟩
 refine ⟨Ox,_,R,fl,e0,h1,?_⟩
 cases fl with
 | nx en2 =>
  cases hf
  exact fun σ2 H2 R2 P2=>k .non H2 R2 NoA (back P2) rfl
 | ct en2=>cases hf
 | rt t en2 =>
  cases hf
  exact fun v σ2 H2 R2 F P2 o=>k v H2 R2 F (back P2) o
theorem Post.slot {F G F':AS} {l:Addr} {o2:HO} (P:Post K p ds1 Ox σ H en R en1 H1 R1 F) (hl:R1 i l) (hi:i < en1.length) (hv:σ[i]?=some (some v)) (hd:ds1[i]?=some d)
  (hg:∀ a,G a→R1 i a∨F a) (hf:∀ a,F' a→R1 i a∨F a) (hx:∀ a,G a→¬ F' a)
  (ho:Ow K (Own (fun j=>if j=i then G else R1 j) (U F' Ox)) (upd H1 l o2) t d v G) :
  Post K false ds1 Ox σ H en R (en1.set i (some t)) (upd H1 l o2) (fun j=>if j=i then G else R1 j) F':=by
 have rc:∀ (j:Nat) a,(if j=i then G else R1 j) a→R1 j a∨(j=i∧F a):=fun j a z=>by
  by_cases hj:j=i
  ·rw [if_pos hj] at z
   rcases hg a z with z | z
   ·exact .inl (hj ▸ z)
   ·exact .inr ⟨hj,z⟩
  ·rw [if_neg hj] at z; exact .inl z
 have sub:∀ a,Own (fun j=>if j=i then G else R1 j) (U F' Ox) a→Own R1 (U F Ox) a:=fun a z=>by
  rcases z with ⟨j,z⟩ | z | z
  ·rcases rc j a z with z | ⟨_,z⟩
   ·exact .inl ⟨j,z⟩
   ·exact .inr (.inl z)
  ·rcases hf a z with z | z
   ·exact .inl ⟨i,z⟩
   ·exact .inr (.inl z)
  ·exact .inr (.inr z)
 have dom2:∀ a o,H1 a=some o→∃ o',upd H1 l o2 a=some o':=fun a o q=>by
  by_cases ha:a=l
  ·subst ha; exact ⟨_,bC⟩
  ·exact ⟨o,by rw [bj ha]; exact q⟩
 have nl:∀ a o,H1 a=some o→a≠l→upd H1 l o2 a=some o:=fun a o q n=>by rw [bj n]; exact q
 refine ⟨⟨fun j u hu=>?_,fun j j' a z z'=>?_,fun j a z z2=>?_,fun a z=>?_,by rw [List.length_set]; exact P.env.l1,P.env.l2⟩,fun a z z2=>?_,fun a o q n=>?_,fun a z=>?_,fun a o q=>?_,fun z=>nomatch z⟩
 ·by_cases hj:j=i
  ·subst hj
   rw [List.getElem?_set_self hi] at hu
   cases hu
   refine ⟨v,d,hv,hd,?_⟩
   rw [if_pos rfl]
   exact ho
  ·rw [List.getElem?_set_ne (Ne.symm hj)] at hu
   obtain ⟨v',d',g1,g2,g3⟩:=P.env.at_ j u hu
   refine ⟨v',d',g1,g2,?_⟩
   rw [if_neg hj]
   refine Ow.mv (G:=R1 j) ⟨fun a o q z=>nl a o q fun za=>?_,fun a z=>.inl (sub a z)⟩ u (fun _ z=>z) g3
   subst za
   rcases z with z | z
   ·exact z (.inl ⟨i,hl⟩)
   ·exact hj (P.env.dj j i a z hl)
 ·have z0:=z
  have z0':=z'
  by_cases hj:j=i <;> by_cases hj':j'=i
  ·rw [hj,hj']
  ·rw [if_pos hj] at z0; rw [if_neg hj'] at z0'
   rcases hg a z0 with z1 | z1
   ·exact absurd (P.env.dj i j' a z1 z0') (fun e=>hj' e.symm)
   ·exact absurd (.inl z1) (P.env.dx j' a z0')
  ·rw [if_neg hj] at z0; rw [if_pos hj'] at z0'
   rcases hg a z0' with z1 | z1
   ·exact absurd (P.env.dj j i a z0 z1) hj
   ·exact absurd (.inl z1) (P.env.dx j a z0)
  ·rw [if_neg hj] at z0; rw [if_neg hj'] at z0'
   exact P.env.dj j j' a z0 z0'
 ·have z0:=z
  by_cases hj:j=i
  ·rw [if_pos hj] at z0
   rcases z2 with z2 | z2
   ·exact hx a z0 z2
   ·rcases hg a z0 with z1 | z1
    ·exact P.env.dx i a z1 (.inr z2)
    ·exact P.fx a z1 z2
  ·rw [if_neg hj] at z0
   rcases z2 with z2 | z2
   ·rcases hf a z2 with z1 | z1
    ·exact hj (P.env.dj j i a z0 z1)
    ·exact P.env.dx j a z0 (.inl z1)
   ·exact P.env.dx j a z0 (.inr z2)
 ·obtain ⟨o,q⟩:=P.env.dom a (sub a z)
  exact dom2 a o q
 ·rcases hf a z with z1 | z1
  ·exact P.env.dx i a z1 (.inr z2)
  ·exact P.fx a z1 z2
 ·refine nl a o (P.keep a o q n) fun za=>?_
  subst za
  rcases P.own a (.inr ⟨i,hl⟩) with ⟨j,z⟩ | z
  ·exact n j z
  ·rw [q] at z; cases z
 ·have:F a∨∃ j,R1 j a:=by
   rcases z with z | ⟨j,z⟩
   ·rcases hf a z with z | z
    ·exact .inr ⟨i,z⟩
    ·exact .inl z
   ·rcases rc j a z with z | ⟨_,z⟩
    ·exact .inr ⟨j,z⟩
    ·exact .inl z
  exact P.own a this
 ·obtain ⟨o',q'⟩:=P.dom a o q
  exact dom2 a o' q'
theorem vL {G F' F:AS} (hg:∀ a,G a→R1 i a∨F a) (hf:∀ a,F' a→R1 i a∨F a):∀ a,Own (fun j=>if j=i then G else R1 j) (U F' Ox) a→Own R1 (U F Ox) a:=fun a z=>by
 rcases z with ⟨j,z⟩ | z | z
 ·by_cases hj:j=i
  ·rw [if_pos hj] at z
   rcases hg a z with z | z
   ·exact .inl ⟨i,z⟩
   ·exact .inr (.inl z)
  ·rw [if_neg hj] at z; exact .inl ⟨j,z⟩
 ·rcases hf a z with z | z
  ·exact .inl ⟨i,z⟩
  ·exact .inr (.inl z)
 ·exact .inr (.inr z)
theorem fj {α:Type} {en:List (Option α)} {i:Nat} {t:α} (h:(en[i]?).join=some t):en[i]?=some (some t):=by
 cases q:en[i]? with
 | none=>rw [q] at h; cases h
 | some o=>rw [q] at h; exact congrArg some h
theorem Ow.sqL {ts:List PyData} {F:AS} (h:Ow K O H (.list ts) d v F):∃ a vs,v=.ref a∧SqL K H a vs:=by
 obtain ⟨a,vs,e,⟨_,h1,_⟩ | ⟨_,h1,_⟩⟩:=h
 ·exact ⟨a,vs,e,h1.sq⟩
 ·exact ⟨a,vs,e,SqL.of h1⟩
theorem Ow.ownL {ts:List PyData} {F:AS} (hd:d≠0) (h:Ow K O H (.list ts) d v F):∃ a vs,v=.ref a∧H a=some (.lst vs)∧F a∧∃ F':AS,(∀ b,F' b→F b∧b≠a)∧Ows K O H ts (dn d) vs F':=by
 obtain ⟨a,vs,e,⟨h0,_⟩ | ⟨_,h1,h2,h3⟩⟩:=h
 ·exact absurd h0 hd
 ·exact ⟨a,vs,e,h1,h2,h3⟩
theorem Ows.past {ts:List PyData} {vs:List V} {F:AS} {l:Addr} {o:HO} (ho:∀ a,O' a→O a) (hl:O l) (hf:∀ b,F b→b≠l) (h:Ows K O H ts d vs F):Ows K O' (upd H l o) ts d vs F :=
 Ows.mv (G:=F) ⟨fun a u q z=>by
  rw [bj]
  ·exact q
  ·intro za
   subst za
   rcases z with z | z
   ·exact z hl
   ·exact hf a z rfl,fun a z=>.inl (ho a z)⟩ ts (fun _ z=>z) h
theorem Ow.past {F:AS} {l:Addr} {o:HO} (ho:∀ a,O' a→O a) (hl:O l) (hf:∀ b,F b→b≠l) (h:Ow K O H t d v F):Ow K O' (upd H l o) t d v F :=
 Ow.mv (G:=F) ⟨fun a u q z=>by
  rw [bj]
  ·exact q
  ·intro za
   subst za
   rcases z with z | z
   ·exact z hl
   ·exact hf a z rfl,fun a z=>.inl (ho a z)⟩ t (fun _ z=>z) h
def gg (i:Nat) (f:ME):ME:=fun en=>match (en[i]?).join with
 | some (.list _)=>(f en).bind fun r=>match (r.2[i]?).join with
  | some (.list ts)=>if ts.length < sizeLine then some (.none,r.2.set i (some (.list (ts++[r.1])))) else none
  | _=>none
 | _=>none
theorem JA {c:Nat} (hd:ds1[i]?=some d) (hz:d≠0) (hc:dn d=c) (h:tF K false ds ds1 3 (gg i f) σ H Q):tBM K "list" sA (mx i) (lM (tF K p ds ds1 c f) s0) σ H Q:=by
 obtain ⟨Ox,en,R,t,en',e,hf,k⟩:=h
 unfold gg at hf
 split at hf
 case h_2=>cases hf
 next ts0 h0 =>
 obtain ⟨⟨t1,en1⟩,h1,hf⟩:=Option.bind_eq_some_iff.mp hf
 dsimp only at hf
 split at hf
 case h_2=>cases hf
 next ts h2 =>
 by_cases hlen:ts.length < sizeLine
 case neg=>rw [if_neg hlen] at hf; cases hf
 rw [if_pos hlen] at hf
 cases hf
 obtain ⟨v,d0,a1,_,a3⟩:=e.at_ i _ (fj h0)
 obtain ⟨l0,vs0,e0,sq⟩:=a3.sqL
 refine ⟨v,a1,?_,Ox,en,R,t1,en1,e,h1,fun x H1 R1 F P o=>?_⟩
 ·rw [e0]; exact .inl ⟨rfl,vs0,sq⟩
 obtain ⟨v',d',b1,b2,b3⟩:=P.env.at_ i _ (fj h2)
 rw [a1] at b1
 cases b1
 rw [hd] at b2
 cases b2
 obtain ⟨l,vs,el,hl,hr,F',hf',ow⟩:=b3.ownL hz
 refine ⟨l,vs,x,el,rfl,hl,by rw [ow.len]; exact hlen,?_⟩
 have hi:i < en1.length:=(List.getElem?_eq_some_iff.mp (fj h2)).1
 have Fn:∀ a,F a→a≠l:=fun a z z2=>by
  subst z2
  exact P.env.dx i a hr (.inl z)
 have sub:=vL (i:=i) (R1:=R1) (Ox:=Ox) (G:=fun a=>R1 i a∨F a) (F':=NoA) (F:=F) (fun _ z=>z) (fun _ z=>z.elim)
 have Ol:Own R1 (U F Ox) l:=.inl ⟨i,hr⟩
 refine k .non (upd H1 l (.lst (vs++[x]))) _ NoA (P.slot (G:=fun a=>R1 i a∨F a) hr hi a1 hd (fun _ z=>z) (fun _ z=>z.elim) (fun _ _ z=>z) ?_) rfl
 refine ⟨l,vs++[x],el,.inr ⟨hz,bC,.inl hr,U F' F,fun b z=>?_,?_⟩⟩
 ·rcases z with z | z
  ·exact ⟨.inl (hf' b z).1,(hf' b z).2⟩
  ·exact ⟨.inr z,Fn b z⟩
 ·refine Ows.snoc (Ows.past sub Ol (fun b z=>(hf' b z).2) ow) ?_ fun b z1 z2=>P.env.dx i b (hf' b z1).1 (.inl z2)
  rw [hc]
  exact Ow.past sub Ol Fn o
theorem Ows.out:∀ {ts:List PyData} {vs:List V} {F:AS} {k:Nat} {t:PyData},Ows K O H ts d vs F→ts[k]?=some t →
  ∃ v,∃ F1 F2:AS,vs[k]?=some v∧(∀ b,F1 b→F b)∧(∀ b,F2 b→F b)∧(∀ b,F1 b→¬ F2 b)∧Ow K O H t d v F1∧Ows K O H (ts.eraseIdx k) d (vs.eraseIdx k) F2
 | [],_,_,k,t,_,h=>by simp at h
 | u :: ts,_,F,k,t,h,hk=>by
  obtain ⟨v,r,F1,F2,e,s1,s2,s3,h4,h5⟩:=h
  subst e
  cases k with
  | zero =>
   have:u=t:=by simpa using hk
   subst this
   exact ⟨v,F1,F2,rfl,s1,s2,s3,h4,h5⟩
  | succ k =>
   obtain ⟨w,G1,G2,g1,g2,g3,g4,g5,g6⟩:=Ows.out (k:=k) h5 (by simpa using hk)
   refine ⟨w,G1,U F1 G2,by simpa using g1,fun b z=>s2 b (g2 b z),fun b z=>z.elim (s1 b) fun z=>s2 b (g3 b z),fun b z z2=>?_,g5,v,r.eraseIdx k,F1,G2,rfl,fun b=>.inl,fun b=>.inr,fun b z1 z2=>s3 b z1 (g3 b z2),h4,g6⟩
   rcases z2 with z2 | z2
   ·exact s3 b z2 (g2 b z)
   ·exact g4 b z z2
def vD (i:Nat) (f:ME):ME:=fun en=>match (en[i]?).join with
 | some (.list _)=>(f en).bind fun r=>match r.1,(r.2[i]?).join with
  | .int n,some (.list ts)=>if -(2 ^ 63)≤n∧n < 2 ^ 63 then (seqIndex? n ts.length).bind fun k=>(ts[k]?).map fun t=>(t,r.2.set i (some (.list (ts.eraseIdx k)))) else none
  | _,_=>none
 | _=>none
theorem Ows.rev:∀ {ts:List PyData} {vs:List V} {F:AS},Ows K O H ts d vs F→Ows K O H ts.reverse d vs.reverse F
 | [],_,_,h=>by rw [show _=[] from h]; rfl
 | t :: ts,_,F,h=>by
  obtain ⟨v,r,F1,F2,e,s1,s2,s3,h4,h5⟩:=h
  subst e
  rw [List.reverse_cons,List.reverse_cons]
  exact Ows.grow (fun _ z=>z) _ (fun b z=>z.elim (s2 b) (s1 b)) (Ows.snoc h5.rev h4 fun b z1 z2=>s3 b z2 z1)
theorem Ows.setAt:∀ {ts:List PyData} {vs:List V} {F F2:AS} {k:Nat} {t:PyData} {v:V},Ows K O H ts d vs F→Ow K O H t d v F2→(∀ b,F b→¬ F2 b)→Ows K O H (ts.set k t) d (vs.set k v) (U F F2)
 | [],_,_,_,_,_,_,h,_,_=>by rw [show _=[] from h]; rfl
 | u :: ts,_,F,F2,k,t,v,h,h2,hd=>by
  obtain ⟨w,r,G1,G2,e,s1,s2,s3,h4,h5⟩:=h
  subst e
  cases k with
  | zero=>exact ⟨v,r,F2,G2,rfl,fun _ z=>.inr z,fun b z=>.inl (s2 b z),fun b z z2=>hd b (s2 b z2) z,h2,h5⟩
  | succ k =>
   refine ⟨w,r.set k v,G1,U G2 F2,rfl,fun b z=>.inl (s1 b z),fun b z=>z.imp (s2 b) id,fun b z z2=>?_,h4,Ows.setAt h5 h2 fun b z=>hd b (s2 b z)⟩
   rcases z2 with z2 | z2
   ·exact s3 b z z2
   ·exact hd b (s1 b z) z2
def gx (i:Nat) (fk fe:ME):MS:=fun en=>(fe en).bind fun r=>match (r.2[i]?).join with
 | some _=>(fk r.2).bind fun q=>match q.1,(q.2[i]?).join with
  | .int n,some (.list ts)=>(ixN ts.length n).map fun k=>.nx (q.2.set i (some (.list (ts.set k r.1))))
  | _,_=>none
 | none=>none
theorem DS {c:Nat} {fk fe:ME} (hd:ds2[i]?=some d) (hz:d≠0) (hc:dn d=c) (h:tFS K J ds ds2 (gx i fk fe) D σ H) :
  qv (tF K p1 ds ds1 c fe) (HC (mx i) (tF K p2 ds1 ds2 d2 fk) CH) D σ H:=by
 obtain ⟨Ox,en,R,fl,e,hf,k⟩:=h
 unfold gx at hf
 obtain ⟨⟨t1,en1⟩,h1,hf⟩:=Option.bind_eq_some_iff.mp hf
 dsimp only at hf
 split at hf
 case h_2=>cases hf
 next tt h0 =>
 obtain ⟨⟨t2,en2⟩,h2,hf⟩:=Option.bind_eq_some_iff.mp hf
 dsimp only at hf
 split at hf
 case h_2=>cases hf
 next n ts h3 =>
 obtain ⟨kk,h4,hf⟩:=Option.map_eq_some_iff.mp hf
 cases hf
 refine ⟨Ox,en,R,t1,en1,e,h1,fun x H1 R1 F1 P1 o1=>?_⟩
 obtain ⟨v0,d0,a1,_,_⟩:=P1.env.at_ i tt (fj h0)
 refine ⟨v0,a1,?_⟩
 refine ⟨U F1 Ox,en1,R1,.int n,en2,P1.env,h2,fun y H2 R2 F2 P2 o2=>?_⟩
 have P:=P1.trans P2
 have o1':=Ow.over P1.env P2 o1
 obtain ⟨v',d',b1,b2,b3⟩:=P.env.at_ i _ (fj h3)
 rw [a1] at b1
 cases b1
 rw [hd] at b2
 cases b2
 obtain ⟨l,vs,el,hl,hr,F',hf',ow⟩:=b3.ownL hz
 refine ⟨l,vs,n,kk,el,o2,hl,by rw [ow.len]; exact h4,?_⟩
 have hi:i < en2.length:=(List.getElem?_eq_some_iff.mp (fj h3)).1
 have Fn:∀ a,F1 a→a≠l:=fun a z z2=>by
  subst z2
  exact P.env.dx i a hr (.inl (.inl z))
 have gG:∀ a,(fun a=>R2 i a∨F1 a) a→R2 i a∨U F1 F2 a:=fun a z=>z.imp id .inl
 have sub:=vL (i:=i) (R1:=R2) (Ox:=Ox) (G:=fun a=>R2 i a∨F1 a) (F':=NoA) (F:=U F1 F2) gG (fun _ z=>z.elim)
 have Ol:Own R2 (U (U F1 F2) Ox) l:=.inl ⟨i,hr⟩
 have PS:=P.slot (G:=fun a=>R2 i a∨F1 a) (F':=NoA) (o2:=.lst (vs.set kk x)) (t:=.list (ts.set kk t1)) hr hi a1 hd gG (fun _ z=>z.elim) (fun _ _ z=>z) ?_
 ·exact k σ _ _ PS.s
 refine ⟨l,vs.set kk x,el,.inr ⟨hz,bC,.inl hr,U F' F1,fun b z=>?_,?_⟩⟩
 ·rcases z with z | z
  ·exact ⟨.inl (hf' b z).1,(hf' b z).2⟩
  ·exact ⟨.inr z,Fn b z⟩
 ·refine Ows.setAt (Ows.past sub Ol (fun b z=>(hf' b z).2) ow) ?_ fun b z1 z2=>P.env.dx i b (hf' b z1).1 (.inl (.inl z2))
  rw [hc]
  exact Ow.past sub Ol Fn o1'
theorem Ows.get:∀ {ts:List PyData} {vs:List V} {F:AS} {k:Nat} {t:PyData},Ows K O H ts d vs F→ts[k]?=some t→∃ v,vs[k]?=some v∧Ow K O H t d v F
 | [],_,_,k,t,_,h=>by simp at h
 | u :: ts,_,F,k,t,h,hk=>by
  obtain ⟨v,r,F1,F2,e,s1,s2,s3,h4,h5⟩:=h
  subst e
  cases k with
  | zero =>
   have:u=t:=by simpa using hk
   subst this
   exact ⟨v,rfl,Ow.grow (fun _ z=>z) u s1 h4⟩
  | succ k =>
   obtain ⟨w,g1,g2⟩:=Ows.get (k:=k) h5 (by simpa using hk)
   exact ⟨w,by simpa using g1,Ow.grow (fun _ z=>z) t s2 g2⟩
theorem Ows.atI {ts:List PyData} {vs:List V} {F:AS} {n:Int} {t:PyData} (h:Ows K O H ts d vs F) (ht:L2.atI ts n=some t):∃ v,L2.atI vs n=some v∧Ow K O H t d v F:=by
 unfold L2.atI at ht ⊢
 rw [h.len]
 obtain ⟨k,h1,h2⟩:=Option.bind_eq_some_iff.mp ht
 obtain ⟨v,g1,g2⟩:=h.get h2
 exact ⟨v,by rw [h1]; exact g1,g2⟩
def dN (i:Nat) (f:ME):ME:=fun en=>(en[i]?).join.bind fun _=>(f en).bind fun r=>match r.1,(r.2[i]?).join with
 | .int n,some (.list ts)=>(atI ts n).map fun t=>(t,r.2)
 | _,_=>none
theorem Jy (hd:ds1[i]?=some 1) (h:tF K p ds ds1 0 (dN i f) σ H Q):tOp (tw K) (mx i) (tF K p ds ds1 d1 f) σ H Q:=by
 obtain ⟨Ox,en,R,t,en',e,hf,k⟩:=h
 unfold dN at hf
 obtain ⟨t0,h0,hf⟩:=Option.bind_eq_some_iff.mp hf
 obtain ⟨⟨t1,en1⟩,h1,hf⟩:=Option.bind_eq_some_iff.mp hf
 dsimp only at hf
 split at hf
 case h_2=>cases hf
 next n ts h2 =>
 obtain ⟨t',h3,hf⟩:=Option.map_eq_some_iff.mp hf
 cases hf
 obtain ⟨v,d0,a1,_,a3⟩:=e.at_ i _ (fj h0)
 refine ⟨v,a1,Ox,en,R,.int n,_,e,h1,fun x H1 R1 F P o=>?_⟩
 obtain ⟨v',d',b1,b2,b3⟩:=P.env.at_ i _ (fj h2)
 rw [a1] at b1
 cases b1
 rw [hd] at b2
 cases b2
 obtain ⟨l,vs,el,hl,hr,F',hf',ow⟩:=b3.ownL (by decide)
 obtain ⟨w,g1,g2⟩:=ow.atI h3
 refine ⟨l,vs,n,w,el,o,SqL.of hl,g1,k w H1 R1 NoA (P.less fun _ z=>z.elim) ?_⟩
 exact Ow.any0 _ (Ow.grow (fun a z=>z.imp id fun z=>z.elim (fun z=>False.elim z) Or.inr) _ (fun _ z=>z) g2)
end
end L2
namespace L2
open PySem PySem.Spec PyProof.Rows
theorem PE.imp {X:Cx} {e:Expr} {t t':TE} (h:PE X e t) (hi:∀ σ H Q,t' σ H Q→t σ H Q):PE X e t':=fun pins s σ H Q I hw=>h pins s σ H Q I (hi _ _ _ hw)
theorem PT.imp {X:Cx} {e:Expr} {t t':TT} (h:PT X e t) (hi:∀ σ H Q,t' σ H Q→t σ H Q):PT X e t':=fun pins s σ H Q I hw=>h pins s σ H Q I (hi _ _ _ hw)
theorem PW.imp {X:Cx} {e:Expr} {t t':TT} (h:PW X e t) (hi:∀ σ H Q,t' σ H Q→t σ H Q):PW X e t':=fun wh pins s σ H Q I hw=>h wh pins s σ H Q I (hi _ _ _ hw)
theorem PA.imp {X:Cx} {e:List Expr} {t t':TA} (h:PA X e t) (hi:∀ σ H Q,t' σ H Q→t σ H Q):PA X e t':=fun pos pins s σ H Q I hw=>h pos pins s σ H Q I (hi _ _ _ hw)
theorem PS.imp {X:Cx} {e:Stmt} {t t':TS} (h:PS X e t) (hi:∀ D σ H,t' D σ H→t D σ H):PS X e t':=fun pins s σ H D I hw=>h pins s σ H D I (hi _ _ _ hw)
theorem PSs.imp {X:Cx} {e:List Stmt} {t t':TS} (h:PSs X e t) (hi:∀ D σ H,t' D σ H→t D σ H):PSs X e t':=fun pins s σ H D I hw=>h pins s σ H D I (hi _ _ _ hw)
theorem PG.imp {X:Cx} {e:Expr} {t t':TG} (h:PG X e t) (hi:∀ v σ H Q,t' v σ H Q→t v σ H Q):PG X e t':=fun pins s σ H v u Q I r hw=>h pins s σ H v u Q I r (hi _ _ _ _ hw)
theorem PI.imp {X:Cx} {tg e:Expr} {t t':TI} (h:PI X tg e t) (hi:∀ σ H R,t' σ H R→t σ H R):PI X tg e t':=fun pins s σ H R I hw=>h pins s σ H R I (hi _ _ _ hw)
theorem PTs.imp {X:Cx} {e:List Expr} {t t':TT} (h:PTs X e t) (hi:∀ σ H Q,t' σ H Q→t σ H Q):PTs X e t':=fun pins s σ H Q I hw=>h pins s σ H Q I (hi _ _ _ hw)
def aZ:Expr→Bool
 | .Starred _ _=>false
 | _=>true
theorem bH {e:Expr} {es:List Expr} {env:Env} (h:aZ e=true):starEach (e :: es) env=(false,eval e env) :: starEach es env:=by
 cases e <;> first | rfl | cases h
theorem fc {pos:Pos} {env:Env}:∀ {es:List Expr},es.all aZ=true→(backTo pos (starEach es env)).any (·.1)=false
 | [],_=>rfl
 | e :: es,h=>by
  rw [List.all_cons,Bool.and_eq_true] at h
  rw [bH h.1]
  show (false || (backTo pos (starEach es env)).any (·.1))=false
  rw [fc h.2]
  rfl
section
variable {X:Cx} {K:PySem.W.Frag} {p p1 p2 q:Bool} {ds ds0 ds1 ds2 ds' dsi:List Nat} {d d' d1 d2:Nat} {a b c e:Expr} {es:List Expr} {f f1 f2:ME} {m c1 c2:MT} {fa:MA} {sh:Sh} {pos:Pos} {i:Nat} {x:Str}
theorem HU {x:Str} (hN:X.N[i]?=some x) (hv:Vis X.env.scope x) (h0:ds[i]?=some 0) (hd:(x == ("__debug__" : Str))=false) (hcd:(x == ("__classdict__" : Str))=false):PE X (.Name x pos) (tF K p ds ds 0 (ah i)) :=
 (kZ hN hv hd hcd).imp fun _ _ _ h=>Jr h0 (kf (fun _=>rfl) h)
theorem Ij {n:Int} {j}:PE X (.Constant (.int n) j pos) (tF K p ds ds 3 (eC (.int n))):=pe_int.imp fun _ _ _ h=>f_c (t:=.int n) (fun _ _ _ _=>rfl) (kf (fun _=>rfl) h)
theorem Jq {n:Bool} {j}:PE X (.Constant (.bool n) j pos) (tF K p ds ds 3 (eC (.bool n))):=pe_bl.imp fun _ _ _ h=>f_c (t:=.bool n) (fun _ _ _ _=>rfl) (kf (fun _=>rfl) h)
theorem Ia {j}:PE X (.Constant .none j pos) (tF K p ds ds 3 (eC .none)):=pe_non.imp fun _ _ _ h=>f_c (t:=.none) (fun _ _ _ _=>rfl) (kf (fun _=>rfl) h)
theorem HX {n:Str} {j}:PE X (.Constant (.str n) j pos) (tF K p ds ds 3 (eC (.str n))):=pe_str.imp fun _ _ _ h=>f_c (t:=.str n) (fun _ _ _ _=>rfl) (kf (fun _=>rfl) h)
theorem xc {x:Str} {n:Int} {t:Tok} (hg:Gl X x) (hm:X.mg x=some (.int n t)) (hd:(x == ("__debug__" : Str))=false):PE X (.Name x pos) (tF K p ds ds 3 (eC (.int n))) :=
 (sC (v:=.int n) hg hm ⟨t,rfl⟩ hd).imp fun _ _ _ h=>f_c (t:=.int n) (fun _ _ _ _=>rfl) (kf (fun _=>rfl) h)
theorem HW (h:PE X e (tF K p ds ds' d f)) (hd:d'≤d):PE X e (tF K p ds ds' d' f):=h.imp fun _ _ _=>Ju hd
theorem Jo (h:PE X e (tF K p ds0 ds' d f)) (hd:leD ds0 ds=true):PE X e (tF K false ds ds' d f):=h.imp fun _ _ _=>JX hd
theorem Im (h:PE X e (tF K true ds0 ds0 3 f)) (hd:leD ds0 ds=true):PE X e (tF K p ds ds 3 f):=h.imp fun _ _ _ h=>Jz hd (kf (fun _=>rfl) h)
theorem Jl {op:Operator} {g:D→D→Option D} (ho:OpR X (binaryOp op) (rF2 K g d)) (ha:PE X a (tF K p ds ds1 d1 f1)) (hb:PE X b (tF K p ds1 ds2 d2 f2)):PE X (.BinOp a op b pos) (tF K p ds ds2 d (e2 g f1 f2)) :=
 (IT ho ha hb).imp fun _ _ _ h=>lY (by rw [Bool.and_self]; exact h)
theorem Jk {op:UnaryOp} {g:D→Option D} (ho:UnR X (unaryOp op) (rF1 K g d)) (ha:PE X a (tF K p ds ds1 d1 f1)):PE X (.UnaryOp op a pos) (tF K p ds ds1 d (e1 g f1)) :=
 (IS ho ha).imp fun _ _ _=>Jw
theorem Il {op:CmpOp} {g:D→D→Option D} (ho:OpR X (compareOp op) (rF2 K g d)) (ha:PE X a (tF K p ds ds1 d1 f1)) (hb:PE X b (tF K p ds1 ds2 d2 f2)) (hm:behindInMarks op b=false):PE X (.Compare a [op] [b] pos) (tF K p ds ds2 d (e2 g f1 f2)) :=
 (Dt ho ha hb hm).imp fun _ _ _ h=>lY (by rw [Bool.and_self]; exact h)
theorem DM {op:CmpOp} {g:D→D→Option D} (ho:OpR X (compareOp op) (rF2 K g d)) (ha:PE X a (tF K p ds ds1 d1 f1)) (hb:PE X b (tF K p ds1 ds2 d2 f2)) (hm:behindInMarks op b=false):PT X (.Compare a [op] [b] pos) (tFT K p ds ds2 (tV (e2 g f1 f2))) :=
 (Dm ho ha hb hm).imp fun σ H Q h=>by
  obtain ⟨Ox,en,R,t,en',e,hf,k⟩:=rg (d:=d) h
  exact lY (by rw [Bool.and_self]; exact ⟨Ox,en,R,t,en',e,hf,k⟩)
theorem DK (h:PE X e (tF K p ds ds' d f)) (he:∀ whole,isTrue e X.env whole=(do let v ← whole; standAt e.pos; holding [v] (truthy v))):PT X e (tFT K p ds ds' (tV f)):=(GO h he).imp fun _ _ _=>rg
theorem DH (ha:PT X a (tFT K p ds ds1 c1)):PW X (.BoolOp .And [a] pos) (tFT K p ds ds1 c1):=Dk ha
theorem HD (ha:PT X a (tFT K p ds ds1 c1)):PW X (.BoolOp .Or [a] pos) (tFT K p ds ds1 c1):=GM ha
theorem HE {rest:List Expr} (ha:PT X a (tFT K p ds ds1 c1)) (hb:PW X (.BoolOp .And (b :: rest) pos) (tFT K p ds1 ds1 c2)):PW X (.BoolOp .And (a :: b :: rest) pos) (tFT K p ds ds1 (iw c1 c2)):=(GN ha hb).imp fun _ _ _ h=>HH (by rw [Bool.and_self]; exact h)
theorem Je {rest:List Expr} (ha:PT X a (tFT K p ds ds1 c1)) (hb:PW X (.BoolOp .Or (b :: rest) pos) (tFT K p ds1 ds1 c2)):PW X (.BoolOp .Or (a :: b :: rest) pos) (tFT K p ds ds1 (bOr c1 c2)):=(IR ha hb).imp fun _ _ _ h=>Jf (by rw [Bool.and_self]; exact h)
theorem DL (ha:PT X a (tFT K p ds ds1 c1)):PT X (.UnaryOp .Not a pos) (tFT K p ds ds1 (eQ c1)):=(GP ha).imp fun _ _ _=>HF
theorem DN (h:PT X e (tFT K true ds0 ds0 c1)) (hd:leD ds0 ds=true):PT X e (tFT K p ds ds c1):=h.imp fun _ _ _ ⟨Ox,en,R,t,en',e,hf,k⟩=>HG hd ⟨Ox,en,R,t,en',e,hf,fun H' R' P=>k H' R' ⟨P.env,P.fx,P.keep,P.own,P.dom,fun _=>P.pure rfl⟩⟩
theorem HZ {op} (h:PE X a (tF K p ds ds1 d f)):PE X (.BoolOp op [a] pos) (tF K p ds ds1 d f):=G3 h
theorem Ip {rest:List Expr} (ha:PE X a (tF K p ds ds1 d1 f1)) (hb:PE X (.BoolOp .And (b :: rest) pos) (tF K p ds1 ds1 d f2)):PE X (.BoolOp .And (a :: b :: rest) pos) (tF K p ds ds1 d (ki f1 f2)):=(G6 ha hb).imp fun _ _ _ h=>JB (by rw [Bool.and_self]; exact h)
theorem Ec:PA X [] (tFA K p ds ds [] ak):=pa_nil.imp fun _ _ _ ⟨Ox,en,R,t,en',e,hf,k⟩=>vt ⟨Ox,en,R,t,en',e,hf,fun vs H' R' F P=>k vs H' R' F ⟨P.env,P.fx,P.keep,P.own,P.dom,fun _=>P.pure rfl⟩⟩
theorem xi (ha:PE X e (tF K p ds ds1 d f)) (hr:PA X es (tFA K p ds1 ds2 sh fa)) (hs:aZ e=true):PA X (e :: es) (tFA K p ds ds2 (.inl d :: sh) (ad f fa)):=(cV ha hr (bH hs)).imp fun _ _ _ h=>oO (by rw [Bool.and_self]; exact h)
theorem xh {x:Str} (hN:X.N[i]?=some x) (hv:Vis X.env.scope x) (hr:PA X es (tFA K p ds ds2 sh fa)) (hd:(x == ("__debug__" : Str))=false) (hcd:(x == ("__classdict__" : Str))=false) :
  PA X (.Name x pos :: es) (tFA K p ds ds2 (.inr i :: sh) (bf i fa)):=(cV (kZ hN hv hd hcd) hr (bH rfl)).imp fun _ _ _=>Eb
theorem Ib {c:Nat} (h:PA X es (tFA K p ds ds1 sh fa)) (hs:dq c sh=true) (hd:dn d=c) (hz:d≠0):PE X (.List es pos) (tF K p ds ds1 d (bO fa)):=(G4 h).imp fun _ _ _=>Jx hs hd hz
theorem HV {c:Nat} {x1} (h:PA X es (tFA K p ds ds1 sh fa)) (hs:dq c sh=true) (hd:dn d=c):PE X (.Tuple es x1 pos) (tF K p ds ds1 d (bw fa)):=(GY h).imp fun _ _ _=>Js hs hd
theorem xg {id:String} {x:Str} {px:Pos} {g:List D→Option D} (hc:CallR X (.builtin id) (rFn K g d)) (hg:Gl X x) (hm:X.mg x=none) (hv:bootBuiltins x=some (.builtin id)) (ha:PA X (e :: es) (tFA K p ds ds1 sh fa)) (hsh:dq 0 sh=true) (hn:x≠"__name__") (hdb:(x == ("__debug__" : Str))=false)
  (he:aZ e=true) (hpl:es.all aZ=true):PE X (.Call (.Name x px) (e :: es) [] pos) (tF K p ds ds1 d (eN g fa)) :=
 (iT hc hg hm hv ha hn hdb (bH he) (fc hpl)).imp fun _ _ _=>vv hsh
theorem vr {T:String} {x:Str} {px:Pos} {g:List D→Option D} (hc:CallR X (.type T) (rFn K g d)) (hg:Gl X x) (hm:X.mg x=none) (hv:bootBuiltins x=some (.type T)) (ha:PA X (e :: es) (tFA K p ds ds1 sh fa)) (hsh:dq 0 sh=true) (hn:x≠"__name__") (hdb:(x == ("__debug__" : Str))=false)
  (he:aZ e=true) (hpl:es.all aZ=true):PE X (.Call (.Name x px) (e :: es) [] pos) (tF K p ds ds1 d (eN g fa)) :=
 (pk hc hg hm hv ha hn hdb (bH he) (fc hpl)).imp fun _ _ _=>vv hsh
theorem Jp {k:Nat} {x:Str} {ps:List Str} {px:Pos} {dps:List Nat} {dr:Nat} {F:List D→Option (D × En)} (G:Kn X.prog X.w X.K X.mg X.base k x ps (spF K dps dr F)) (hr:Room k X.A) (hg:Gl X x) (ha:PA X (e :: es) (tFA K p ds ds1 sh fa)) (hns:iV sh=true) (hcd:fJ ds1 sh dps=true) (hdb:(x == ("__debug__" : Str))=false)
  (he:aZ e=true) (hpl:es.all aZ=true) :
  PE X (.Call (.Name x px) (e :: es) [] pos) (tF K p ds ds1 dr (ay F fa)):=(CM G hr hg ha hdb (bH he) (fc hpl)).imp fun _ _ _ h=>xj hcd (by rw [hns,Bool.and_true]; exact h)
theorem Ik {k:Nat} {x:Str} {ps:List Str} {px:Pos} {dps:List Nat} {dr:Nat} {F:List D→Option (D × En)} (G:Kn X.prog X.w X.K X.mg X.base k x ps (spF K dps dr F)) (hr:Room k X.A) (hg:Gl X x) (ha:PA X (e :: es) (tFA K false ds ds1 sh fa)) (hcd:fJ ds1 sh dps=true) (hdb:(x == ("__debug__" : Str))=false)
  (he:aZ e=true) (hpl:es.all aZ=true) :
  PE X (.Call (.Name x px) (e :: es) [] pos) (tF K false ds ds1 dr (ay F fa)):=(CM G hr hg ha hdb (bH he) (fc hpl)).imp fun _ _ _ h=>xj hcd h
theorem Jn {g:D→D→Option D} (ho:IxR X (rF2 K g d)) (ha:PE X a (tF K p ds ds1 d1 f1)) (hb:PE X b (tF K p ds1 ds2 d2 f2)) (hs:hU b):PE X (.Subscript a b pos) (tF K p ds ds2 d (e2 g f1 f2)) :=
 (tE ho ha hb hs).imp fun _ _ _ h=>lY (by rw [Bool.and_self]; exact h)
theorem Ie {x:Str} {px:Pos} (hK:X.K=K) (hN:X.N[i]?=some x) (hv:Vis X.env.scope x) (h1:ds1[i]?=some 1) (hb:PE X b (tF K p ds ds1 d1 f)) (hs:hU b) (hd:(x == ("__debug__" : Str))=false) (hcd:(x == ("__classdict__" : Str))=false) :
  PE X (.Subscript (.Name x px) b pos) (tF K p ds ds1 0 (dN i f)):=(tE (JU hK) (kZ hN hv hd hcd) hb hs).imp fun _ _ _=>Jy h1
theorem Io {c:Nat} {x:Str} {px apos cpos:Pos} (hK:X.K=K) (hN:X.N[i]?=some x) (hv:Vis X.env.scope x) (h1:ds1[i]?=some d) (he:PE X e (tF K false ds ds1 c f)) (hz:d≠0) (hc:dn d=c)
  (hd:(x == ("__debug__" : Str))=false) (hcd:(x == ("__classdict__" : Str))=false)
  (hbase:attributeBase (.Name x px) "append" X.env (eval (.Name x px) X.env)=eval (.Name x px) X.env)
  (hfew:((backTo cpos (starEach [e] X.env)).all (fun x=>!x.1) && (backToKw cpos (keywordEach [] X.env)).all (fun x=>x.1.isSome) && decide (([e]:List Expr).length+([]:List Keyword).length+(if ([]:List Keyword).isEmpty then 0 else 1) < 30))=true)
  (hline:(apos.endLine == cpos.line)=true) (hs:starEach [e] X.env=[(false,eval e X.env)]) (hplain:(backTo cpos (starEach [] X.env)).any (·.1)=false) :
  PE X (.Call (.Attribute (.Name x px) "append" apos) [e] [] cpos) (tF K false ds ds1 3 (gg i f)):=by
 subst hK
 exact (CN PySem.F.plainAttrs_list PySem.F.slot_list_append PySem.F.type_list_append pq (kZ hN hv hd hcd) (cV he pa_nil hs) hbase hfew hline hs hplain).imp fun _ _ _=>JA h1 hz hc
def cY:MT:=fun en=>some (true,en)
theorem DJ:PTs X [] (tFT K p ds ds cY):=pts_nil.imp fun σ H Q ⟨Ox,en,R,b,en',e,hf,k⟩=>by
 cases hf
 exact k H R (Post.refl e)
theorem DI (hc:PT X c (tFT K p ds ds1 c1)):PTs X [c] (tFT K p ds ds1 c1):=Dl hc
theorem Jm {elt tg iter:Expr} {ifs:List Expr} {scope:Scope} {ns:List Str} {js:List (Option Nat)} {fi:MI} {g:MG} {lk:List Nat} {cd:Nat} (B:BlkOkC X scope ns js) (hc:X.calm=true) (hi:PI X tg iter (tFI K p ds ds1 fi))
  (hg:∀ C cl s₀ H₀ fp,PG (bv X scope ns C cl s₀ H₀ fp) tg (tFG K lk dsi dsi g)) (ht:∀ C cl s₀ H₀ fp,PTs (bv X scope ns C cl s₀ H₀ fp) ifs (tFT K true dsi dsi c1)) (he:∀ C cl s₀ H₀ fp,PE (bv X scope ns C cl s₀ H₀ fp) elt (tF K true dsi dsi cd f))
  (hcap:jt ds1 js dsi=true) (hd:dn d=cd) (hz:d≠0) (hlk:lk=jr js 0)
  (hs:∀ x,foldedSetIterable iter X.env x=pure x):PE X (.ListComp elt [⟨tg,iter,ifs,0⟩] scope pos) (tF K p ds ds1 d (eLC true fi g c1 f js)) :=
 (G5 B hc hi hg ht he hs).imp fun _ _ _ h=>Iu hcap hd hz hlk (by rw [Bool.and_true]; exact h)
end
end L2
namespace L2
open PySem PySem.Spec PyProof.Rows
def Kr (f:ME) (g:MG):MS:=fun en=>(f en).bind fun r=>(g r.1 r.2).map .nx
section
variable {K:PySem.W.Frag} {p p1 p2 q:Bool} {J:Jd} {ds ds0 ds1 ds2 ds' dsi dps:List Nat} {d d' d1 d2 dr:Nat} {f f1 f2 fk fe:ME} {c1 c2:MT} {fa:MA} {sh:Sh} {i:Nat} {m m1 m2:MS} {g:MG} {lk:List Nat} {σ:St} {H:Hp} {Dn:Ends}
end
section
variable {X:Cx} {K:PySem.W.Frag} {p p1 p2 q:Bool} {J:Jd} {ds ds0 ds1 ds2 ds' dsi dps:List Nat} {d d' d1 d2 dr:Nat} {a b c e tg iter:Expr} {es:List Expr} {st:Stmt} {rest body bodyB:List Stmt} {f f1 f2 fk fe:ME} {c1 c2:MT} {fa:MA} {sh:Sh} {pos px:Pos} {i:Nat} {x:Str} {m m1 m2:MS} {g:MG} {gs:List D→En→Option En} {fi:MI} {lk:List Nat}
theorem DR:PSs X [] (tFS K J ds ds br):=pss_nil.imp fun _ _ _=>HK
theorem wS (h1:PS X st (tFS K J ds ds1 m1)) (h2:PSs X rest (tFS K J ds1 ds2 m2)):PSs X (st :: rest) (tFS K J ds ds2 (au m1 m2)):=(qD h1 h2).imp fun _ _ _=>HI
theorem DQ (h1:PS X st (tFS K J ds ds1 m1)):PSs X [st] (tFS K J ds ds1 m1):=Do h1
theorem DP (h:PSs X rest (tFS K J ds ds2 m)) (hd:leD ds1 ds2=true):PSs X rest (tFS K J ds ds1 m):=h.imp fun _ _ _=>va hd
theorem DY (he:PE X e (tF K false ds ds1 d f)) (hs:swapsWith e none pos.line X.env=pure false):PS X (.Expr e pos) (tFS K J ds ds1 (dF f)):=(Dp he hs).imp fun _ _ _=>HM
theorem DW (he:PE X e (tF K false ds ds1 J.dr f)) (hd:leD J.dsr ds1=true):PS X (.Return (some e) pos) (tFS K J ds ds' (aQ f)):=(GR he).imp fun _ _ _=>HJ hd
theorem vf:PS X st (tFS K J ds ds' iS):=ps_never.imp fun _ _ _=>wU
theorem HN (hc:PT X c (tFT K false ds ds1 c1)) (ha:PSs X body (tFS K J ds1 ds2 m1)) (hb:PSs X bodyB (tFS K J ds1 ds2 m2)):PS X (.If c body bodyB pos) (tFS K J ds ds2 (sIf c1 m1 m2)):=(CL hc ha hb).imp fun _ _ _=>Jg
theorem DU {x:Str} {pos':Pos} (hN:X.N.Nodup) (hi:X.N[i]?=some x) (hx:Loc X.env.scope x) (he:PE X e (tF K false ds ds1 d f)) (hds:ds1.set i d=ds') (hl:i < ds1.length) (hk:i ∉ J.lk)
  (hs:swapsWith e (some (.Name x pos')) pos.line X.env=pure false) (hf:X.fn x=true∨X.env.scope.names.lookup x=some .local) :
  PS X (.Assign [.Name x pos'] e pos) (tFS K J ds ds' (aC i f)):=by
 subst hds
 exact (GQ hN hi hx he hs hf).imp fun _ _ _=>vb hl hk
theorem ve {x:Str} {spos pos':Pos} {elt:Expr} {ifs:List Expr} {scope:Scope} {ns:List Str} {js:List (Option Nat)} {cd:Nat} (hN:X.N.Nodup) (hi':X.N[i]?=some x) (hx:X.env.scope.names.lookup x=some .local) (B:BlkOkC X scope ns js) (hc:X.calm=true) (hi:PI X tg iter (tFI K false ds ds1 fi))
  (hg:∀ C cl s₀ H₀ fp,PG (bv X scope ns C cl s₀ H₀ fp) tg (tFG K lk dsi dsi g)) (ht:∀ C cl s₀ H₀ fp,PTs (bv X scope ns C cl s₀ H₀ fp) ifs (tFT K q dsi dsi c1)) (he:∀ C cl s₀ H₀ fp,PE (bv X scope ns C cl s₀ H₀ fp) elt (tF K q dsi dsi cd f))
  (hds:ds1.set i d=ds') (hcap:jt ds1 js dsi=true) (hd:dn d=cd) (hz:d≠0) (hlk:lk=jr js 0) (hl:i < ds1.length) (hk:i ∉ J.lk)
  (hsw:swapsWith (.ListComp elt [⟨tg,iter,ifs,0⟩] scope pos) (some (.Name x pos')) spos.line X.env=pure true)
  (hs:∀ x,foldedSetIterable iter X.env x=pure x):PS X (.Assign [.Name x pos'] (.ListComp elt [⟨tg,iter,ifs,0⟩] scope pos) spos) (tFS K J ds ds' (aC i (eLC q fi g c1 f js))):=by
 subst hds
 exact (uG hN hi' hx B hc hi hg ht he hsw hs).imp fun D σ H h=>Iu (p:=false) hcap hd hz hlk (vb (p:=false && q) hl hk h)
theorem wW {c:Nat} {x:Str} {spos:Pos} {k:Expr} (hN:X.N[i]?=some x) (hv:Vis X.env.scope x) (he:PE X e (tF K false ds ds1 c fe)) (hk:PE X k (tF K false ds1 ds2 d2 fk)) (h1:ds2[i]?=some d) (hz:d≠0) (hc:dn d=c)
  (hdb:(x == ("__debug__" : Str))=false) (hcd:(x == ("__classdict__" : Str))=false)
  (ha:∀ v,assign (.Subscript (.Name x px) k spos) X.env v=(do
   let ov ← holding [v] (eval (.Name x px) X.env)
   let iv ← holding [v,ov] (eval k X.env)
   standAt spos
   holding [v,ov,iv] (setItem ov iv v)
   release [v,ov,iv] []))
  (hs:swapsWithSole [.Subscript (.Name x px) k spos] e pos.line X.env=pure false) (hw:swappedStores [.Subscript (.Name x px) k spos] e X.env=pure none)
  (h2:(assignEach [.Subscript (.Name x px) k spos] X.env).map (·.2)=[assign (.Subscript (.Name x px) k spos) X.env]) :
  PS X (.Assign [.Subscript (.Name x px) k spos] e pos) (tFS K J ds ds2 (gx i fk fe)) :=
 (GT he (GV (kZ hN hv hdb hcd) hk v6 ha) hs hw h2).imp fun _ _ _=>DS h1 hz hc
theorem wZ {x:Str} (hN:X.N.Nodup) (hi:X.N[i]?=some x) (hx:Loc X.env.scope x) (hds:ds.set i 0=ds') (hl:i < ds.length) (hk:i ∉ lk) (hf:X.fn x=true∨X.env.scope.names.lookup x=some .local) :
  PG X (.Name x pos) (tFG K lk ds ds' (gN i)):=by
 subst hds
 exact (Dr hN hi hx hf).imp fun _ _ _ _=>D6 hl hk
theorem DX (hc:X.calm=true) (hi:PI X tg iter (tFI K false ds ds1 fi)) (hg:PG X tg (tFG K J.lk ds1 ds2 g)) (hb:PSs X body (tFS K { J with dsl:=ds1 } ds2 ds1 m)) (hp:PassesOwn (model X.prog X.w) X.A X.env X.xe)
  (hs:∀ x,foldedSetIterable iter X.env x=pure x):PS X (.For tg iter body [] pos) (tFS K J ds ds1 (eP fi g m)):=(GS hp hc hi hg hb hs).imp fun _ _ _=>HL
theorem vc (hc:PT X c (tFT K false ds ds1 c1)) (hb:PSs X body (tFS K { J with dsl:=ds } ds1 ds m)) (hp:PassesOwn (model X.prog X.w) X.A X.env X.xe):PS X (.While c body [] pos) (tFS K J ds ds1 (du c1 m)):=(v9 hp hc hb).imp fun _ _ _=>wT
end
def CF:D→Option (List D)
 | .list ts=>some ts
 | .tuple ts=>some ts
 | .str z=>some ((li z).map fun c=>.str (mk1 c))
 | _=>none
def cQ (f:ME):MI:=fun en=>(f en).bind fun r=>(CF r.1).map fun ts=>(ts,r.2)
section
variable {K:PySem.W.Frag} {O O1:AS} {H0 H:Hp} {ts:List D} {vs:List V} {a:Addr} {F:AS}
theorem lL {O O1:AS} (h1:∀ a o,H0 a=some o→¬ O a→H a=some o) (h2:∀ a,O1 a→O a∨H0 a=none):Mv O O1 NoA H0 H:=⟨fun a o q z=>z.elim (h1 a o q) fun z=>z.elim,h2⟩
theorem uu (h:FzL K O H0 a vs) (ho:Ows K O H0 ts 0 vs NoA):rF K O H0 (Itl K a) ts:=fun i H O1 h1 h2 h3=>by
 have sq:=(h.mv (lL h1 h2)).sq
 refine ⟨fun t ht=>?_,fun hl=>⟨vs,sq,by rw [ho.len]; omega⟩⟩
 obtain ⟨v,hv,ov⟩:=ho.get ht
 refine ⟨⟨vs,v,sq,hv⟩,fun x H1 ⟨e,y⟩=>?_⟩
 subst e
 have e2:=y vs sq
 rw [hv] at e2
 cases e2
 exact ⟨fun _ _ q=>q,Ow.mv (lL h1 h2) t (fun _ z=>z) ov⟩
theorem vR (h:FzT K O H0 a vs) (ho:Ows K O H0 ts 0 vs NoA):rF K O H0 (Itt K a) ts:=fun i H O1 h1 h2 h3=>by
 have sq:=(h.mv (lL h1 h2)).sq
 refine ⟨fun t ht=>?_,fun hl=>⟨vs,sq,by rw [ho.len]; omega⟩⟩
 obtain ⟨v,hv,ov⟩:=ho.get ht
 refine ⟨⟨vs,v,sq,hv⟩,fun x H1 ⟨e,y⟩=>?_⟩
 subst e
 have e2:=y vs sq
 rw [hv] at e2
 cases e2
 exact ⟨fun _ _ q=>q,Ow.mv (lL h1 h2) t (fun _ z=>z) ov⟩
theorem vS {z:Str}:rF K O H0 (Its z) ((li z).map fun c=>.str (mk1 c)):=fun i H O1 h1 h2 h3=>by
 refine ⟨fun t ht=>?_,fun hl=>?_⟩
 ·rw [List.getElem?_map] at ht
  obtain ⟨c,hc,e⟩:=Option.map_eq_some_iff.mp ht
  have hi:i < z.cps.size:=by
   have:=(List.getElem?_eq_some_iff.mp hc).1
   simpa [li] using this
  have hc':z.cps[i]?=some c:=by
   have:z.cps.toList[i]?=some c:=hc
   simpa using this
  refine ⟨hi,fun x H1 ⟨e1,c',e2,e3⟩=>?_⟩
  subst e1 e e3
  rw [hc'] at e2
  cases e2
  exact ⟨fun _ _ q=>q,rfl⟩
 ·have:z.cps.size=i:=by
   rw [List.length_map] at hl
   simpa [li] using hl
  show z.cps.size≤i
  omega
theorem vT {lo:Int} {n:Nat}:rF K O H0 (Itr lo n) ((List.range n).map fun k=>.int (lo+(k:Nat))):=fun i H O1 h1 h2 h3=>by
 refine ⟨fun t ht=>?_,fun hl=>?_⟩
 ·rw [List.getElem?_map] at ht
  obtain ⟨c,hc,e⟩:=Option.map_eq_some_iff.mp ht
  have hi:=(List.getElem?_eq_some_iff.mp hc).1
  rw [List.length_range] at hi
  rw [List.getElem?_range hi] at hc
  cases hc
  refine ⟨hi,fun x H1 ⟨e1,e2⟩=>?_⟩
  subst e1 e e2
  exact ⟨fun _ _ q=>q,rfl⟩
 ·rw [List.length_map,List.length_range] at hl
  show n≤i
  omega
def C6 (ts:List D):List D:=ts.zipIdx.map fun p=>.tuple [.int (p.2:Nat),p.1]
end
def eF (fa:MA):MI:=fun en=>(fa en).bind fun r=>match r.1 with
 | [.inl (.int j)]=>if -(2 ^ 62)≤j∧j < 2 ^ 62 then some ((List.range j.toNat).map fun k=>.int (0+(k:Nat)),r.2) else none
 | _=>none
def Kc (fa:MA):MI:=fun en=>(fa en).bind fun r=>match r.1 with
 | [.inl (.int i),.inl (.int j)]=>if -(2 ^ 62)≤i∧i < 2 ^ 62∧-(2 ^ 62)≤j∧j < 2 ^ 62 then some ((List.range (j - i).toNat).map fun k=>.int (i+(k:Nat)),r.2) else none
 | _=>none
def Kd (fa:MA):MI:=fun en=>(fa en).bind fun r=>match r.1 with
 | [.inl (.list ts)]=>some (C6 ts,r.2)
 | [.inl (.tuple ts)]=>some (C6 ts,r.2)
 | _=>none
section
variable {X:Cx} {K:PySem.W.Frag} {p:Bool} {ds ds1:List Nat} {d:Nat} {e tg l:Expr} {f:ME} {fa:MA} {sh:Sh}
theorem HS (hK:X.K=K) (hl:PE X l (tF K p ds ds1 d f)):PI X tg l (tFI K p ds ds1 (cQ f)):=by
 subst hK
 intro pins s σ H R I h
 obtain ⟨Ox,en,Rg,ts,en',e,hf,k⟩:=h
 unfold cQ at hf
 obtain ⟨⟨t,en1⟩,h1,hf⟩:=Option.bind_eq_some_iff.mp hf
 obtain ⟨ts',h2,hf⟩:=Option.map_eq_some_iff.mp hf
 cases hf
 refine thn (hl pins s σ H (fun v H1=>∃ R1,Post X.K p ds1 Ox σ H en Rg en1 H1 R1 NoA∧Ow X.K (Own R1 Ox) H1 t 0 v NoA) I ⟨Ox,en,Rg,t,en1,e,h1,fun v H1 R1 F P o=>⟨R1,P.less fun _ z=>z.elim,Ow.letgo P (fun _ z=>z) o⟩⟩) fun v s1 ⟨x,H1,I1,r1,R1,P,o⟩=>?_
 cases t with
 | list ts0 =>
  cases h2
  obtain ⟨a,vs,e1,⟨_,fz,ow⟩ | ⟨z,_⟩⟩:=o
  ·subst e1
   cases r1
   obtain ⟨its,rv,pl,hz⟩:=I1.list fz.sq
   refine wpAny_pyIter_list pl.isList ?_
   refine ⟨s1.heap.objs.size,[s1.heap.objs.size],_,_,H1,rfl,I1.kept (t':=s1.toks) fun b o e=>Heap.get?_push_of_some _ e,uw a _,⟨_,Heap.get?_push_size _ rfl,rfl,rfl⟩,fun b hb=>?_,k _ H1 R1 P (uu fz ow)⟩
   have e:b=s1.heap.objs.size:=by simpa using hb
   subst e
   exact I1.fpOk (Nat.le_refl _) (I1.hok.fresh (Nat.le_refl _))
  ·exact absurd rfl z
 | tuple ts0 =>
  cases h2
  obtain ⟨a,vs,e1,⟨_,fz,ow⟩ | ⟨z,_⟩⟩:=o
  ·subst e1
   cases r1
   obtain ⟨its,rv,pl,hz⟩:=I1.tuple fz.sq
   refine wpAny_pyIter_tuple (show s1.heap.IsTuple a its.toArray from pl) ?_
   refine ⟨s1.heap.objs.size,[s1.heap.objs.size],_,_,H1,rfl,I1.kept (t':=s1.toks) fun b o e=>Heap.get?_push_of_some _ e,sY a _,⟨_,Heap.get?_push_size _ rfl,rfl,rfl⟩,fun b hb=>?_,k _ H1 R1 P (vR fz ow)⟩
   have e:b=s1.heap.objs.size:=by simpa using hb
   subst e
   exact I1.fpOk (Nat.le_refl _) (I1.hok.fresh (Nat.le_refl _))
  ·exact absurd rfl z
 | str z =>
  cases h2
  have e1:x=.str z:=o
  subst e1
  obtain ⟨t,rfl⟩:=r1
  have fin:∀ (ty:String) (o:Obj),(ty="str_ascii_iterator"∨ty="str_iterator")→(s1.heap.push o).IsStrIter s1.heap.objs.size ty z t 0→PIE X pins σ tg R (.ref s1.heap.objs.size) { s1 with heap:=s1.heap.push o }:=fun ty o hty st=>by
   refine ⟨s1.heap.objs.size,[s1.heap.objs.size],_,_,H1,rfl,I1.kept (t':=s1.toks) fun b o e=>Heap.get?_push_of_some _ e,vU _ z t ty hty,st,fun b hb=>?_,k _ H1 R1 P vS⟩
   have e:b=s1.heap.objs.size:=by simpa using hb
   subst e
   exact I1.fpOk (Nat.le_refl _) (I1.hok.fresh (Nat.le_refl _))
  cases ha:z.cps.all (· < 128)
  ·exact wpAny_pyIter_wide ha (fin _ _ (.inr rfl) ⟨_,Heap.get?_push_size _ rfl,rfl,rfl⟩)
  ·exact wpAny_pyIter_ascii ha (fin _ _ (.inl rfl) ⟨_,Heap.get?_push_size _ rfl,rfl,rfl⟩)
 | _=>cases h2
theorem D5 {a:Expr} {px pos:Pos} (hg:Gl X "range") (hm:X.mg "range"=none) (ha:PA X [a] (tFA K p ds ds1 sh fa)) (hs:aZ a=true):PI X tg (.Call (.Name "range" px) [a] [] pos) (tFI K p ds ds1 (eF fa)) :=
 (uI hg hm ha (bH hs)).imp fun σ H R ⟨Ox,en,Rg,ts,en',e,hf,k⟩=>by
  unfold eF at hf
  obtain ⟨⟨as,en1⟩,h1,hf⟩:=Option.bind_eq_some_iff.mp hf
  refine ⟨Ox,en,Rg,as,en1,e,h1,fun vs H1 R1 F P o=>?_⟩
  dsimp only at hf
  split at hf
  case h_2=>cases hf
  next j =>
  by_cases hj:-(2 ^ 62)≤j∧j < 2 ^ 62
  case neg=>rw [if_neg hj] at hf; cases hf
  rw [if_pos hj] at hf
  cases hf
  obtain ⟨v,r,d,dr,F1,F2,e1,e2,_,_,_,o1,o2⟩:=o
  obtain ⟨_,o2⟩:=o2
  subst e1 o2
  have ev:v=.int j:=o1
  subst ev
  exact ⟨j,rfl,hj.1,hj.2,k _ H1 R1 (P.less fun _ z=>z.elim) vT⟩
end
end L2
namespace L2
open PySem PySem.Spec PyProof.Rows
theorem NewTo.refl {H:Hp}:NewTo H H NoA:=⟨fun _ _ q=>q,fun _ z=>z.elim⟩
theorem OpR.imp {X:Cx} {fn:Value→Value→Sem Value} {r r':R2} (h:OpR X fn r) (hi:∀ x y H Q,r' x y H Q→r x y H Q):OpR X fn r':=fun pins s σ H x y v u Q I rx ry q=>h pins s σ H x y v u Q I rx ry (hi _ _ _ _ q)
theorem OpR.or' {X:Cx} {fn:Value→Value→Sem Value} {r r':R2} (h:OpR X fn r) (h':OpR X fn r'):OpR X fn (fun x y H Q=>r x y H Q∨r' x y H Q):=fun pins s σ H x y v u Q I rx ry q=>q.elim (h pins s σ H x y v u Q I rx ry) (h' pins s σ H x y v u Q I rx ry)
theorem UnR.imp {X:Cx} {fn:Value→Sem Value} {r r':V→Hp→VK→Prop} (h:UnR X fn r) (hi:∀ x H Q,r' x H Q→r x H Q):UnR X fn r':=fun pins s σ H x v Q I rx q=>h pins s σ H x v Q I rx (hi _ _ _ q)
theorem CallR.imp {X:Cx} {fn:Value} {r r':List V→Hp→VK→Prop} (h:CallR X fn r) (hi:∀ x H Q,r' x H Q→r x H Q):CallR X fn r':=fun pins s σ H x v Q I rx q=>h pins s σ H x v Q I rx (hi _ _ _ q)
theorem CallR.or' {X:Cx} {fn:Value} {r r':List V→Hp→VK→Prop} (h:CallR X fn r) (h':CallR X fn r'):CallR X fn (fun x H Q=>r x H Q∨r' x H Q):=fun pins s σ H x v Q I rx q=>q.elim (h pins s σ H x v Q I rx) (h' pins s σ H x v Q I rx)
theorem IxR.imp {X:Cx} {r r':R2} (h:IxR X r) (hi:∀ x y H Q,r' x y H Q→r x y H Q):IxR X r':=fun value slice pins s σ H x y v u Q I rx ry q=>h value slice pins s σ H x y v u Q I rx ry (hi _ _ _ _ q)
section
variable {X:Cx} {K:PySem.W.Frag} {O:AS} {H:Hp} {ts us:List D} {vs ws:List V} {x y:V} {d:Nat} {Q:VK}
theorem fF {l:Addr} (hl:H l=none) (hd:∀ a,O a→∃ o,H a=some o) (h:Ows K O H ts 0 vs NoA):NewTo H (upd H l (.lst vs)) (fun b=>b=l)∧Ow K (U (fun b=>b=l) O) (upd H l (.lst vs)) (.list ts) 1 (.ref l) (fun b=>b=l):=by
 refine ⟨cW hl,l,vs,rfl,.inr ⟨by decide,bC,rfl,NoA,fun _ z=>z.elim,?_⟩⟩
 refine Ows.mv (G:=NoA) ⟨fun a o q _=>(cW (o:=.lst vs) hl).1 a o q,fun a z=>?_⟩ ts (fun _ z=>z) h
 rcases z with z | z
 ·exact .inr (by rw [show a=l from z]; exact hl)
 ·exact .inl z
theorem gM {l:Addr} (hl:H l=none) (hd:∀ a,O a→∃ o,H a=some o) (h:Ows K O H ts 0 vs NoA):NewTo H (upd H l (.tup vs)) NoA∧Ow K (U NoA O) (upd H l (.tup vs)) (.tuple ts) 0 (.ref l) NoA:=by
 refine ⟨⟨(cW hl).1,fun _ z=>z.elim⟩,l,vs,rfl,.inl ⟨rfl,⟨bC,fun z=>?_⟩,?_⟩⟩
 ·rcases z with z | z
  ·exact z
  ·obtain ⟨o,q⟩:=hd l z
   rw [hl] at q
   cases q
 ·refine Ows.mv (G:=NoA) ⟨fun a o q _=>(cW (o:=.tup vs) hl).1 a o q,fun a z=>?_⟩ ts (fun _ z=>z) h
  rcases z with z | z
  ·exact z.elim
  ·exact .inl z
theorem Ows.app:∀ {ts:List D} {vs:List V},Ows K O H ts 0 vs NoA→Ows K O H us 0 ws NoA→Ows K O H (ts++us) 0 (vs++ws) NoA
 | [],_,h,h2=>by rw [show _=[] from h]; exact h2
 | t :: ts,_,h,h2=>by
  obtain ⟨v,r,F1,F2,e,_,_,_,h4,h5⟩:=h
  subst e
  exact ⟨v,r++ws,NoA,NoA,rfl,fun _ z=>z,fun _ z=>z,fun _ z=>z.elim,Ow.any0 t h4,Ows.app (Ows.any0 ts h5) h2⟩
theorem Ows.drop:∀ {ts:List D} {vs:List V} (n:Nat),Ows K O H ts 0 vs NoA→Ows K O H (ts.drop n) 0 (vs.drop n) NoA
 | ts,vs,0,h=>h
 | [],_,n+1,h=>by rw [show _=[] from h]; rfl
 | t :: ts,_,n+1,h=>by
  obtain ⟨v,r,F1,F2,e,_,_,_,h4,h5⟩:=h
  subst e
  exact Ows.drop n (Ows.any0 ts h5)
theorem Ows.take:∀ {ts:List D} {vs:List V} (n:Nat),Ows K O H ts 0 vs NoA→Ows K O H (ts.take n) 0 (vs.take n) NoA
 | ts,vs,0,h=>rfl
 | [],_,n+1,h=>by rw [show _=[] from h]; rfl
 | t :: ts,_,n+1,h=>by
  obtain ⟨v,r,F1,F2,e,_,_,_,h4,h5⟩:=h
  subst e
  exact ⟨v,r.take n,NoA,NoA,rfl,fun _ z=>z,fun _ z=>z,fun _ z=>z.elim,Ow.any0 t h4,Ows.take n (Ows.any0 ts h5)⟩
theorem Ow.lst0 {v:V} (h:Ow K O H (.list ts) 0 v NoA):∃ a vs,v=.ref a∧FzL K O H a vs∧Ows K O H ts 0 vs NoA:=by
 obtain ⟨a,vs,e,⟨_,h1,h2⟩ | ⟨z,_⟩⟩:=h
 ·exact ⟨a,vs,e,h1,h2⟩
 ·exact absurd rfl z
theorem Ow.tup0 {v:V} (h:Ow K O H (.tuple ts) 0 v NoA):∃ a vs,v=.ref a∧FzT K O H a vs∧Ows K O H ts 0 vs NoA:=by
 obtain ⟨a,vs,e,⟨_,h1,h2⟩ | ⟨z,_⟩⟩:=h
 ·exact ⟨a,vs,e,h1,h2⟩
 ·exact absurd rfl z
theorem Ows.one {t:D} (h:Ows K O H [t] 0 vs NoA):∃ v,vs=[v]∧Ow K O H t 0 v NoA:=by
 obtain ⟨v,r,F1,F2,e,_,_,_,h4,h5⟩:=h
 rw [show r=[] from h5] at e
 exact ⟨v,e,Ow.any0 t h4⟩
def bg:D→D→Option D
 | .int a,.int b=>some (.int (a+b))
 | .str a,.str b=>if a.length+b.length≤sizeLine then some (.str (a++b)) else none
 | _,_=>none
theorem bh:OpR X (binaryOp .Add) (rF2 K bg 3):=(op_add.or' tG).imp fun x y H Q ⟨O,a,b,t,oa,ob,hd,hg,k⟩=>by
 cases a with
 | int i=>cases b with
  | int j=>cases hg; exact .inl ⟨i,j,oa,ob,k _ H NoA .refl rfl⟩
  | _=>cases hg
 | str i=>cases b with
  | str j =>
   dsimp only [bg] at hg
   by_cases hl:i.length+j.length≤sizeLine
   ·rw [if_pos hl] at hg; cases hg; exact .inr ⟨i,j,oa,ob,hl,k _ H NoA .refl rfl⟩
   ·rw [if_neg hl] at hg; cases hg
  | _=>cases hg
 | _=>cases hg
def iX (g:Int→Int→Option D):D→D→Option D
 | .int a,.int b=>g a b
 | _,_=>none
theorem dZ {g:Int→Int→Option D} {a b t:D} (h:iX g a b=some t):∃ i j,a=.int i∧b=.int j∧g i j=some t:=by
 cases a with
 | int i=>cases b with
  | int j=>exact ⟨i,j,rfl,rfl,h⟩
  | _=>cases h
 | _=>cases h
def io:D→D→Option D:=iX fun a b=>some (.int (a - b))
theorem i5:OpR X (binaryOp .Sub) (rF2 K io 3):=op_sub.imp fun x y H Q ⟨O,a,b,t,oa,ob,hd,hg,k⟩=>by
 obtain ⟨i,j,rfl,rfl,h⟩:=dZ hg
 cases h
 exact ⟨i,j,oa,ob,k _ H NoA .refl rfl⟩
instance (i j:Int):Decidable (CMul i j):=by unfold CMul; exact inferInstance
instance (i j:Int):Decidable (jb i j):=by unfold jb; exact inferInstance
instance (i j:Int):Decidable (iy i j):=by unfold iy; exact inferInstance
def cr:D→D→Option D:=iX fun a b=>if CMul a b then some (.int (a * b)) else none
theorem fS:OpR X (binaryOp .Mult) (rF2 K cr 3):=op_mul.imp fun x y H Q ⟨O,a,b,t,oa,ob,hd,hg,k⟩=>by
 obtain ⟨i,j,rfl,rfl,h⟩:=dZ hg
 by_cases hc:CMul i j
 ·rw [if_pos hc] at h; cases h; exact ⟨i,j,oa,ob,hc,k _ H NoA .refl rfl⟩
 ·rw [if_neg hc] at h; cases h
def gA:D→D→Option D:=iX fun a b=>if jb a b then some (.int (a / b)) else none
theorem sQ:OpR X (binaryOp .FloorDiv) (rF2 K gA 3):=op_fdiv.imp fun x y H Q ⟨O,a,b,t,oa,ob,hd,hg,k⟩=>by
 obtain ⟨i,j,rfl,rfl,h⟩:=dZ hg
 by_cases hc:jb i j
 ·rw [if_pos hc] at h; cases h; exact ⟨i,j,oa,ob,hc,k _ H NoA .refl rfl⟩
 ·rw [if_neg hc] at h; cases h
def cB:D→D→Option D:=iX fun a b=>if 0 < b then some (.int (a % b)) else none
theorem fT:OpR X (binaryOp .Mod) (rF2 K cB 3):=op_mod.imp fun x y H Q ⟨O,a,b,t,oa,ob,hd,hg,k⟩=>by
 obtain ⟨i,j,rfl,rfl,h⟩:=dZ hg
 by_cases hc:0 < j
 ·rw [if_pos hc] at h; cases h; exact ⟨i,j,oa,ob,hc,k _ H NoA .refl rfl⟩
 ·rw [if_neg hc] at h; cases h
def mC:D→D→Option D:=iX fun a b=>if iy a b then some (.int (a ^ b.toNat)) else none
theorem rh:OpR X (binaryOp .Pow) (rF2 K mC 3):=op_pow.imp fun x y H Q ⟨O,a,b,t,oa,ob,hd,hg,k⟩=>by
 obtain ⟨i,j,rfl,rfl,h⟩:=dZ hg
 by_cases hc:iy i j
 ·rw [if_pos hc] at h; cases h; exact ⟨i,j,oa,ob,hc,k _ H NoA .refl rfl⟩
 ·rw [if_neg hc] at h; cases h
def ltI:D→D→Option D:=iX fun a b=>some (.bool (decide (a < b)))
def leI:D→D→Option D:=iX fun a b=>some (.bool (decide (a≤b)))
def gtI:D→D→Option D:=iX fun a b=>some (.bool (decide (b < a)))
def geI:D→D→Option D:=iX fun a b=>some (.bool (decide (b≤a)))
theorem C1:OpR X (compareOp .Lt) (rF2 K ltI 3):=op_lt.imp fun x y H Q ⟨O,a,b,t,oa,ob,hd,hg,k⟩=>by
 obtain ⟨i,j,rfl,rfl,h⟩:=dZ hg
 cases h
 exact ⟨i,j,oa,ob,k _ H NoA .refl rfl⟩
theorem jj:OpR X (compareOp .LtE) (rF2 K leI 3):=op_le.imp fun x y H Q ⟨O,a,b,t,oa,ob,hd,hg,k⟩=>by
 obtain ⟨i,j,rfl,rfl,h⟩:=dZ hg
 cases h
 exact ⟨i,j,oa,ob,k _ H NoA .refl rfl⟩
theorem kc:OpR X (compareOp .Gt) (rF2 K gtI 3):=op_gt.imp fun x y H Q ⟨O,a,b,t,oa,ob,hd,hg,k⟩=>by
 obtain ⟨i,j,rfl,rfl,h⟩:=dZ hg
 cases h
 exact ⟨i,j,oa,ob,k _ H NoA .refl rfl⟩
theorem Jh:OpR X (compareOp .GtE) (rF2 K geI 3):=op_ge.imp fun x y H Q ⟨O,a,b,t,oa,ob,hd,hg,k⟩=>by
 obtain ⟨i,j,rfl,rfl,h⟩:=dZ hg
 cases h
 exact ⟨i,j,oa,ob,k _ H NoA .refl rfl⟩
def oJ:D→Bool
 | .none=>true
 | _=>false
theorem qY {a:D} {F:AS} (h:Ow K O H a d x F):decide (x=.non)=oJ a:=by
 cases a with
 | none=>rw [show x=.non from h]; rfl
 | bool b=>rw [show x=.bl b from h]; rfl
 | int b=>rw [show x=.int b from h]; rfl
 | str b=>rw [show x=.str b from h]; rfl
 | list ts=>obtain ⟨a,vs,e,_⟩:=h; rw [e]; rfl
 | tuple ts=>obtain ⟨a,vs,e,_⟩:=h; rw [e]; rfl
 | dict ts=>obtain ⟨a,vs,e,_⟩:=h; rw [e]; rfl
def isN:D→D→Option D
 | a,.none=>some (.bool (oJ a))
 | _,_=>none
def iU:D→D→Option D
 | a,.none=>some (.bool (!oJ a))
 | _,_=>none
theorem HR:OpR X (compareOp .Is) (rF2 K isN 3):=op_isN.imp fun x y H Q ⟨O,a,b,t,oa,ob,hd,hg,k⟩=>by
 cases b with
 | none=>cases hg; exact ⟨ob,by rw [qY oa]; exact k _ H NoA .refl rfl⟩
 | _=>cases hg
theorem D1:OpR X (compareOp .IsNot) (rF2 K iU 3):=op_notN.imp fun x y H Q ⟨O,a,b,t,oa,ob,hd,hg,k⟩=>by
 cases b with
 | none=>cases hg; exact ⟨ob,by rw [qY oa]; exact k _ H NoA .refl rfl⟩
 | _=>cases hg
def Kw:D→D→Option D
 | .str a,.str b=>some (.bool (jL b a))
 | _,_=>none
def oA:D→D→Option D
 | .str a,.str b=>some (.bool (!jL b a))
 | _,_=>none
theorem vg:OpR X (compareOp .NotIn) (rF2 K oA 3):=op_notInS.imp fun x y H Q ⟨O,a,b,t,oa,ob,hd,hg,k⟩=>by
 cases a with
 | str i=>cases b with
  | str j=>cases hg; exact ⟨i,j,oa,ob,k _ H NoA .refl rfl⟩
  | _=>cases hg
 | _=>cases hg
def ixA:D→D→Option D
 | .list ts,.int n=>atI ts n
 | .tuple ts,.int n=>atI ts n
 | .str z,.int n=>if z.length≤sizeLine then (atI z.cps.toList n).map fun c=>.str (mk1 c) else none
 | _,_=>none
theorem bA (hK:X.K=K):IxR X (rF2 K ixA 0):=by
 subst hK
 refine ix_seq.imp fun x y H Q ⟨O,a,b,t,oa,ob,hd,hg,k⟩=>?_
 cases b with
 | int n =>
  cases a with
  | list ts =>
   obtain ⟨a,vs,e,fz,ow⟩:=oa.lst0
   obtain ⟨v,h1,h2⟩:=ow.atI hg
   exact .inl ⟨a,vs,n,v,e,ob,fz.sq,h1,k v H NoA .refl (by rw [gZ]; exact h2)⟩
  | tuple ts =>
   obtain ⟨a,vs,e,fz,ow⟩:=oa.tup0
   obtain ⟨v,h1,h2⟩:=ow.atI hg
   exact .inr (.inl ⟨a,vs,n,v,e,ob,fz.sq,h1,k v H NoA .refl (by rw [gZ]; exact h2)⟩)
  | str z =>
   dsimp only [ixA] at hg
   by_cases hl:z.length≤sizeLine
   ·rw [if_pos hl] at hg
    obtain ⟨c,h1,h2⟩:=Option.map_eq_some_iff.mp hg
    cases h2
    exact .inr (.inr ⟨z,n,c,oa,ob,hl,h1,k _ H NoA .refl rfl⟩)
   ·rw [if_neg hl] at hg; cases hg
  | _=>cases hg
 | _=>cases a <;> cases hg
def ixT:D→D→Option D
 | .str z,.int n=>if z.length≤sizeLine then (atI z.cps.toList n).map fun c=>.str (mk1 c) else none
 | _,_=>none
theorem eG:IxR X (rF2 K ixT 3):=by
 refine ix_str.imp fun x y H Q ⟨O,a,b,t,oa,ob,hd,hg,k⟩=>?_
 cases a with
 | str z=>cases b with
  | int n =>
   dsimp only [ixT] at hg
   by_cases hl:z.length≤sizeLine
   ·rw [if_pos hl] at hg
    obtain ⟨c,h1,h2⟩:=Option.map_eq_some_iff.mp hg
    cases h2
    exact ⟨z,n,c,oa,ob,hl,h1,k _ H NoA .refl rfl⟩
   ·rw [if_neg hl] at hg; cases hg
  | _=>cases hg
 | _=>cases hg
def km:D→D→Option D
 | .list a,.list b=>if a.length+b.length≤sizeLine then some (.list (a++b)) else none
 | _,_=>none
def gY:D→D→Option D
 | .tuple a,.tuple b=>if a.length+b.length≤sizeLine then some (.tuple (a++b)) else none
 | _,_=>none
end
end L2
namespace L2
open PySem PySem.Spec PyProof.Rows
def grd {α:Type} (c:Prop) [Decidable c] (t:α):Option α:=if c then some t else none
theorem cw {α:Type} {c:Prop} [Decidable c] {t u:α} (h:grd c t=some u):c∧t=u:=by
 unfold grd at h
 by_cases hc:c
 ·rw [if_pos hc] at h; exact ⟨hc,Option.some.inj h⟩
 ·rw [if_neg hc] at h; cases h
section
variable {X:Cx} {K:PySem.W.Frag} {O:AS} {H:Hp} {ts us:List D} {vs ws:List V} {x y:V} {d:Nat} {Q:VK}
def IP (K:PySem.W.Frag):R2:=fun x y H Q=>∃ l b xs zs,x=.ref l∧y=.ref b∧SqL K H l xs∧SqL K H b zs∧xs.length+zs.length≤sizeLine∧∀ p,H p=none→Q (.ref p) (upd H p (.lst (xs++zs)))
theorem op_catL:OpR X (binaryOp .Add) (IP X.K):=by
 intro pins s σ H x y v u Q I rx ry h
 obtain ⟨l,b,xs,zs,rfl,rfl,hH,hB,hz,q⟩:=h
 cases rx
 cases ry
 obtain ⟨its,r,⟨⟨c1,dd,da1,sl⟩,n,ho,hc,hdd,hda⟩,_⟩:=I.list hH
 obtain ⟨its2,r2,⟨⟨c2,dd2,da2,sl2⟩,n2,ho2,hc2,hdd2,hda2⟩,_⟩:=I.list hB
 have hl:=r.length
 have hl2:=r2.length
 simp only at hc hda hc2 hda2
 subst hc hda hc2 hda2
 refine concat_meets ⟨_,ho,rfl⟩ ⟨_,ho2,rfl⟩ noFill_list_add seq_list_add PySem.F.slot_list_add PySem.F.entry_list_add (PySem.F.args_list_add_2 _ _) (list_addW l b its.toArray its2.toArray n n2 dd dd2 sl sl2 (by simp only [List.size_toArray]; omega)) ⟨ho,ho2,?_⟩
 have ea:its.toArray++its2.toArray=(its++its2).toArray:=by simp
 rw [ea]
 exact ⟨.ref _,_,I.lnew (t':=s.toks) (r.append r2) (by rw [List.length_append]; omega),rfl,q _ I.fresh⟩
theorem iF (hK:X.K=K):OpR X (binaryOp .Add) (rF2 K km 1):=by
 subst hK
 refine op_catL.imp fun x y H Q ⟨O,a,b,t,oa,ob,hd,hg,k⟩=>?_
 cases a with
 | list ts=>cases b with
  | list us =>
   dsimp only [km] at hg
   by_cases hl:ts.length+us.length≤sizeLine
   case neg=>rw [if_neg hl] at hg; cases hg
   rw [if_pos hl] at hg
   cases hg
   obtain ⟨a,vs,e1,f1,w1⟩:=oa.lst0
   obtain ⟨b,ws,e2,f2,w2⟩:=ob.lst0
   refine ⟨a,b,vs,ws,e1,e2,f1.sq,f2.sq,by rw [w1.len,w2.len]; exact hl,fun p hp=>?_⟩
   obtain ⟨n1,n2⟩:=fF hp hd (w1.app w2)
   exact k _ _ _ n1 n2
  | _=>cases hg
 | _=>cases hg
theorem eI (hK:X.K=K):OpR X (binaryOp .Add) (rF2 K gY 0):=by
 intro pins s σ H x y v u Q I rx ry ⟨O,a,b,t,oa,ob,hd,hg,k⟩
 cases a with
 | tuple ts=>cases b with
  | tuple us =>
   dsimp only [gY] at hg
   by_cases hl:ts.length+us.length≤sizeLine
   case neg=>rw [if_neg hl] at hg; cases hg
   rw [if_pos hl] at hg
   cases hg
   obtain ⟨a,vs,e1,f1,w1⟩:=oa.tup0
   obtain ⟨b,ws,e2,f2,w2⟩:=ob.tup0
   have l1:=w1.len
   have l2:=w2.len
   by_cases hx:vs=[]
   ·subst hx
    have et:ts=[]:=List.length_eq_zero_iff.mp l1.symm
    subst et
    refine wj hK pins s σ H x y v u Q I rx ry ⟨a,b,ws,e1,e2,f1.sq,f2.sq,?_⟩
    rw [← e2]
    exact k y H NoA .refl (by rw [gZ]; exact ob)
   ·refine I0 hK pins s σ H x y v u Q I rx ry ⟨a,b,vs,ws,e1,e2,f1.sq,f2.sq,hx,by omega,fun hy=>?_,fun hy p hp=>?_⟩
    ·subst hy
     have et:us=[]:=List.length_eq_zero_iff.mp l2.symm
     subst et
     rw [← e1]
     exact k x H NoA .refl (by rw [gZ,List.append_nil]; exact oa)
    ·obtain ⟨n1,n2⟩:=gM hp hd (w1.app w2)
     exact k _ _ _ n1 n2
  | _=>cases hg
 | _=>cases hg
def Kv:D→D→Option D
 | .list ts,.int k=>grd (-(2 ^ 63)≤k∧k < 2 ^ 63∧ts.length * k.toNat≤sizeLine) (.list (List.replicate k.toNat ts).flatten)
 | _,_=>none
def Ku:D→D→Option D
 | .str z,.int k=>grd (z.length≤4000∧-(2 ^ 63)≤k∧k≤4000) (.str (Txt.mul z k))
 | _,_=>none
def oC:D→Option D
 | .int i=>some (.int (-i))
 | _=>none
theorem nN:UnR X (unaryOp .USub) (rF1 K oC 3):=un_neg.imp fun x H Q ⟨O,a,t,oa,hd,hg,k⟩=>by
 cases a with
 | int i=>cases hg; exact ⟨i,oa,k _ H NoA .refl rfl⟩
 | _=>cases hg
def cu:List D→Option D
 | [.list ts]=>some (.int ts.length)
 | [.tuple ts]=>some (.int ts.length)
 | [.str z]=>grd (z.length≤sizeLine) (.int z.length)
 | _=>none
theorem cL (hK:X.K=K):CallR X (.builtin "len") (rFn K cu 3):=(JT hK).imp fun xs H Q ⟨O,as,t,oa,hd,hg,k⟩=>by
 match as,hg with
 | [.list ts],hg =>
  cases hg
  obtain ⟨v,rfl,o⟩:=oa.one
  obtain ⟨a,vs,rfl,fz,w⟩:=o.lst0
  exact ⟨_,_,rfl,.inl ⟨vs,fz.sq,rfl⟩,by rw [w.len]; exact k _ H NoA .refl rfl⟩
 | [.tuple ts],hg =>
  cases hg
  obtain ⟨v,rfl,o⟩:=oa.one
  obtain ⟨a,vs,rfl,fz,w⟩:=o.tup0
  exact ⟨_,_,rfl,.inr ⟨vs,fz.sq,rfl⟩,by rw [w.len]; exact k _ H NoA .refl rfl⟩
 | [.str z],hg =>
  obtain ⟨c,rfl⟩:=cw hg
  obtain ⟨v,rfl,o⟩:=oa.one
  exact ⟨_,_,rfl,by rw [show v=.str z from o]; exact ⟨c,rfl⟩,k _ H NoA .refl rfl⟩
def uo:List D→Option D
 | [.int i]=>some (.int (if i < 0 then -i else i))
 | _=>none
def Kk:List D→Option D
 | [.int i,.int j]=>some (.int (if j > i then j else i))
 | _=>none
def Kj:List D→Option D
 | [.int i,.int j]=>some (.int (if j < i then j else i))
 | _=>none
def oK:List D→Option D
 | [.int i]=>some (.int i)
 | [.bool b]=>some (.int (if b then 1 else 0))
 | _=>none
theorem vh:CallR X (.type "int") (rFn K oK 3):=call_int1.imp fun xs H Q ⟨O,as,t,oa,hd,hg,k⟩=>by
 match as,hg with
 | [.int i],hg =>
  cases hg
  obtain ⟨v,rfl,o⟩:=oa.one
  exact .inl ⟨i,by rw [show v=.int i from o],k _ H NoA .refl rfl⟩
 | [.bool i],hg =>
  cases hg
  obtain ⟨v,rfl,o⟩:=oa.one
  exact .inr ⟨i,by rw [show v=.bl i from o],k _ H NoA .refl rfl⟩
def bz (z:Str):List D:=(li z).map fun c=>.str (mk1 c)
theorem qG {z:Str}:Ows K O H (bz z) 0 (fE z) NoA:=by
 unfold bz fE
 show Ows K O H ((li z).map fun c=>.str (mk1 c)) 0 ((li z).map sgn) NoA
 generalize li z=l
 induction l with
 | nil=>rfl
 | cons c r ih=>exact ⟨sgn c,r.map sgn,NoA,NoA,rfl,fun _ z=>z,fun _ z=>z,fun _ z=>z.elim,rfl,ih⟩
def lU:List D→Option D
 | [.list ts]=>some (.list ts)
 | [.tuple ts]=>some (.list ts)
 | [.str z]=>grd (z.cps.size≤sizeLine) (.list (bz z))
 | _=>none
theorem sP (hK:X.K=K) (hc:X.calm=true):CallR X (.type "list") (rFn K lU 1):=((DD hK).or' (oU hc)).imp fun xs H Q ⟨O,as,t,oa,hd,hg,k⟩=>by
 match as,hg with
 | [.list ts],hg =>
  cases hg
  obtain ⟨v,rfl,o⟩:=oa.one
  obtain ⟨a,vs,rfl,fz,w⟩:=o.lst0
  exact .inl ⟨a,vs,rfl,.inl fz.sq,fun l hl=>k _ _ _ (fF hl hd w).1 (fF hl hd w).2⟩
 | [.tuple ts],hg =>
  cases hg
  obtain ⟨v,rfl,o⟩:=oa.one
  obtain ⟨a,vs,rfl,fz,w⟩:=o.tup0
  exact .inl ⟨a,vs,rfl,.inr fz.sq,fun l hl=>k _ _ _ (fF hl hd w).1 (fF hl hd w).2⟩
 | [.str z],hg =>
  obtain ⟨c,rfl⟩:=cw hg
  obtain ⟨v,rfl,o⟩:=oa.one
  exact .inr ⟨z,by rw [show v=.str z from o],c,fun l hl=>k _ _ _ (fF (K:=K) hl hd qG).1 (fF hl hd qG).2⟩
def iP:List D→Option D
 | [.list ts]=>some (.tuple ts)
 | [.tuple ts]=>some (.tuple ts)
 | _=>none
theorem gc (hK:X.K=K):CallR X (.type "tuple") (rFn K iP 0):=(Hr hK).imp fun xs H Q ⟨O,as,t,oa,hd,hg,k⟩=>by
 match as,hg with
 | [.list ts],hg =>
  cases hg
  obtain ⟨v,rfl,o⟩:=oa.one
  obtain ⟨a,vs,rfl,fz,w⟩:=o.lst0
  exact ⟨a,vs,rfl,.inl ⟨fz.sq,fun l hl=>k _ _ _ (gM hl hd w).1 (gM hl hd w).2⟩⟩
 | [.tuple ts],hg =>
  cases hg
  obtain ⟨v,rfl,o⟩:=oa.one
  obtain ⟨a,vs,rfl,fz,w⟩:=o.tup0
  exact ⟨a,vs,rfl,.inr ⟨fz.sq,k _ H NoA .refl (by rw [gZ]; exact o)⟩⟩
def iI:List D→Option (List Bool)
 | []=>some []
 | .bool b :: r=>(iI r).map (b :: ·)
 | _ :: _=>none
theorem pp:∀ {ts:List D} {vs:List V} {bs:List Bool},Ows K O H ts 0 vs NoA→iI ts=some bs→vs=bs.map V.bl
 | [],_,_,h,hb=>by cases hb; exact h
 | .bool b :: r,_,_,h,hb=>by
  obtain ⟨v,w,F1,F2,e,_,_,_,h4,h5⟩:=h
  obtain ⟨bs',h6,h7⟩:=Option.map_eq_some_iff.mp hb
  subst e h7
  rw [show v=.bl b from h4,pp (Ows.any0 r h5) h6]
  rfl
 | .none :: _,_,_,_,hb=>by cases hb
 | .int _ :: _,_,_,_,hb=>by cases hb
 | .str _ :: _,_,_,_,hb=>by cases hb
 | .list _ :: _,_,_,_,hb=>by cases hb
 | .tuple _ :: _,_,_,_,hb=>by cases hb
 | .dict _ :: _,_,_,_,hb=>by cases hb
def mT:List D→Option D
 | [.list ts]=>(iI ts).map fun bs=>.bool (bs.all id)
 | _=>none
theorem vj (hK:X.K=K) (hc:X.calm=true):CallR X (.builtin "all") (rFn K mT 3):=(JV hK hc).imp fun xs H Q ⟨O,as,t,oa,hd,hg,k⟩=>by
 match as,hg with
 | [.list ts],hg =>
  obtain ⟨bs,h1,rfl⟩:=Option.map_eq_some_iff.mp hg
  obtain ⟨v,rfl,o⟩:=oa.one
  obtain ⟨a,vs,rfl,fz,w⟩:=o.lst0
  have e:=pp w h1
  subst e
  exact ⟨a,bs,rfl,fz.sq,k _ H NoA .refl rfl⟩
def tyN:D→String
 | .none=>"NoneType" | .bool _=>"bool" | .int _=>"int" | .str _=>"str" | .list _=>"list" | .tuple _=>"tuple" | .dict _=>"dict"
def aX (n T:String):Bool:=n == T || (n == "bool" && T == "int")
theorem sK {T:String} (hT:T∈["int", "bool", "str", "list", "tuple", "dict"]) (a:D):PySem.W.kitOne K (.type (tyN a)) (.type T)=some (aX (tyN a) T):=by
 simp only [List.mem_cons,List.not_mem_nil,or_false] at hT
 rcases hT with rfl | rfl | rfl | rfl | rfl | rfl <;> cases a <;> rfl
def isX:D→Bool
 | .dict [(.none,.str _)]=>true
 | _=>false
def IN (K:PySem.W.Frag):List V→Hp→VK→Prop:=fun xs H Q=>∃ x T,∃ (O:AS) (a:D),xs=[x,.ty T]∧Ow K O H a 0 x NoA∧isX a=false∧T∈["int", "bool", "str", "list", "tuple", "dict"]∧Q (.bl (aX (tyN a) T)) H
theorem vJ:CallR X (.builtin "isinstance") (IN X.K):=by
 intro pins s σ H xs us Q I r h
 obtain ⟨x,T,O,a,rfl,oa,hX,hT,q⟩:=h
 have base:∀ ty,TyOf X.K H x (.type ty)→tyN a=ty→wpAny (model X.prog X.w) X.A (call (.builtin "isinstance") us) (EP X pins σ Q) X.xe s:=fun ty h1 h2=>by
  refine xr pins s σ H _ us Q I r ⟨x,.type ty,T,aX (tyN a) T,rfl,h1,?_,q⟩
  rw [← h2]
  exact sK hT a
 cases a with
 | none=>exact base _ (by rw [show x=.non from oa]; exact .non) rfl
 | bool b=>exact base _ (by rw [show x=.bl b from oa]; exact .bl b) rfl
 | int b=>exact base _ (by rw [show x=.int b from oa]; exact .int b) rfl
 | str b=>exact base _ (by rw [show x=.str b from oa]; exact .str b) rfl
 | tuple ts =>
  obtain ⟨p,vs,rfl,fz,w⟩:=oa.tup0
  exact base _ (.tup fz.1) rfl
 | dict ts =>
  obtain ⟨p,vs,rfl,⟨_,h1,_⟩ | ⟨_,h1,_⟩ | ⟨_,⟨kk,b,_,h1,_⟩ | ⟨cn,C,h0,_⟩⟩⟩:=oa
  ·exact base _ (.dK h1) rfl
  ·exact base _ (.dK h1) rfl
  ·exact base _ (.dT h1) rfl
  ·subst h0; cases hX
 | list ts =>
  obtain ⟨p,vs,rfl,fz,w⟩:=oa.lst0
  obtain ⟨u,u2,rfl,r1,r2⟩:=r.two
  cases r1
  cases r2
  obtain ⟨its,rv,pl,_⟩:=I.list fz.sq
  have e:=sK (K:=X.K) hT (.list ts)
  obtain ⟨o,n,h1,h2,_⟩:=pl
  exact PySem.W.kia_one PySem.W.kitx_list I.kIn ⟨o,h1,h2⟩ e (fun z=>nomatch z) fun tk=>⟨.bl _,H,I.tok tk,rfl,q⟩
end
def aN (T:String):D→Option D:=fun a=>if isX a=true then none else some (.bool (aX (tyN a) T))
section
variable {X:Cx} {K:PySem.W.Frag} {p:Bool} {ds ds1:List Nat} {d1:Nat} {e:Expr} {f:ME}
theorem Ig {T:Str} {n:String} {px pt pos:Pos} (hK:X.K=K) (hg:Gl X "isinstance") (hm:X.mg "isinstance"=none) (hgT:Gl X T) (hmT:X.mg T=none) (hbT:bootBuiltins T=some (.type n)) (hT:n∈["int", "bool", "str", "list", "tuple", "dict"]) (he:PE X e (tF K p ds ds1 d1 f))
  (hnT:T≠"__name__") (hdT:(T == ("__debug__" : Str))=false)
  (hs1:starEach [e,.Name T pt] X.env=(false,eval e X.env) :: starEach [.Name T pt] X.env) (hs2:starEach [.Name T pt] X.env=(false,eval (.Name T pt) X.env) :: starEach [] X.env) (hpl:(backTo pos (starEach [.Name T pt] X.env)).any (·.1)=false) :
  PE X (.Call (.Name "isinstance" px) [e,.Name T pt] [] pos) (tF K p ds ds1 3 (e1 (aN n) f)):=by
 subst hK
 refine (iT vJ hg hm boot_isinstance (cV he (cV (sE (v:=.ty n) hgT hmT hbT rfl hnT hdT) pa_nil hs2) hs1) (by decide) (by decide) hs1 hpl).imp fun σ H Q h=>?_
 obtain ⟨Ox,en,R,t,en',e,hf,k⟩:=h
 unfold e1 at hf
 obtain ⟨⟨t1,en1⟩,h1,hf⟩:=Option.bind_eq_some_iff.mp hf
 obtain ⟨t',h3,hf⟩:=Option.map_eq_some_iff.mp hf
 cases hf
 unfold aN at h3
 by_cases hX:isX t1=true
 ·rw [if_pos hX] at h3; cases h3
 rw [if_neg hX] at h3
 cases h3
 refine ⟨Ox,en,R,t1,en1,e,h1,fun v H' R' F P o=>?_⟩
 exact ⟨v,n,Own R' Ox,t1,rfl,Ow.letgo P (fun _ z=>z) o,Bool.eq_false_iff.mpr hX,hT,k _ H' R' NoA (P.less fun _ z=>z.elim) rfl⟩
end
end L2
namespace L2
open PySem PySem.Spec PyProof.Rows
mutual
def peq:D→D→Bool
 | .none,.none=>true
 | .bool a,.bool b=>a == b
 | .bool a,.int b=>(if a then (1:Int) else 0) == b
 | .int a,.bool b=>a == (if b then (1:Int) else 0)
 | .int a,.int b=>a == b
 | .str a,.str b=>a == b
 | .list a,.list b=>dY a b
 | .tuple a,.tuple b=>dY a b
 | _,_=>false
def dY:List D→List D→Bool
 | [],[]=>true
 | a :: r,b :: s=>peq a b && dY r s
 | _,_=>false
end
mutual
def aA:D→Bool
 | .dict _=>false
 | .list ts=>aE ts
 | .tuple ts=>aE ts
 | _=>true
def aE:List D→Bool
 | []=>true
 | t :: r=>aA t && aE r
end
mutual
theorem jU:∀ a:D,aA a=true→peq a a=true
 | .none,_=>rfl
 | .bool b,_=>by cases b <;> rfl
 | .int i,_=>by simp [peq]
 | .str i,_=>by simp [peq]
 | .list ts,h=>by simp only [peq]; exact kY ts (by simpa [aA] using h)
 | .tuple ts,h=>by simp only [peq]; exact kY ts (by simpa [aA] using h)
 | .dict _,h=>by simp [aA] at h
theorem kY:∀ a:List D,aE a=true→dY a a=true
 | [],_=>rfl
 | t :: r,h=>by
  have h':aA t=true∧aE r=true:=by simpa [aE] using h
  simp only [dY,jU t h'.1,kY r h'.2,Bool.and_self]
end
mutual
def cG:D→Nat
 | .list ts=>bt ts+1
 | .tuple ts=>bt ts+1
 | _=>0
def bt:List D→Nat
 | []=>0
 | t :: r=>max (cG t) (bt r)
end
theorem lq:∀ {ts:List D} {i:Nat} {t:D},ts[i]?=some t→cG t≤bt ts
 | [],_,_,h=>by simp at h
 | u :: r,i,t,h=>by
  simp only [bt]
  cases i with
  | zero=>simp at h; subst h; exact Nat.le_max_left _ _
  | succ i=>exact Nat.le_trans (lq (by simpa using h)) (Nat.le_max_right _ _)
theorem fQ:∀ {ts:List D} {i:Nat} {t:D},aE ts=true→ts[i]?=some t→aA t=true
 | [],_,_,_,h=>by simp at h
 | u :: r,i,t,hn,h=>by
  have h':aA u=true∧aE r=true:=by simpa [aE] using hn
  cases i with
  | zero=>simp at h; subst h; exact h'.1
  | succ i=>exact fQ h'.2 (by simpa using h)
theorem mD:∀ {a b:List D},a.length≠b.length→dY a b=false
 | [],[],h=>absurd rfl h
 | [],_ :: _,_=>rfl
 | _ :: _,[],_=>rfl
 | a :: r,b :: s,h=>by
  simp only [dY,mD (a:=r) (b:=s) (fun z=>h (by rw [List.length_cons,List.length_cons,z])),Bool.and_false]
def eAt (a b:List D) (j:Nat):Bool:=match a[j]?,b[j]? with
 | some x,some y=>peq x y
 | _,_=>true
theorem oX (n:Nat) (f:Nat→Bool):(List.range (n+1)).all f=(f 0 && (List.range n).all fun j=>f (j+1)):=by
 rw [List.range_succ_eq_map,List.all_cons,List.all_map]
 rfl
theorem mE:∀ {a b:List D},a.length=b.length→(List.range a.length).all (eAt a b)=dY a b
 | [],[],_=>rfl
 | a :: r,b :: s,h=>by
  rw [List.length_cons,oX]
  have e:(List.range r.length).all (fun j=>eAt (a :: r) (b :: s) (j+1))=(List.range r.length).all (eAt r s):=by
   congr 1
  rw [e,mE (by simpa using h)]
  rfl
 | [],_ :: _,h=>by simp at h
 | _ :: _,[],h=>by simp at h
section
open PySem.SeqAt
variable {X:Cx} {pins:List (Addr × Obj)} {σ:St} {H:Hp} {s:Shared} {O:AS}
theorem CO {p:Addr} {vs ws:List V} (I:Inv X pins σ H s) (h:SqL X.K H p vs) (g:SqT X.K H p ws):False:=by
 obtain ⟨its,_,p1,_⟩:=I.list h
 obtain ⟨its2,_,p2,_⟩:=I.tuple g
 exact ne_of_list_tuple p1.isList (show s.heap.IsTuple p its2.toArray from p2) rfl
theorem Ha {p:Addr} {vs:List V} {ks:List (List Key × V)} (I:Inv X pins σ H s) (h:SqL X.K H p vs) (g:H p=some (.dT ks)):False:=by
 obtain ⟨its,_,⟨o,n,e1,e2,_⟩,_⟩:=I.list h
 obtain ⟨_,_,_,_,o',_,_,g1,g2,_⟩:=JE I.hok g
 rw [e1] at g1
 cases g1
 rw [g2.1] at e2
 simp at e2
theorem IX {p:Addr} {vs:List V} {ks:List (Key × V)} (I:Inv X pins σ H s) (h:SqL X.K H p vs) (g:H p=some (.dK ks)):False:=by
 obtain ⟨its,_,⟨o,n,e1,e2,_⟩,_⟩:=I.list h
 obtain ⟨_,_,_,_,o',_,_,g1,g2,_⟩:=JG I.hok g
 rw [e1] at g1
 cases g1
 rw [g2.1] at e2
 simp at e2
mutual
theorem Ow.inj (I:Inv X pins σ H s):∀ (a b:D) {x:V},Ow X.K O H a 0 x NoA→Ow X.K O H b 0 x NoA→aA a=true→a=b
 | .none,b,_,h,g,_=>by
  cases (show _=_ from h)
  cases b with
  | none=>rfl
  | list ts=>obtain ⟨_,_,z,_⟩:=g; cases z
  | tuple ts=>obtain ⟨_,_,z,_⟩:=g; cases z
  | dict ts=>obtain ⟨_,_,z,_⟩:=g; cases z
  | bool c=>cases (show V.non=V.bl c from g)
  | int c=>cases (show V.non=V.int c from g)
  | str c=>cases (show V.non=V.str c from g)
 | .bool c,b,_,h,g,_=>by
  cases (show _=_ from h)
  cases b with
  | none=>cases (show V.bl c=V.non from g)
  | list ts=>obtain ⟨_,_,z,_⟩:=g; cases z
  | tuple ts=>obtain ⟨_,_,z,_⟩:=g; cases z
  | dict ts=>obtain ⟨_,_,z,_⟩:=g; cases z
  | bool c'=>cases (show V.bl c=V.bl c' from g); rfl
  | int c'=>cases (show V.bl c=V.int c' from g)
  | str c'=>cases (show V.bl c=V.str c' from g)
 | .int c,b,_,h,g,_=>by
  cases (show _=_ from h)
  cases b with
  | none=>cases (show V.int c=V.non from g)
  | list ts=>obtain ⟨_,_,z,_⟩:=g; cases z
  | tuple ts=>obtain ⟨_,_,z,_⟩:=g; cases z
  | dict ts=>obtain ⟨_,_,z,_⟩:=g; cases z
  | bool c'=>cases (show V.int c=V.bl c' from g)
  | int c'=>cases (show V.int c=V.int c' from g); rfl
  | str c'=>cases (show V.int c=V.str c' from g)
 | .str c,b,_,h,g,_=>by
  cases (show _=_ from h)
  cases b with
  | none=>cases (show V.str c=V.non from g)
  | list ts=>obtain ⟨_,_,z,_⟩:=g; cases z
  | tuple ts=>obtain ⟨_,_,z,_⟩:=g; cases z
  | dict ts=>obtain ⟨_,_,z,_⟩:=g; cases z
  | bool c'=>cases (show V.str c=V.bl c' from g)
  | int c'=>cases (show V.str c=V.int c' from g)
  | str c'=>cases (show V.str c=V.str c' from g); rfl
 | .list ts,b,_,h,g,hn=>by
  obtain ⟨p,vs,rfl,fz,w⟩:=h.lst0
  cases b with
  | none=>cases (show V.ref p=V.non from g)
  | bool c'=>cases (show V.ref p=V.bl c' from g)
  | int c'=>cases (show V.ref p=V.int c' from g)
  | str c'=>cases (show V.ref p=V.str c' from g)
  | list us =>
   obtain ⟨p',vs',e,fz',w'⟩:=g.lst0
   cases e
   have:=I.list_inj fz.sq fz'.sq
   subst this
   rw [Ows.inj I ts us w w' (by simpa [aA] using hn)]
  | tuple us =>
   obtain ⟨p',vs',e,fz',w'⟩:=g.tup0
   cases e
   exact (CO I fz.sq fz'.sq).elim
  | dict us =>
   obtain ⟨p',vs',e,⟨_,g1,_⟩ | ⟨z,_⟩ | ⟨_,⟨_,_,_,g1,_⟩ | ⟨_,C,_,_,g1,_⟩⟩⟩:=g
   ·cases e
    exact (IX I fz.sq g1).elim
   ·exact absurd rfl z
   ·cases e
    exact (Ha I fz.sq g1).elim
   ·cases e
    obtain ⟨its,rv,⟨o,n,e1,e2,_⟩,_⟩:=I.list fz.sq
    obtain ⟨⟨o',x1,x2,_⟩,_⟩:=(show ObjOk X.prog X.w H s.heap p (.ext (gB p C)) from I.hok p _ g1)
    rw [e1] at x1
    cases x1
    rw [e2] at x2
    cases x2
 | .tuple ts,b,_,h,g,hn=>by
  obtain ⟨p,vs,rfl,fz,w⟩:=h.tup0
  cases b with
  | none=>cases (show V.ref p=V.non from g)
  | bool c'=>cases (show V.ref p=V.bl c' from g)
  | int c'=>cases (show V.ref p=V.int c' from g)
  | str c'=>cases (show V.ref p=V.str c' from g)
  | tuple us =>
   obtain ⟨p',vs',e,fz',w'⟩:=g.tup0
   cases e
   have:=fz.1.symm.trans fz'.1
   cases this
   rw [Ows.inj I ts us w w' (by simpa [aA] using hn)]
  | list us =>
   obtain ⟨p',vs',e,fz',w'⟩:=g.lst0
   cases e
   exact (CO I fz'.sq fz.sq).elim
  | dict us =>
   obtain ⟨p',vs',e,⟨_,g1,_⟩ | ⟨z,_⟩ | ⟨_,⟨_,_,_,g1,_⟩ | ⟨_,C,_,_,g1,_⟩⟩⟩:=g
   ·cases e
    rw [fz.1] at g1
    cases g1
   ·exact absurd rfl z
   ·cases e
    rw [fz.1] at g1
    cases g1
   ·cases e
    rw [fz.1] at g1
    cases g1
 | .dict _,_,_,_,_,hn=>by simp [aA] at hn
theorem Ows.inj (I:Inv X pins σ H s):∀ (a b:List D) {x:List V},Ows X.K O H a 0 x NoA→Ows X.K O H b 0 x NoA→aE a=true→a=b
 | [],b,_,h,g,_=>by
  cases (show _=_ from h)
  cases b with
  | nil=>rfl
  | cons u us=>obtain ⟨_,_,_,_,e,_⟩:=g; cases e
 | t :: ts,b,_,h,g,hn=>by
  obtain ⟨v,r,F1,F2,e,_,_,_,h4,h5⟩:=h
  subst e
  have hn':aA t=true∧aE ts=true:=by simpa [aE] using hn
  cases b with
  | nil=>cases (show v :: r=[] from g)
  | cons u us =>
   obtain ⟨v',r',G1,G2,e,_,_,_,g4,g5⟩:=g
   cases e
   rw [Ow.inj I t u (Ow.any0 t h4) (Ow.any0 u g4) hn'.1,Ows.inj I ts us (Ows.any0 ts h5) (Ows.any0 us g5) hn'.2]
end
theorem qX {A:Around} {ts us:List D} {vs ws:List V} {its its2:List Value} (w:Ows X.K O H ts 0 vs NoA) (w2:Ows X.K O H us 0 ws NoA) (rv:Vals vs its) (rv2:Vals ws its2)
  (ih:∀ (j:Nat) a b x y v u,ts[j]?=some a→us[j]?=some b→Ow X.K O H a 0 x NoA→Ow X.K O H b 0 y NoA→RelV x v→RelV y u→EqAt A s v u (peq a b)) :
  ∀ j (h1:j < its.toArray.size) (h2:j < its2.toArray.size),EqAt A s its.toArray[j] its2.toArray[j] (eAt ts us j):=fun j h1 h2=>by
 have h1':j < its.length:=by simpa using h1
 have h2':j < its2.length:=by simpa using h2
 have l1:=rv.length
 have l2:=rv2.length
 have m1:=w.len
 have m2:=w2.len
 have e1:ts[j]?=some ts[j]:=List.getElem?_eq_getElem (by omega)
 have e2:us[j]?=some us[j]:=List.getElem?_eq_getElem (by omega)
 obtain ⟨x,g1,o1⟩:=w.get e1
 obtain ⟨y,g2,o2⟩:=w2.get e2
 obtain ⟨u1,f1,q1⟩:=rv.get g1
 obtain ⟨u2,f2,q2⟩:=rv2.get g2
 have z:=ih j _ _ x y u1 u2 e1 e2 o1 o2 q1 q2
 rw [List.getElem?_eq_getElem h1'] at f1
 rw [List.getElem?_eq_getElem h2'] at f2
 have i1:its.toArray[j]=u1:=by simpa using Option.some.inj f1
 have i2:its2.toArray[j]=u2:=by simpa using Option.some.inj f2
 rw [i1,i2]
 unfold eAt
 rw [e1,e2]
 exact z
theorem uj (I:Inv X pins σ H s):∀ (n:Nat) (a b:D) (A:Around) (x y:V) (v u:Value),cG a≤n→aA a=true→aA b=true→Ow X.K O H a 0 x NoA→Ow X.K O H b 0 y NoA→RelV x v→RelV y u→A.units+n+1 < cLine →
  EqAt A s v u (peq a b)∧RcAt A s v u (peq a b)∧RcNeAt A s v u (!peq a b):=by
 intro n
 induction n with
 | zero =>
  intro a b A x y v u hdp hna hnb o1 o2 r1 r2 hun
  have hu:A.units < cLine:=by omega
  cases a with
  | none =>
   cases b with
   | none =>
    cases (show x=V.non from o1)
    cases r1
    cases (show y=V.non from o2)
    cases r2
    exact ⟨EqAt.same _,RcAt.none_none,RcNeAt.none_none⟩
   | bool c2 =>
    cases (show x=V.non from o1)
    cases r1
    cases (show y=V.bl c2 from o2)
    cases r2
    exact ⟨EqAt.none_bool _,RcAt.none_bool _,RcNeAt.none_bool _⟩
   | int c2 =>
    cases (show x=V.non from o1)
    cases r1
    cases (show y=V.int c2 from o2)
    obtain ⟨tk2,rfl⟩:=r2
    exact ⟨EqAt.none_int _ _,RcAt.none_int _ _,RcNeAt.none_int _ _⟩
   | str c2 =>
    cases (show x=V.non from o1)
    cases r1
    cases (show y=V.str c2 from o2)
    obtain ⟨tk2,rfl⟩:=r2
    exact ⟨EqAt.none_str _ _,RcAt.none_str _ _,RcNeAt.none_str _ _⟩
   | list c2 =>
    cases (show x=V.non from o1)
    cases r1
    obtain ⟨p2,vs2,rfl,fz2,w2⟩:=o2.lst0
    cases r2
    obtain ⟨its2,rv2,pl2,_⟩:=I.list fz2.sq
    have hl2:=pl2.isList
    exact ⟨EqAt.none_list  hl2 hu,RcAt.none_list  hl2 hu,RcNeAt.none_list  hl2 hu⟩
   | tuple c2 =>
    cases (show x=V.non from o1)
    cases r1
    obtain ⟨p2,vs2,rfl,fz2,w2⟩:=o2.tup0
    cases r2
    obtain ⟨its2,rv2,pl2,_⟩:=I.tuple fz2.sq
    have hl2:s.heap.IsTuple p2 its2.toArray:=pl2
    exact ⟨EqAt.none_tuple  hl2 hu,RcAt.none_tuple  hl2 hu,RcNeAt.none_tuple  hl2 hu⟩
   | dict c2=>simp [aA] at hnb
  | bool c1 =>
   cases b with
   | none =>
    cases (show x=V.bl c1 from o1)
    cases r1
    cases (show y=V.non from o2)
    cases r2
    exact ⟨EqAt.bool_none _,RcAt.bool_none _,RcNeAt.bool_none _⟩
   | bool c2 =>
    cases (show x=V.bl c1 from o1)
    cases r1
    cases (show y=V.bl c2 from o2)
    cases r2
    exact ⟨EqAt.bool_bool _ _,RcAt.bool_bool _ _,RcNeAt.bool_bool _ _⟩
   | int c2 =>
    cases (show x=V.bl c1 from o1)
    cases r1
    cases (show y=V.int c2 from o2)
    obtain ⟨tk2,rfl⟩:=r2
    exact ⟨EqAt.bool_int _ _ _,RcAt.bool_int _ _ _,RcNeAt.bool_int _ _ _⟩
   | str c2 =>
    cases (show x=V.bl c1 from o1)
    cases r1
    cases (show y=V.str c2 from o2)
    obtain ⟨tk2,rfl⟩:=r2
    exact ⟨EqAt.bool_str _ _ _,RcAt.bool_str _ _ _,RcNeAt.bool_str _ _ _⟩
   | list c2 =>
    cases (show x=V.bl c1 from o1)
    cases r1
    obtain ⟨p2,vs2,rfl,fz2,w2⟩:=o2.lst0
    cases r2
    obtain ⟨its2,rv2,pl2,_⟩:=I.list fz2.sq
    have hl2:=pl2.isList
    exact ⟨EqAt.bool_list _ hl2 hu,RcAt.bool_list _ hl2 hu,RcNeAt.bool_list _ hl2 hu⟩
   | tuple c2 =>
    cases (show x=V.bl c1 from o1)
    cases r1
    obtain ⟨p2,vs2,rfl,fz2,w2⟩:=o2.tup0
    cases r2
    obtain ⟨its2,rv2,pl2,_⟩:=I.tuple fz2.sq
    have hl2:s.heap.IsTuple p2 its2.toArray:=pl2
    exact ⟨EqAt.bool_tuple _ hl2 hu,RcAt.bool_tuple _ hl2 hu,RcNeAt.bool_tuple _ hl2 hu⟩
   | dict c2=>simp [aA] at hnb
  | int c1 =>
   cases b with
   | none =>
    cases (show x=V.int c1 from o1)
    obtain ⟨tk1,rfl⟩:=r1
    cases (show y=V.non from o2)
    cases r2
    exact ⟨EqAt.int_none _ _,RcAt.int_none _ _,RcNeAt.int_none _ _⟩
   | bool c2 =>
    cases (show x=V.int c1 from o1)
    obtain ⟨tk1,rfl⟩:=r1
    cases (show y=V.bl c2 from o2)
    cases r2
    exact ⟨EqAt.int_bool _ _ _,RcAt.int_bool _ _ _,RcNeAt.int_bool _ _ _⟩
   | int c2 =>
    cases (show x=V.int c1 from o1)
    obtain ⟨tk1,rfl⟩:=r1
    cases (show y=V.int c2 from o2)
    obtain ⟨tk2,rfl⟩:=r2
    exact ⟨EqAt.int_int _ _ _ _,RcAt.int_int _ _ _ _,RcNeAt.int_int _ _ _ _⟩
   | str c2 =>
    cases (show x=V.int c1 from o1)
    obtain ⟨tk1,rfl⟩:=r1
    cases (show y=V.str c2 from o2)
    obtain ⟨tk2,rfl⟩:=r2
    exact ⟨EqAt.int_str _ _ _ _,RcAt.int_str _ _ _ _,RcNeAt.int_str _ _ _ _⟩
   | list c2 =>
    cases (show x=V.int c1 from o1)
    obtain ⟨tk1,rfl⟩:=r1
    obtain ⟨p2,vs2,rfl,fz2,w2⟩:=o2.lst0
    cases r2
    obtain ⟨its2,rv2,pl2,_⟩:=I.list fz2.sq
    have hl2:=pl2.isList
    exact ⟨EqAt.int_list _ _ hl2 hu,RcAt.int_list _ _ hl2 hu,RcNeAt.int_list _ _ hl2 hu⟩
   | tuple c2 =>
    cases (show x=V.int c1 from o1)
    obtain ⟨tk1,rfl⟩:=r1
    obtain ⟨p2,vs2,rfl,fz2,w2⟩:=o2.tup0
    cases r2
    obtain ⟨its2,rv2,pl2,_⟩:=I.tuple fz2.sq
    have hl2:s.heap.IsTuple p2 its2.toArray:=pl2
    exact ⟨EqAt.int_tuple _ _ hl2 hu,RcAt.int_tuple _ _ hl2 hu,RcNeAt.int_tuple _ _ hl2 hu⟩
   | dict c2=>simp [aA] at hnb
  | str c1 =>
   cases b with
   | none =>
    cases (show x=V.str c1 from o1)
    obtain ⟨tk1,rfl⟩:=r1
    cases (show y=V.non from o2)
    cases r2
    exact ⟨EqAt.str_none _ _,RcAt.str_none _ _,RcNeAt.str_none _ _⟩
   | bool c2 =>
    cases (show x=V.str c1 from o1)
    obtain ⟨tk1,rfl⟩:=r1
    cases (show y=V.bl c2 from o2)
    cases r2
    exact ⟨EqAt.str_bool _ _ _,RcAt.str_bool _ _ _,RcNeAt.str_bool _ _ _⟩
   | int c2 =>
    cases (show x=V.str c1 from o1)
    obtain ⟨tk1,rfl⟩:=r1
    cases (show y=V.int c2 from o2)
    obtain ⟨tk2,rfl⟩:=r2
    exact ⟨EqAt.str_int _ _ _ _,RcAt.str_int _ _ _ _,RcNeAt.str_int _ _ _ _⟩
   | str c2 =>
    cases (show x=V.str c1 from o1)
    obtain ⟨tk1,rfl⟩:=r1
    cases (show y=V.str c2 from o2)
    obtain ⟨tk2,rfl⟩:=r2
    exact ⟨EqAt.str_str _ _ _ _,RcAt.str_str _ _ _ _,RcNeAt.str_str _ _ _ _⟩
   | list c2 =>
    cases (show x=V.str c1 from o1)
    obtain ⟨tk1,rfl⟩:=r1
    obtain ⟨p2,vs2,rfl,fz2,w2⟩:=o2.lst0
    cases r2
    obtain ⟨its2,rv2,pl2,_⟩:=I.list fz2.sq
    have hl2:=pl2.isList
    exact ⟨EqAt.str_list _ _ hl2 hu,RcAt.str_list _ _ hl2 hu,RcNeAt.str_list _ _ hl2 hu⟩
   | tuple c2 =>
    cases (show x=V.str c1 from o1)
    obtain ⟨tk1,rfl⟩:=r1
    obtain ⟨p2,vs2,rfl,fz2,w2⟩:=o2.tup0
    cases r2
    obtain ⟨its2,rv2,pl2,_⟩:=I.tuple fz2.sq
    have hl2:s.heap.IsTuple p2 its2.toArray:=pl2
    exact ⟨EqAt.str_tuple _ _ hl2 hu,RcAt.str_tuple _ _ hl2 hu,RcNeAt.str_tuple _ _ hl2 hu⟩
   | dict c2=>simp [aA] at hnb
  | list c1 =>
   simp only [cG] at hdp
   omega
  | tuple c1 =>
   simp only [cG] at hdp
   omega
  | dict c1=>simp [aA] at hna
 | succ n ih =>
  intro a b A x y v u hdp hna hnb o1 o2 r1 r2 hun
  have hu:A.units < cLine:=by omega
  have hu1:A.in1.units+n+1 < cLine:=by
   show A.units+1+n+1 < cLine
   omega
  cases a with
  | none =>
   cases b with
   | none =>
    cases (show x=V.non from o1)
    cases r1
    cases (show y=V.non from o2)
    cases r2
    exact ⟨EqAt.same _,RcAt.none_none,RcNeAt.none_none⟩
   | bool c2 =>
    cases (show x=V.non from o1)
    cases r1
    cases (show y=V.bl c2 from o2)
    cases r2
    exact ⟨EqAt.none_bool _,RcAt.none_bool _,RcNeAt.none_bool _⟩
   | int c2 =>
    cases (show x=V.non from o1)
    cases r1
    cases (show y=V.int c2 from o2)
    obtain ⟨tk2,rfl⟩:=r2
    exact ⟨EqAt.none_int _ _,RcAt.none_int _ _,RcNeAt.none_int _ _⟩
   | str c2 =>
    cases (show x=V.non from o1)
    cases r1
    cases (show y=V.str c2 from o2)
    obtain ⟨tk2,rfl⟩:=r2
    exact ⟨EqAt.none_str _ _,RcAt.none_str _ _,RcNeAt.none_str _ _⟩
   | list c2 =>
    cases (show x=V.non from o1)
    cases r1
    obtain ⟨p2,vs2,rfl,fz2,w2⟩:=o2.lst0
    cases r2
    obtain ⟨its2,rv2,pl2,_⟩:=I.list fz2.sq
    have hl2:=pl2.isList
    exact ⟨EqAt.none_list  hl2 hu,RcAt.none_list  hl2 hu,RcNeAt.none_list  hl2 hu⟩
   | tuple c2 =>
    cases (show x=V.non from o1)
    cases r1
    obtain ⟨p2,vs2,rfl,fz2,w2⟩:=o2.tup0
    cases r2
    obtain ⟨its2,rv2,pl2,_⟩:=I.tuple fz2.sq
    have hl2:s.heap.IsTuple p2 its2.toArray:=pl2
    exact ⟨EqAt.none_tuple  hl2 hu,RcAt.none_tuple  hl2 hu,RcNeAt.none_tuple  hl2 hu⟩
   | dict c2=>simp [aA] at hnb
  | bool c1 =>
   cases b with
   | none =>
    cases (show x=V.bl c1 from o1)
    cases r1
    cases (show y=V.non from o2)
    cases r2
    exact ⟨EqAt.bool_none _,RcAt.bool_none _,RcNeAt.bool_none _⟩
   | bool c2 =>
    cases (show x=V.bl c1 from o1)
    cases r1
    cases (show y=V.bl c2 from o2)
    cases r2
    exact ⟨EqAt.bool_bool _ _,RcAt.bool_bool _ _,RcNeAt.bool_bool _ _⟩
   | int c2 =>
    cases (show x=V.bl c1 from o1)
    cases r1
    cases (show y=V.int c2 from o2)
    obtain ⟨tk2,rfl⟩:=r2
    exact ⟨EqAt.bool_int _ _ _,RcAt.bool_int _ _ _,RcNeAt.bool_int _ _ _⟩
   | str c2 =>
    cases (show x=V.bl c1 from o1)
    cases r1
    cases (show y=V.str c2 from o2)
    obtain ⟨tk2,rfl⟩:=r2
    exact ⟨EqAt.bool_str _ _ _,RcAt.bool_str _ _ _,RcNeAt.bool_str _ _ _⟩
   | list c2 =>
    cases (show x=V.bl c1 from o1)
    cases r1
    obtain ⟨p2,vs2,rfl,fz2,w2⟩:=o2.lst0
    cases r2
    obtain ⟨its2,rv2,pl2,_⟩:=I.list fz2.sq
    have hl2:=pl2.isList
    exact ⟨EqAt.bool_list _ hl2 hu,RcAt.bool_list _ hl2 hu,RcNeAt.bool_list _ hl2 hu⟩
   | tuple c2 =>
    cases (show x=V.bl c1 from o1)
    cases r1
    obtain ⟨p2,vs2,rfl,fz2,w2⟩:=o2.tup0
    cases r2
    obtain ⟨its2,rv2,pl2,_⟩:=I.tuple fz2.sq
    have hl2:s.heap.IsTuple p2 its2.toArray:=pl2
    exact ⟨EqAt.bool_tuple _ hl2 hu,RcAt.bool_tuple _ hl2 hu,RcNeAt.bool_tuple _ hl2 hu⟩
   | dict c2=>simp [aA] at hnb
  | int c1 =>
   cases b with
   | none =>
    cases (show x=V.int c1 from o1)
    obtain ⟨tk1,rfl⟩:=r1
    cases (show y=V.non from o2)
    cases r2
    exact ⟨EqAt.int_none _ _,RcAt.int_none _ _,RcNeAt.int_none _ _⟩
   | bool c2 =>
    cases (show x=V.int c1 from o1)
    obtain ⟨tk1,rfl⟩:=r1
    cases (show y=V.bl c2 from o2)
    cases r2
    exact ⟨EqAt.int_bool _ _ _,RcAt.int_bool _ _ _,RcNeAt.int_bool _ _ _⟩
   | int c2 =>
    cases (show x=V.int c1 from o1)
    obtain ⟨tk1,rfl⟩:=r1
    cases (show y=V.int c2 from o2)
    obtain ⟨tk2,rfl⟩:=r2
    exact ⟨EqAt.int_int _ _ _ _,RcAt.int_int _ _ _ _,RcNeAt.int_int _ _ _ _⟩
   | str c2 =>
    cases (show x=V.int c1 from o1)
    obtain ⟨tk1,rfl⟩:=r1
    cases (show y=V.str c2 from o2)
    obtain ⟨tk2,rfl⟩:=r2
    exact ⟨EqAt.int_str _ _ _ _,RcAt.int_str _ _ _ _,RcNeAt.int_str _ _ _ _⟩
   | list c2 =>
    cases (show x=V.int c1 from o1)
    obtain ⟨tk1,rfl⟩:=r1
    obtain ⟨p2,vs2,rfl,fz2,w2⟩:=o2.lst0
    cases r2
    obtain ⟨its2,rv2,pl2,_⟩:=I.list fz2.sq
    have hl2:=pl2.isList
    exact ⟨EqAt.int_list _ _ hl2 hu,RcAt.int_list _ _ hl2 hu,RcNeAt.int_list _ _ hl2 hu⟩
   | tuple c2 =>
    cases (show x=V.int c1 from o1)
    obtain ⟨tk1,rfl⟩:=r1
    obtain ⟨p2,vs2,rfl,fz2,w2⟩:=o2.tup0
    cases r2
    obtain ⟨its2,rv2,pl2,_⟩:=I.tuple fz2.sq
    have hl2:s.heap.IsTuple p2 its2.toArray:=pl2
    exact ⟨EqAt.int_tuple _ _ hl2 hu,RcAt.int_tuple _ _ hl2 hu,RcNeAt.int_tuple _ _ hl2 hu⟩
   | dict c2=>simp [aA] at hnb
  | str c1 =>
   cases b with
   | none =>
    cases (show x=V.str c1 from o1)
    obtain ⟨tk1,rfl⟩:=r1
    cases (show y=V.non from o2)
    cases r2
    exact ⟨EqAt.str_none _ _,RcAt.str_none _ _,RcNeAt.str_none _ _⟩
   | bool c2 =>
    cases (show x=V.str c1 from o1)
    obtain ⟨tk1,rfl⟩:=r1
    cases (show y=V.bl c2 from o2)
    cases r2
    exact ⟨EqAt.str_bool _ _ _,RcAt.str_bool _ _ _,RcNeAt.str_bool _ _ _⟩
   | int c2 =>
    cases (show x=V.str c1 from o1)
    obtain ⟨tk1,rfl⟩:=r1
    cases (show y=V.int c2 from o2)
    obtain ⟨tk2,rfl⟩:=r2
    exact ⟨EqAt.str_int _ _ _ _,RcAt.str_int _ _ _ _,RcNeAt.str_int _ _ _ _⟩
   | str c2 =>
    cases (show x=V.str c1 from o1)
    obtain ⟨tk1,rfl⟩:=r1
    cases (show y=V.str c2 from o2)
    obtain ⟨tk2,rfl⟩:=r2
    exact ⟨EqAt.str_str _ _ _ _,RcAt.str_str _ _ _ _,RcNeAt.str_str _ _ _ _⟩
   | list c2 =>
    cases (show x=V.str c1 from o1)
    obtain ⟨tk1,rfl⟩:=r1
    obtain ⟨p2,vs2,rfl,fz2,w2⟩:=o2.lst0
    cases r2
    obtain ⟨its2,rv2,pl2,_⟩:=I.list fz2.sq
    have hl2:=pl2.isList
    exact ⟨EqAt.str_list _ _ hl2 hu,RcAt.str_list _ _ hl2 hu,RcNeAt.str_list _ _ hl2 hu⟩
   | tuple c2 =>
    cases (show x=V.str c1 from o1)
    obtain ⟨tk1,rfl⟩:=r1
    obtain ⟨p2,vs2,rfl,fz2,w2⟩:=o2.tup0
    cases r2
    obtain ⟨its2,rv2,pl2,_⟩:=I.tuple fz2.sq
    have hl2:s.heap.IsTuple p2 its2.toArray:=pl2
    exact ⟨EqAt.str_tuple _ _ hl2 hu,RcAt.str_tuple _ _ hl2 hu,RcNeAt.str_tuple _ _ hl2 hu⟩
   | dict c2=>simp [aA] at hnb
  | list c1 =>
   cases b with
   | none =>
    obtain ⟨p1,vs1,rfl,fz1,w1⟩:=o1.lst0
    cases r1
    obtain ⟨its1,rv1,pl1,_⟩:=I.list fz1.sq
    have hl1:=pl1.isList
    cases (show y=V.non from o2)
    cases r2
    exact ⟨EqAt.list_none  hl1 hu,RcAt.list_none  hl1 hu,RcNeAt.list_none  hl1 hu⟩
   | bool c2 =>
    obtain ⟨p1,vs1,rfl,fz1,w1⟩:=o1.lst0
    cases r1
    obtain ⟨its1,rv1,pl1,_⟩:=I.list fz1.sq
    have hl1:=pl1.isList
    cases (show y=V.bl c2 from o2)
    cases r2
    exact ⟨EqAt.list_bool _ hl1 hu,RcAt.list_bool _ hl1 hu,RcNeAt.list_bool _ hl1 hu⟩
   | int c2 =>
    obtain ⟨p1,vs1,rfl,fz1,w1⟩:=o1.lst0
    cases r1
    obtain ⟨its1,rv1,pl1,_⟩:=I.list fz1.sq
    have hl1:=pl1.isList
    cases (show y=V.int c2 from o2)
    obtain ⟨tk2,rfl⟩:=r2
    exact ⟨EqAt.list_int _ _ hl1 hu,RcAt.list_int _ _ hl1 hu,RcNeAt.list_int _ _ hl1 hu⟩
   | str c2 =>
    obtain ⟨p1,vs1,rfl,fz1,w1⟩:=o1.lst0
    cases r1
    obtain ⟨its1,rv1,pl1,_⟩:=I.list fz1.sq
    have hl1:=pl1.isList
    cases (show y=V.str c2 from o2)
    obtain ⟨tk2,rfl⟩:=r2
    exact ⟨EqAt.list_str _ _ hl1 hu,RcAt.list_str _ _ hl1 hu,RcNeAt.list_str _ _ hl1 hu⟩
   | list c2 =>
    obtain ⟨p1,vs1,rfl,fz1,w1⟩:=o1.lst0
    cases r1
    obtain ⟨its1,rv1,pl1,_⟩:=I.list fz1.sq
    have hl1:=pl1.isList
    obtain ⟨p2,vs2,rfl,fz2,w2⟩:=o2.lst0
    cases r2
    obtain ⟨its2,rv2,pl2,_⟩:=I.list fz2.sq
    have hl2:=pl2.isList
    have dl:bt c1≤n:=by simp only [cG] at hdp; omega
    have nd1:aE c1=true:=by simpa [aA] using hna
    have nd2:aE c2=true:=by simpa [aA] using hnb
    have el:=qX (A:=A.in1) w1 w2 rv1 rv2 fun j a b x y v u e1 e2 q1 q2 q3 q4=>(ih a b A.in1 x y v u (Nat.le_trans (lq e1) dl) (fQ nd1 e1) (fQ nd2 e2) q1 q2 q3 q4 hu1).1
    have l1:=rv1.length
    have l2:=rv2.length
    have m1:=w1.len
    have m2:=w2.len
    have rc:RcAt A s (.ref p1) (.ref p2) (dY c1 c2)∧RcNeAt A s (.ref p1) (.ref p2) (!dY c1 c2):=by
     by_cases hz:c1.length=c2.length
     ·have hs1:its1.toArray.size=its2.toArray.size:=by rw [List.size_toArray,List.size_toArray]; omega
      have hs2:its1.toArray.size=c1.length:=by rw [List.size_toArray]; omega
      have z1:=RcAt.lists hl1 hl2 hs1 hu el
      have z2:=RcNeAt.lists hl1 hl2 hs1 hu el
      rw [hs2,mE hz] at z1 z2
      exact ⟨z1,z2⟩
     ·have hs1:(its1.toArray.size != its2.toArray.size)=true:=by rw [List.size_toArray,List.size_toArray,bne_iff_ne]; omega
      rw [mD hz]
      exact ⟨RcAt.lists_lengths hl1 hl2 hs1 hu,RcNeAt.lists_lengths hl1 hl2 hs1 hu⟩
    have pe:peq (.list c1) (.list c2)=dY c1 c2:=by simp only [peq]
    refine ⟨?_,by rw [pe]; exact rc.1,by rw [pe]; exact rc.2⟩
    by_cases hp:p1=p2
    ·subst hp
     have:=Ow.inj I _ _ o1 o2 hna
     cases this
     rw [jU _ hna]
     exact EqAt.same _
    ·rw [pe]
     exact EqAt.of_refs hp rc.1
   | tuple c2 =>
    obtain ⟨p1,vs1,rfl,fz1,w1⟩:=o1.lst0
    cases r1
    obtain ⟨its1,rv1,pl1,_⟩:=I.list fz1.sq
    have hl1:=pl1.isList
    obtain ⟨p2,vs2,rfl,fz2,w2⟩:=o2.tup0
    cases r2
    obtain ⟨its2,rv2,pl2,_⟩:=I.tuple fz2.sq
    have hl2:s.heap.IsTuple p2 its2.toArray:=pl2
    exact ⟨EqAt.list_tuple hl1 hl2 hu,RcAt.list_tuple hl1 hl2 hu,RcNeAt.list_tuple hl1 hl2 hu⟩
   | dict c2=>simp [aA] at hnb
  | tuple c1 =>
   cases b with
   | none =>
    obtain ⟨p1,vs1,rfl,fz1,w1⟩:=o1.tup0
    cases r1
    obtain ⟨its1,rv1,pl1,_⟩:=I.tuple fz1.sq
    have hl1:s.heap.IsTuple p1 its1.toArray:=pl1
    cases (show y=V.non from o2)
    cases r2
    exact ⟨EqAt.tuple_none  hl1 hu,RcAt.tuple_none  hl1 hu,RcNeAt.tuple_none  hl1 hu⟩
   | bool c2 =>
    obtain ⟨p1,vs1,rfl,fz1,w1⟩:=o1.tup0
    cases r1
    obtain ⟨its1,rv1,pl1,_⟩:=I.tuple fz1.sq
    have hl1:s.heap.IsTuple p1 its1.toArray:=pl1
    cases (show y=V.bl c2 from o2)
    cases r2
    exact ⟨EqAt.tuple_bool _ hl1 hu,RcAt.tuple_bool _ hl1 hu,RcNeAt.tuple_bool _ hl1 hu⟩
   | int c2 =>
    obtain ⟨p1,vs1,rfl,fz1,w1⟩:=o1.tup0
    cases r1
    obtain ⟨its1,rv1,pl1,_⟩:=I.tuple fz1.sq
    have hl1:s.heap.IsTuple p1 its1.toArray:=pl1
    cases (show y=V.int c2 from o2)
    obtain ⟨tk2,rfl⟩:=r2
    exact ⟨EqAt.tuple_int _ _ hl1 hu,RcAt.tuple_int _ _ hl1 hu,RcNeAt.tuple_int _ _ hl1 hu⟩
   | str c2 =>
    obtain ⟨p1,vs1,rfl,fz1,w1⟩:=o1.tup0
    cases r1
    obtain ⟨its1,rv1,pl1,_⟩:=I.tuple fz1.sq
    have hl1:s.heap.IsTuple p1 its1.toArray:=pl1
    cases (show y=V.str c2 from o2)
    obtain ⟨tk2,rfl⟩:=r2
    exact ⟨EqAt.tuple_str _ _ hl1 hu,RcAt.tuple_str _ _ hl1 hu,RcNeAt.tuple_str _ _ hl1 hu⟩
   | list c2 =>
    obtain ⟨p1,vs1,rfl,fz1,w1⟩:=o1.tup0
    cases r1
    obtain ⟨its1,rv1,pl1,_⟩:=I.tuple fz1.sq
    have hl1:s.heap.IsTuple p1 its1.toArray:=pl1
    obtain ⟨p2,vs2,rfl,fz2,w2⟩:=o2.lst0
    cases r2
    obtain ⟨its2,rv2,pl2,_⟩:=I.list fz2.sq
    have hl2:=pl2.isList
    exact ⟨EqAt.tuple_list hl1 hl2 hu,RcAt.tuple_list hl1 hl2 hu,RcNeAt.tuple_list hl1 hl2 hu⟩
   | tuple c2 =>
    obtain ⟨p1,vs1,rfl,fz1,w1⟩:=o1.tup0
    cases r1
    obtain ⟨its1,rv1,pl1,_⟩:=I.tuple fz1.sq
    have hl1:s.heap.IsTuple p1 its1.toArray:=pl1
    obtain ⟨p2,vs2,rfl,fz2,w2⟩:=o2.tup0
    cases r2
    obtain ⟨its2,rv2,pl2,_⟩:=I.tuple fz2.sq
    have hl2:s.heap.IsTuple p2 its2.toArray:=pl2
    have dl:bt c1≤n:=by simp only [cG] at hdp; omega
    have nd1:aE c1=true:=by simpa [aA] using hna
    have nd2:aE c2=true:=by simpa [aA] using hnb
    have el:=qX (A:=A.in1) w1 w2 rv1 rv2 fun j a b x y v u e1 e2 q1 q2 q3 q4=>(ih a b A.in1 x y v u (Nat.le_trans (lq e1) dl) (fQ nd1 e1) (fQ nd2 e2) q1 q2 q3 q4 hu1).1
    have l1:=rv1.length
    have l2:=rv2.length
    have m1:=w1.len
    have m2:=w2.len
    have rc:RcAt A s (.ref p1) (.ref p2) (dY c1 c2)∧RcNeAt A s (.ref p1) (.ref p2) (!dY c1 c2):=by
     have z1:=RcAt.tuples hl1 hl2 hu el
     have z2:=RcNeAt.tuples hl1 hl2 hu el
     have ez:((List.range (min its1.toArray.size its2.toArray.size)).all (eAt c1 c2) && its1.toArray.size == its2.toArray.size)=dY c1 c2:=by
      rw [List.size_toArray,List.size_toArray]
      by_cases hz:c1.length=c2.length
      ·have h3:its1.length=its2.length:=by omega
       have h4:min its1.length its2.length=c1.length:=by omega
       rw [h4,mE hz,h3,beq_self_eq_true,Bool.and_true]
      ·have h3:(its1.length == its2.length)=false:=by rw [beq_eq_false_iff_ne]; omega
       rw [h3,Bool.and_false,mD hz]
     rw [ez] at z1 z2
     exact ⟨z1,z2⟩
    have pe:peq (.tuple c1) (.tuple c2)=dY c1 c2:=by simp only [peq]
    refine ⟨?_,by rw [pe]; exact rc.1,by rw [pe]; exact rc.2⟩
    by_cases hp:p1=p2
    ·subst hp
     have:=Ow.inj I _ _ o1 o2 hna
     cases this
     rw [jU _ hna]
     exact EqAt.same _
    ·rw [pe]
     exact EqAt.of_refs hp rc.1
   | dict c2=>simp [aA] at hnb
  | dict c1=>simp [aA] at hna
end
def eqD (a b:D):Option D:=grd (aA a=true∧aA b=true∧cG a≤60) (.bool (peq a b))
def neD (a b:D):Option D:=grd (aA a=true∧aA b=true∧cG a≤60) (.bool (!peq a b))
section
variable {X:Cx} {K:PySem.W.Frag}
theorem bX (hK:X.K=K) (hu:X.A.units+64 < cLine):OpR X (compareOp .Eq) (rF2 K eqD 3):=by
 subst hK
 intro pins s σ H x y v u Q I rx ry ⟨O,a,b,t,oa,ob,hd,hg,k⟩
 obtain ⟨⟨c1,c2,c3⟩,rfl⟩:=cw hg
 exact (uj I 60 a b X.A x y v u c3 c1 c2 oa ob rx ry (by omega)).2.1 X.prog X.w _ _ ⟨.bl _,H,I,rfl,k _ H NoA .refl rfl⟩
theorem ji (hK:X.K=K) (hu:X.A.units+64 < cLine):OpR X (compareOp .NotEq) (rF2 K neD 3):=by
 subst hK
 intro pins s σ H x y v u Q I rx ry ⟨O,a,b,t,oa,ob,hd,hg,k⟩
 obtain ⟨⟨c1,c2,c3⟩,rfl⟩:=cw hg
 exact (uj I 60 a b X.A x y v u c3 c1 c2 oa ob rx ry (by omega)).2.2 X.prog X.w _ _ ⟨.bl _,H,I,rfl,k _ H NoA .refl rfl⟩
end
end L2
namespace L2
open PySem PySem.Spec PyProof.Rows
theorem sx {K:PySem.W.Frag} {dps:List Nat} {dr n:Nat} {F:List D→Option (D × En)} {vs:List V} {H:Hp} {Q:VK} {E:XK} (hn:dps.length=n) (h:spF K dps dr F vs H Q E):vs.length=n:=by
 obtain ⟨Ox,ts,R,r,outs,e,_⟩:=h
 have:=e.l2
 rw [List.length_map] at this
 omega
section
variable {X:Cx} {K:PySem.W.Frag} {p:Bool} {J:Jd} {ds ds0 ds1 ds2 ds3 ds':List Nat} {d d' d1 d2 d3:Nat} {a b c e:Expr} {st:Stmt} {f f1 f2 f3:ME} {m:MS} {pos p2:Pos}
theorem DT (h:PS X st (tFS K J ds ds2 m)) (hd:leD ds1 ds2=true):PS X st (tFS K J ds ds1 m):=h.imp fun _ _ _=>va hd
def fV (g g':D→D→Option D) (f1 f2 f3:ME):ME:=fun en=>(f1 en).bind fun r=>(f2 r.2).bind fun q=>(g r.1 q.1).bind fun t=>match t with
 | .bool true=>(f3 q.2).bind fun z=>(g' q.1 z.1).map fun t=>(t,z.2)
 | .bool false=>some (.bool false,q.2)
 | _=>none
theorem sR {g g':D→D→Option D} {σ:St} {H:Hp} {Q:VK} (h:tF K p ds ds1 3 (fV g g' f1 f2 f3) σ H Q) :
  qu (rF2 K g 3) (rF2 K g' 3) (tF K p ds ds0 d1 f1) (tF K p ds0 ds1 d2 f2) (tF K p ds1 ds1 d3 f3) σ H Q:=by
 obtain ⟨Ox,en,R,t,en',e,hf,k⟩:=h
 unfold fV at hf
 obtain ⟨⟨t1,en1⟩,h1,hf⟩:=Option.bind_eq_some_iff.mp hf
 obtain ⟨⟨t2,en2⟩,h2,hf⟩:=Option.bind_eq_some_iff.mp hf
 obtain ⟨tb,h3,hf⟩:=Option.bind_eq_some_iff.mp hf
 refine two (p1:=p) (p2:=p) e h1 h2 fun x y H2 R2 F1 F2 P o1 o2=>?_
 rw [Bool.and_self] at P
 have oy:=Ow.letgo P (fun _=>.inr) o2
 refine ⟨Own R2 Ox,t1,t2,tb,Ow.letgo P (fun _=>.inl) o1,oy,P.doms,h3,fun v3 H3 F3 n3 o3=>?_⟩
 have P3:=P.fin n3
 cases tb with
 | bool bb =>
  refine ⟨bb,o3,?_⟩
  cases bb with
  | false =>
   cases hf
   exact k _ H3 R2 NoA (P3.less fun _ z=>z.elim) rfl
  | true =>
   obtain ⟨⟨t4,en4⟩,h4,hf⟩:=Option.bind_eq_some_iff.mp hf
   obtain ⟨t5,h5,hf⟩:=Option.map_eq_some_iff.mp hf
   cases hf
   have P30:=P3.less (F':=NoA) fun _ z=>z.elim
   refine ⟨Ox,en2,R2,t4,en4,P30.env0,h4,fun v4 H4 R4 F4 P4 o4=>?_⟩
   have P34:=P30.after P4
   rw [Bool.and_self] at P34
   have oy3:Ow K (Own R2 Ox) H3 t2 0 y NoA:=Ow.mv (G:=NoA) ⟨fun a o q _=>n3.1 a o q,fun a z=>.inl z⟩ t2 (fun _ z=>z) oy
   have oy4:Ow K (Own R4 Ox) H4 t2 0 y NoA:=by
    refine Ow.mv (G:=NoA) ⟨fun a o q z=>P4.keep a o q fun i zi=>?_,fun a z=>?_⟩ t2 (fun _ z=>z) oy3
    ·rcases z with z | z
     ·exact z (.inl ⟨i,zi⟩)
     ·exact z
    ·rcases z with z | z
     ·exact (P4.own a (.inr z)).imp .inl id
     ·exact .inl (.inr z)
   exact ⟨Own R4 Ox,t2,t4,_,oy4,Ow.letgo P4 (fun _ z=>z) o4,P4.doms,h5,fun v5 H5 F5 n5 o5=>k v5 H5 R4 F5 (P34.fin n5) (l5 ▸ o5)⟩
 | _=>cases hf
theorem xf {op op':CmpOp} {g g':D→D→Option D} (ho:OpR X (compareOp op) (rF2 K g 3)) (ho':OpR X (compareOp op') (rF2 K g' 3)) (ha:PE X a (tF K p ds ds0 d1 f1)) (hb:PE X b (tF K p ds0 ds1 d2 f2)) (hc:PE X c (tF K p ds1 ds1 d3 f3))
  (hm:lastMarks [op,op'] [b,c]=false):PE X (.Compare a [op,op'] [b,c] pos) (tF K p ds ds1 3 (fV g g' f1 f2 f3)):=(wf ho ho' ha hb hc hm).imp fun _ _ _=>sR
theorem wR {op op':CmpOp} {g g':D→D→Option D} (ho:OpR X (compareOp op) (rF2 K g 3)) (ho':OpR X (compareOp op') (rF2 K g' 3)) (ha:PE X a (tF K p ds ds0 d1 f1)) (hb:PE X b (tF K p ds0 ds1 d2 f2)) (hc:PE X c (tF K p ds1 ds1 d3 f3))
  (hm:lastMarks [op,op'] [b,c]=false):PT X (.Compare a [op,op'] [b,c] pos) (tFT K p ds ds1 (tV (fV g g' f1 f2 f3))) :=
 (v8 ho ho' ha hb hc hm).imp fun σ H Q h=>by
  obtain ⟨Ox,en,R,t,en',e,hf,k⟩:=rg (d:=3) h
  exact sR ⟨Ox,en,R,t,en',e,hf,k⟩
abbrev MO:=En→Option (Option Int × En)
def tFO (K:PySem.W.Frag) (p:Bool) (ds ds':List Nat) (f:MO):TO:=fun σ H Q=>∃ Ox en R o en',EnvOk K ds Ox H σ en R∧f en=some (o,en')∧∀ H' R',Post K p ds' Ox σ H en R en' H' R' NoA→Q o H'
def cq:MO:=fun en=>some (none,en)
def bW (f:ME):MO:=fun en=>(f en).bind fun r=>match r.1 with
 | .int i=>some (some i,r.2)
 | _=>none
theorem PO.imp {X:Cx} {e:Option Expr} {t t':TO} (h:PO X e t) (hi:∀ σ H Q,t' σ H Q→t σ H Q):PO X e t':=fun pins s σ H Q I hw=>h pins s σ H Q I (hi _ _ _ hw)
theorem D2:PO X none (tFO K p ds ds cq):=po_none.imp fun σ H Q ⟨Ox,en,R,o,en',e,hf,k⟩=>by
 cases hf
 exact k H R (Post.refl e)
theorem D0 (h:PE X e (tF K p ds ds1 d f)):PO X (some e) (tFO K p ds ds1 (bW f)):=(Dq h).imp fun σ H Q ⟨Ox,en,R,o,en',e,hf,k⟩=>by
 unfold bW at hf
 obtain ⟨⟨t1,en1⟩,h1,hf⟩:=Option.bind_eq_some_iff.mp hf
 refine ⟨Ox,en,R,t1,en1,e,h1,fun v H' R' F P o=>?_⟩
 cases t1 with
 | int i=>cases hf; exact ⟨i,o,k H' R' (P.less fun _ z=>z.elim)⟩
 | _=>cases hf
def rFs (K:PySem.W.Frag) (g:D→Option Int→Option Int→Option D) (d:Nat):V→Option Int→Option Int→Hp→VK→Prop:=fun x lo hi H Q=>∃ (O:AS) (a t:D),Ow K O H a 0 x NoA∧(∀ a,O a→∃ o,H a=some o)∧g a lo hi=some t∧∀ v H' F,NewTo H H' F→Ow K (U F O) H' t d v F→Q v H'
def eSl (g:D→Option Int→Option Int→Option D) (f:ME) (lo hi:MO):ME:=fun en=>(f en).bind fun r=>(lo r.2).bind fun l=>(hi l.2).bind fun h=>(g r.1 l.1 h.1).map fun t=>(t,h.2)
variable {lo hi:MO}
theorem Ow.past0 {H1 H2:Hp} {R1 R2:Nat→AS} {Ox:AS} {σ:St} {en1 en2:En} {F2:AS} {t:D} {v:V} (P2:Post K p ds2 Ox σ H1 en1 R1 en2 H2 R2 F2) (h:Ow K (Own R1 Ox) H1 t 0 v NoA):Ow K (Own R2 Ox) H2 t 0 v NoA:=by
 refine Ow.mv (G:=NoA) ⟨fun a o q z=>P2.keep a o q fun i zi=>?_,fun a z=>?_⟩ t (fun _ z=>z) h
 ·rcases z with z | z
  ·exact z (.inl ⟨i,zi⟩)
  ·exact z
 ·rcases z with z | z
  ·exact (P2.own a (.inr z)).imp .inl id
  ·exact .inl (.inr z)
theorem JW {g:D→Option Int→Option Int→Option D} {σ:St} {H:Hp} {Q:VK} (h:tF K p ds ds3 d (eSl g f lo hi) σ H Q):tSl (rFs K g d) (tF K p ds ds1 d1 f) (tFO K p ds1 ds2 lo) (tFO K p ds2 ds3 hi) σ H Q:=by
 obtain ⟨Ox,en,R,t,en',e,hf,k⟩:=h
 unfold eSl at hf
 obtain ⟨⟨t1,en1⟩,h1,hf⟩:=Option.bind_eq_some_iff.mp hf
 obtain ⟨⟨l,en2⟩,h2,hf⟩:=Option.bind_eq_some_iff.mp hf
 obtain ⟨⟨u,en3⟩,h3,hf⟩:=Option.bind_eq_some_iff.mp hf
 obtain ⟨t',h4,hf⟩:=Option.map_eq_some_iff.mp hf
 cases hf
 refine ⟨Ox,en,R,t1,en1,e,h1,fun v H1 R1 F1 P1 o1=>?_⟩
 have o0:=Ow.letgo P1 (fun _ z=>z) o1
 refine ⟨Ox,en1,R1,l,en2,P1.env0,h2,fun H2 R2 P2=>?_⟩
 refine ⟨Ox,en2,R2,u,en3,P2.env0,h3,fun H3 R3 P3=>?_⟩
 have P:=(P1.after P2).after P3
 rw [Bool.and_self,Bool.and_self] at P
 exact ⟨Own R3 Ox,t1,t,(o0.past0 P2).past0 P3,P3.doms,h4,fun v4 H4 F4 n4 o4=>k v4 H4 R3 F4 (P.fin n4) (l5 ▸ o4)⟩
theorem SlR.imp {r r':V→Option Int→Option Int→Hp→VK→Prop} (h:SlR X r) (hi:∀ x lo hi H Q,r' x lo hi H Q→r x lo hi H Q):SlR X r':=fun pins s σ H x v vl vu lo hi' sl Q I rx hs pl pu q=>h pins s σ H x v vl vu lo hi' sl Q I rx hs pl pu (hi _ _ _ _ _ q)
theorem w8 {g:D→Option Int→Option Int→Option D} {elo ehi:Option Expr} (hr:SlR X (rFs K g d)) (he:PE X e (tF K p ds ds1 d1 f)) (hl:PO X elo (tFO K p ds1 ds2 lo)) (hu:PO X ehi (tFO K p ds2 ds3 hi)):PE X (.Subscript e (.Slice elo ehi none p2) pos) (tF K p ds ds3 d (eSl g f lo hi)) :=
 (we hr he hl hu).imp fun _ _ _=>JW
def dA {α:Type} (xs:List α) (lo hi:Option Int):List α:=(xs.drop (HT.sIx xs.length 0 lo)).take (HT.sIx xs.length xs.length hi - HT.sIx xs.length 0 lo)
def Kp:D→Option Int→Option Int→Option D
 | .list ts,lo,hi=>some (.list (dA ts lo hi))
 | _,_,_=>none
def gW:D→Option Int→Option Int→Option D
 | .str z,lo,hi=>grd (z.length≤sizeLine) (.str ⟨(db z.cps.toList lo hi).toArray⟩)
 | _,_,_=>none
theorem fm:SlR X (rFs K gW 3):=sl_str.imp fun x lo hi H Q ⟨O,a,t,oa,hd,hg,k⟩=>by
 cases a with
 | str z =>
  obtain ⟨c,rfl⟩:=cw hg
  exact ⟨z,oa,c,k _ H NoA .refl rfl⟩
 | _=>cases hg
end
end L2
namespace L2
open PySem PySem.Spec PyProof.Rows
def kEq:D→D→Bool
 | .int a,.int b=>a == b
 | .str a,.str b=>a == b
 | _,_=>false
def kOf:D→Option Key
 | .int i=>some (.inl i)
 | .str x=>some (.inr x)
 | _=>none
def C9 (ks:List (D × D)) (q:D):Option D:=(ks.find? fun kv=>kEq kv.1 q).map (·.2)
def JY (ks:List (D × D)) (q t:D):List (D × D):=if ks.any (fun kv=>kEq kv.1 q) then ks.map (fun kv=>if kEq kv.1 q then (kv.1,t) else kv) else ks++[(q,t)]
section
variable {K:PySem.W.Frag} {O:AS} {H:Hp} {d:Nat}
end
def qh:ME:=eC (.dict [])
def KA:D→D→Option D
 | .dict ks,q=>(kOf q).bind fun _=>C9 ks q
 | _,_=>none
section
variable {X:Cx} {K:PySem.W.Frag} {p:Bool} {J:Jd} {ds ds0 ds1 ds2 ds':List Nat} {d d' d1 d2:Nat} {a b c e o k:Expr} {f f1 f2 fk fe:ME} {pos px spos:Pos} {i:Nat} {σ:St} {H:Hp} {Q:VK} {Dn:Ends}
theorem Ea:PE X (.Dict [] [] pos) (tF K p ds ds 3 qh):=pe_dnewK.imp fun σ H Q ⟨Ox,en,R,t,en',e,hf,k⟩=>by
 cases hf
 intro l hl
 have n:NewTo H (upd H l (.dK [])) (fun b=>b=l):=cW hl
 exact k (.ref l) _ R _ (Post.new e n.1 n.2) ⟨l,[],rfl,.inr (.inl ⟨by decide,bC,rfl,NoA,fun _ z=>z.elim,rfl⟩)⟩
def Ke (i:Nat) (f:ME):ME:=fun en=>(en[i]?).join.bind fun _=>(f en).bind fun r=>match (r.2[i]?).join with
 | some (.dict ks)=>(kOf r.1).bind fun _=>(C9 ks r.1).map fun t=>(t,r.2)
 | _=>none
end
end L2
namespace L2
open PySem PySem.Spec PyProof.Rows
def evP:List (ME × ME)→En→Option (List (D × D) × En)
 | [],en=>some ([],en)
 | (fk,fv) :: r,en=>(fk en).bind fun x=>(fv x.2).bind fun y=>(evP r y.2).bind fun z=>(kOf x.1).map fun _=>((x.1,y.1) :: z.1,z.2)
def Hf (ks:List (D × D)):List (D × D):=ks.foldl (fun acc kv=>JY acc kv.1 kv.2) []
def JC (fs:List (ME × ME)):ME:=fun en=>(evP fs en).bind fun r=>if r.1.length≤15 then some (.dict (Hf r.1),r.2) else none
section
variable {X:Cx} {K:PySem.W.Frag} {p:Bool} {J:Jd} {ds ds0 ds1 ds2 ds':List Nat} {d d' d1 d2:Nat} {a b c e o k:Expr} {es:List Expr} {f f1 f2 fk fe:ME} {fa:MA} {sh:Sh} {pos px spos:Pos} {i j:Nat} {σ:St} {H:Hp} {Q:VK} {Dn:Ends}
def Kq (i j:Nat) (fa:MA):MS:=fun en=>(fa en).bind fun r=>match r.1 with
 | [.inl a,.inl b]=>some (.nx ((r.2.set i (some a)).set j (some b)))
 | _=>none
end
section
variable {X:Cx} {K:PySem.W.Frag}
end
end L2
namespace L2
open PySem PySem.Spec PyProof.Rows
section
variable {X:Cx} {K:PySem.W.Frag} {O:AS} {H:Hp} {ts us:List D} {vs ws:List V} {x y:V} {d:Nat} {Q:VK}
def IK (K:PySem.W.Frag):List V→Hp→VK→Prop:=fun xs H Q=>∃ (p:Addr) (ns:List Int),xs=[.ref p]∧SqL K H p (ns.map V.int)∧Q (.int ns.sum) H
theorem vG (hc:X.calm=true):CallR X (.builtin "sum") (IK X.K):=by
 intro pins s σ H xs us Q I r h
 obtain ⟨p,ns,rfl,hp,q⟩:=h
 obtain ⟨u,rfl,ru⟩:=dm r
 cases ru
 obtain ⟨its,rv,pl,hz⟩:=I.list hp
 have hl:its.length=ns.length:=by rw [← rv.length,List.length_map]
 have hlt:p < s.heap.objs.size:=by
  obtain ⟨o,n,e,_⟩:=id pl
  exact Heap.lt_size e
 have hsz:its.toArray.size=ns.length:=by rw [List.size_toArray,hl]
 refine call_sum_walkAnyS (wpAny_pyIter_list pl.isList ?_)
 refine ⟨s.heap.objs.size,[s.heap.objs.size,p],[s.heap.objs.size],_,its.toArray.size,fun i v=>its.toArray[i]?=some v,_,fun i=>ns.getD i 0,rfl,(Walks.list (A:=X.A.in1) (show X.A.in1.handled=none from I.ok.hd hc) s.heap.objs.size p (Nat.ne_of_lt hlt) its.toArray).toS,?_,?_,?_,?_⟩
 ·exact ⟨⟨_,Heap.get?_push_size _ rfl,rfl,rfl⟩,pl.isList.push _⟩
 ·intro b hb
  show b < (s.heap.push _).objs.size
  rw [Heap.size_push]
  have hb':b=s.heap.objs.size∨b=p:=by simpa using hb
  rcases hb' with rfl | rfl
  ·exact Nat.lt_succ_self _
  ·exact Nat.lt_succ_of_lt hlt
 ·intro i v hv
  have hv':its[i]?=some v:=by simpa using hv
  have hi:i < ns.length:=by
   rw [← hl]
   exact (List.getElem?_eq_some_iff.mp hv').1
  obtain ⟨u,hu,ru⟩:=rv.get (i:=i) (x:=V.int ns[i]) (by rw [List.getElem?_map,List.getElem?_eq_getElem hi]; rfl)
  rw [hu] at hv'
  cases hv'
  obtain ⟨t,rfl⟩:=ru
  refine ⟨t,?_⟩
  show Value.int ns[i] t=Value.int (ns.getD i 0) t
  rw [List.getD_eq_getElem?_getD,List.getElem?_eq_getElem hi]
  rfl
 ·intro s' t' hm
  have e:preSum (fun i=>ns.getD i 0) its.toArray.size=ns.sum:=by
   rw [hsz,l9 ns ns.length (Nat.le_refl _),List.take_length]
  rw [e]
  obtain ⟨hh,g,dr,tk,os'⟩:=s'
  have e1:dr=s.drawn:=hm.drawn
  have e2:os'=s.os:=hm.os
  have e3:g=s.gens:=hm.gens
  subst e1 e2 e3
  refine ⟨.int ns.sum,H,I.kept (t':=tk) fun b o z=>hm.heap b o ?_ (Heap.get?_push_of_some _ z),⟨_,rfl⟩,q⟩
  intro z'
  have z'':b=s.heap.objs.size:=by simpa using z'
  exact Nat.ne_of_lt (Heap.lt_size z) z''
def fR:List D→Option (List Int)
 | []=>some []
 | .int i :: r=>(fR r).map (i :: ·)
 | _ :: _=>none
theorem jV:∀ {ts:List D} {vs:List V} {bs:List Int},Ows K O H ts 0 vs NoA→fR ts=some bs→vs=bs.map V.int
 | [],_,_,h,hb=>by cases hb; exact h
 | .int b :: r,_,_,h,hb=>by
  obtain ⟨v,w,F1,F2,e,_,_,_,h4,h5⟩:=h
  obtain ⟨bs',h6,h7⟩:=Option.map_eq_some_iff.mp hb
  subst e h7
  rw [show v=.int b from h4,jV (Ows.any0 r h5) h6]
  rfl
 | .none :: _,_,_,_,hb=>by cases hb
 | .bool _ :: _,_,_,_,hb=>by cases hb
 | .str _ :: _,_,_,_,hb=>by cases hb
 | .list _ :: _,_,_,_,hb=>by cases hb
 | .tuple _ :: _,_,_,_,hb=>by cases hb
 | .dict _ :: _,_,_,_,hb=>by cases hb
def oq:List D→Option D
 | [.list ts]=>(fR ts).map fun ns=>.int ns.sum
 | _=>none
theorem HP (hK:X.K=K) (hc:X.calm=true):CallR X (.builtin "sum") (rFn K oq 3):=by
 subst hK
 refine (vG hc).imp fun xs H Q ⟨O,as,t,oa,hd,hg,k⟩=>?_
 match as,hg with
 | [.list ts],hg =>
  obtain ⟨ns,h1,rfl⟩:=Option.map_eq_some_iff.mp hg
  obtain ⟨v,rfl,o⟩:=oa.one
  obtain ⟨a,vs,rfl,fz,w⟩:=o.lst0
  have e:=jV w h1
  subst e
  exact ⟨a,ns,rfl,fz.sq,k _ H NoA .refl rfl⟩
end
end L2
namespace L2
open PySem PySem.Spec PyProof.Rows
section
variable {X:Cx} {K:PySem.W.Frag} {p:Bool} {ds ds1:List Nat} {O:AS} {H:Hp} {σ:St} {d:Nat} {f:ME} {i:Nat} {e:Expr} {Q:VK}
end
end L2
namespace L2
open PySem PySem.Spec PyProof.Rows
section
variable {X:Cx} {K:PySem.W.Frag} {p:Bool} {ds ds1:List Nat} {d:Nat} {fa:MA} {sh:Sh} {O O1:AS} {H0 H:Hp} {ts us:List D} {vs ws:List V} {a b:Addr}
def vP (ts us:List D):List D:=List.zipWith (fun x y=>.tuple [x,y]) ts us
def Kl (fa:MA):MI:=fun en=>(fa en).bind fun r=>match r.1 with
 | [.inl (.list ts),.inl (.list us)]=>some (vP ts us,r.2)
 | _=>none
end
end L2
namespace L2
open PySem PySem.Spec PyProof.Rows
section
variable {X:Cx} {K:PySem.W.Frag} {p:Bool} {ds ds1:List Nat} {d1:Nat} {e:Expr} {f:ME}
end
end L2
namespace L2
open PySem PySem.Spec PyProof.Rows
section
variable {X:Cx} {K:PySem.W.Frag} {p p1 p2:Bool} {ds ds1 ds2:List Nat} {d d1:Nat} {e:Expr} {f:ME} {fa:MA} {sh:Sh} {σ:St} {H:Hp} {Q:VK}
def eM (g:Str→List D→Option D) (f:ME) (fa:MA):ME:=fun en=>(f en).bind fun r=>match r.1 with
 | .str z=>(fa r.2).bind fun q=>(ck q.1).bind fun ts=>(g z ts).map fun t=>(t,q.2)
 | _=>none
structure MtF (K:PySem.W.Frag) (r:V→List V→Hp→VK→Prop) (g:Str→List D→Option D):Prop where
 h:∀ {O:AS} {H:Hp} {z:Str} {ts:List D} {xs:List V} {t:D} {Q:VK},Ows K O H ts 0 xs NoA→g z ts=some t→(∀ v,Ow K O H t 3 v NoA→Q v H)→r (.str z) xs H Q
theorem Iq {r:V→List V→Hp→VK→Prop} {g:Str→List D→Option D} (hr:MtF K r g) (hs:dq 0 sh=true) (h:tF K (p1 && p2) ds ds2 3 (eM g f fa) σ H Q):tBM K "str" r (tF K p1 ds ds1 d1 f) (tFA K p2 ds1 ds2 sh fa) σ H Q:=by
 obtain ⟨Ox,en,R,t,en',e,hf,k⟩:=h
 unfold eM at hf
 obtain ⟨⟨t1,en1⟩,h1,hf⟩:=Option.bind_eq_some_iff.mp hf
 dsimp only at hf
 split at hf
 case h_2=>cases hf
 next z =>
 obtain ⟨⟨as,en2⟩,h2,hf⟩:=Option.bind_eq_some_iff.mp hf
 obtain ⟨ts,h3,hf⟩:=Option.bind_eq_some_iff.mp hf
 obtain ⟨t',h4,hf⟩:=Option.map_eq_some_iff.mp hf
 cases hf
 refine ⟨Ox,en,R,.str z,en1,e,h1,fun x H1 R1 F1 P1 o1=>?_⟩
 have ex:x=.str z:=o1
 subst ex
 refine ⟨rfl,Ox,en1,R1,as,en2,P1.env0,h2,fun vs H2 R2 F P2 o=>?_⟩
 have P:=P1.after P2
 obtain ⟨F',s1,s2⟩:=OwA.ows hs h3 o
 have o2:Ows K (Own R2 Ox) H2 ts 0 vs F':=s2 _ (fun a z=>z.imp id .inr) fun a z z2=>by
  rcases z2 with ⟨i,z2⟩ | z2
  ·exact absurd (.inl z) (P.env.dx i a z2)
  ·exact absurd z2 (P.fx a z)
 refine hr.h (Ows.any0 ts o2) h4 fun v ov=>k v H2 R2 NoA (P.less fun _ z=>z.elim) ?_
 rw [gZ]
 exact ov
def joinD:Str→List D→Option D
 | sep,[.list ts]=>(strsOf ts).bind fun ys=>if sep.length≤16∧(ys.map (·.length)).sum+ys.length≤1048576 then some (.str (Txt.join sep ys)) else none
 | sep,[.tuple ts]=>(strsOf ts).bind fun ys=>if sep.length≤16∧(ys.map (·.length)).sum+ys.length≤1048576 then some (.str (Txt.join sep ys)) else none
 | _,_=>none
where strsOf:List D→Option (List Str)
 | []=>some []
 | .str z :: r=>(strsOf r).map (z :: ·)
 | _ :: _=>none
theorem mF {O:AS}:∀ {ts:List D} {ys:List Str} {xs:List V},joinD.strsOf ts=some ys→Ows K O H ts 0 xs NoA→xs=ys.map V.str
 | [],ys,xs,h,o=>by
  cases h
  exact o
 | t :: ts,ys,xs,h,o=>by
  obtain ⟨v,r,F1,F2,e,_,_,_,h4,h5⟩:=o
  cases t with
  | str z =>
   obtain ⟨ys',h6,rfl⟩:=Option.map_eq_some_iff.mp h
   have e4:v=.str z:=h4
   rw [e,e4,mF h6 (Ows.any0 ts h5)]
   rfl
  | _=>cases h
theorem dM:MtF K (CI K) joinD where
 h:=fun {O H z ts xs t Q} o hg q=>by
  unfold joinD at hg
  split at hg
  ·next us =>
   obtain ⟨ys,h1,h2⟩:=Option.bind_eq_some_iff.mp hg
   by_cases hc:z.length≤16∧(ys.map (·.length)).sum+ys.length≤1048576
   case neg=>rw [if_neg hc] at h2; cases h2
   rw [if_pos hc] at h2
   cases h2
   obtain ⟨v,r,F1,F2,e,_,_,_,h4,h5⟩:=o
   have e5:r=[]:=h5
   subst e5 e
   obtain ⟨a,vs,rfl,fz,w⟩:=(Ow.any0 _ h4).lst0
   have e6:=mF h1 w
   subst e6
   exact ⟨z,ys,a,rfl,rfl,.inl fz.sq,hc.1,hc.2,q _ rfl⟩
  ·next us =>
   obtain ⟨ys,h1,h2⟩:=Option.bind_eq_some_iff.mp hg
   by_cases hc:z.length≤16∧(ys.map (·.length)).sum+ys.length≤1048576
   case neg=>rw [if_neg hc] at h2; cases h2
   rw [if_pos hc] at h2
   cases h2
   obtain ⟨v,r,F1,F2,e,_,_,_,h4,h5⟩:=o
   have e5:r=[]:=h5
   subst e5 e
   obtain ⟨a,vs,rfl,fz,w⟩:=(Ow.any0 _ h4).tup0
   have e6:=mF h1 w
   subst e6
   exact ⟨z,ys,a,rfl,rfl,.inr fz.sq,hc.1,hc.2,q _ rfl⟩
  ·cases hg
def J6:Str→List D→Option D
 | z,[.str y]=>some (.bool (Txt.startswith z y))
 | _,_=>none
def Km:Str→List D→Option D
 | z,[.str y]=>some (.bool (Txt.endswith z y))
 | _,_=>none
def nJ:Str→List D→Option D
 | z,[.str y]=>match Builtin.Str.occurrences z y 0 z.length 1 with
  | i :: _=>some (.int (i:Nat))
  | []=>none
 | _,_=>none
theorem qF {O:AS} {y:Str} {xs:List V} (o:Ows K O H [.str y] 0 xs NoA):xs=[.str y]:=by
 obtain ⟨v,r,F1,F2,e,_,_,_,h4,h5⟩:=o
 have e4:v=.str y:=h4
 have e5:r=[]:=h5
 rw [e,e4,e5]
theorem wY:MtF K uE nJ where
 h:=fun {O H z ts xs t Q} o hg q=>by
  unfold nJ at hg
  split at hg
  ·next y =>
   split at hg
   ·next i rest he =>
    cases hg
    exact ⟨z,y,i,rest,rfl,qF o,he,q _ rfl⟩
   ·cases hg
  ·cases hg
theorem D7 {o:Expr} {es:List Expr} {name:Str} {id:String} {apos cpos:Pos} {r:V→List V→Hp→VK→Prop} {g:Str→List D→Option D} (hK:X.K=K) (slot:Slot "str" name id) (hty:typeOf (.builtin id)=pure (.type "method_descriptor")) (hm:MtR X id r) (hr:MtF K r g) (ho:PE X o (tF K p ds ds1 d1 f)) (ha:PA X (e :: es) (tFA K p ds1 ds2 sh fa))
  (hsh:dq 0 sh=true) (hbase:attributeBase o name X.env (eval o X.env)=eval o X.env)
  (hfew:((backTo cpos (starEach (e :: es) X.env)).all (fun x=>!x.1) && (backToKw cpos (keywordEach [] X.env)).all (fun x=>x.1.isSome)
   && decide ((e :: es).length+([]:List Keyword).length+(if ([]:List Keyword).isEmpty then 0 else 1) < 30))=true)
  (hline:(apos.endLine == cpos.line)=true) (hs:starEach (e :: es) X.env=(false,eval e X.env) :: starEach es X.env) (hplain:(backTo cpos (starEach es X.env)).any (·.1)=false) :
  PE X (.Call (.Attribute o name apos) (e :: es) [] cpos) (tF K p ds ds2 3 (eM g f fa)):=by
 subst hK
 exact (CN PySem.F.plainAttrs_str slot hty hm ho ha hbase hfew hline hs hplain).imp fun _ _ _ h=>Iq hr hsh (by rw [Bool.and_self]; exact h)
end
end L2
namespace L2
open PySem PySem.Spec PyProof.Rows
section
variable {X:Cx} {K:PySem.W.Frag} {pins:List (Addr × Obj)} {σ:St} {H:Hp} {s:Shared} {O:AS}
mutual
theorem Ow.reads (I:Inv X pins σ H s):∀ (t:D) {v:V} {u:Value},aA t=true→Ow X.K O H t 0 v NoA→RelV v u→∃ as,Reads s.heap u t as
 | .none,_,_,_,h,r=>by
  cases (show _=V.non from h)
  cases r
  exact ⟨_,.none⟩
 | .bool b,_,_,_,h,r=>by
  cases (show _=V.bl b from h)
  cases r
  exact ⟨_,.bool _⟩
 | .int i,_,_,_,h,r=>by
  cases (show _=V.int i from h)
  obtain ⟨t,rfl⟩:=r
  exact ⟨_,.int _ _⟩
 | .str x,_,_,_,h,r=>by
  cases (show _=V.str x from h)
  obtain ⟨t,rfl⟩:=r
  exact ⟨_,.str _ _⟩
 | .list ts,_,_,hn,h,r=>by
  obtain ⟨p,vs,rfl,fz,w⟩:=h.lst0
  cases r
  obtain ⟨its,rv,⟨o,n,e1,e2,_,e3⟩,_⟩:=I.list fz.sq
  obtain ⟨as,ra⟩:=Ows.reads I ts (by simpa [aA] using hn) w rv
  exact ⟨_,.list e1 e2 e3 (by simpa using ra)⟩
 | .tuple ts,_,_,hn,h,r=>by
  obtain ⟨p,vs,rfl,fz,w⟩:=h.tup0
  cases r
  obtain ⟨its,rv,⟨o,e1,e2,n,e3⟩,_⟩:=I.tuple fz.sq
  obtain ⟨as,ra⟩:=Ows.reads I ts (by simpa [aA] using hn) w rv
  exact ⟨_,.tuple e1 e2 e3 (by simpa using ra)⟩
 | .dict _,_,_,hn,_,_=>by simp [aA] at hn
theorem Ows.reads (I:Inv X pins σ H s):∀ (ts:List D) {vs:List V} {us:List Value},aE ts=true→Ows X.K O H ts 0 vs NoA→Vals vs us→∃ as,ReadsAll s.heap us ts as
 | [],_,_,_,h,r=>by
  cases (show _=[] from h)
  cases r
  exact ⟨_,.nil⟩
 | t :: ts,_,_,hn,h,r=>by
  obtain ⟨v,q,F1,F2,e,_,_,_,h4,h5⟩:=h
  subst e
  have hn':aA t=true∧aE ts=true:=by simpa [aE] using hn
  cases r with
  | cons ru rr =>
   obtain ⟨as,a1⟩:=Ow.reads I t hn'.1 (Ow.any0 t h4) ru
   obtain ⟨bs,a2⟩:=Ows.reads I ts hn'.2 (Ows.any0 ts h5) rr
   exact ⟨_,.cons a1 a2⟩
end
end
section
open PySem.SeqAt Classical
variable {X:Cx} {K:PySem.W.Frag} {pins:List (Addr × Obj)} {σ:St} {H:Hp} {s:Shared} {O:AS}
noncomputable def eqF (X:Cx) (O:AS) (H:Hp) (a:D) (u:Value):Bool:=decide (∃ d v,RelV v u∧aA d=true∧Ow X.K O H d 0 v NoA∧peq d a=true)
theorem nR (I:Inv X pins σ H s) {a d:D} {v:V} {u:Value} (r:RelV v u) (hn:aA d=true) (o:Ow X.K O H d 0 v NoA):eqF X O H a u=peq d a:=by
 unfold eqF
 cases h:peq d a with
 | true=>exact decide_eq_true ⟨d,v,r,hn,o,h⟩
 | false =>
  refine decide_eq_false fun ⟨d',v',r',hn',o',h'⟩=>?_
  have e:=r.inj r'
  subst e
  have:=Ow.inj I d d' o o' hn
  subst this
  rw [h] at h'
  cases h'
theorem oW (I:Inv X pins σ H s) {a:D}:∀ {ts:List D} {vs:List V} {us:List Value},aE ts=true→Ows X.K O H ts 0 vs NoA→Vals vs us→us.any (eqF X O H a)=ts.any fun t=>peq t a
 | [],_,_,_,h,r=>by
  cases (show _=[] from h)
  cases r
  rfl
 | t :: ts,_,_,hn,h,r=>by
  obtain ⟨v,q,F1,F2,e,_,_,_,h4,h5⟩:=h
  subst e
  have hn':aA t=true∧aE ts=true:=by simpa [aE] using hn
  cases r with
  | cons ru rr=>rw [List.any_cons,List.any_cons,nR I ru hn'.1 (Ow.any0 t h4),oW I hn'.2 (Ows.any0 ts h5) rr]
theorem jI (I:Inv X pins σ H s) {A:Around} {a:D} {x:V} {v:Value} (hna:aA a=true) (oa:Ow X.K O H a 0 x NoA) (ra:RelV x v) (hu:A.units+60+1 < cLine):∀ {ts:List D} {vs:List V} {us:List Value},aE ts=true→bt ts≤60→Ows X.K O H ts 0 vs NoA→Vals vs us→∀ u∈us,EqAt A s u v (eqF X O H a u)
 | [],_,_,_,_,h,r=>by
  cases (show _=[] from h)
  cases r
  exact fun u hu=>by cases hu
 | t :: ts,_,_,hn,hdp,h,r=>by
  obtain ⟨w,q,F1,F2,e,_,_,_,h4,h5⟩:=h
  subst e
  have hn':aA t=true∧aE ts=true:=by simpa [aE] using hn
  have hd':cG t≤60∧bt ts≤60:=by simp only [bt] at hdp; omega
  cases r with
  | cons ru rr =>
   intro u' hu'
   rcases List.mem_cons.mp hu' with rfl | hu'
   ·rw [nR I ru hn'.1 (Ow.any0 t h4)]
    exact (uj I 60 t a A w x _ v hd'.1 hn'.1 hna (Ow.any0 t h4) oa ru ra hu).1
   ·exact jI I hna oa ra hu hn'.2 hd'.2 (Ows.any0 ts h5) rr u' hu'
def inL:D→D→Option D
 | x,.list ts=>grd (aA x=true∧aE ts=true∧bt ts≤60) (.bool (ts.any fun t=>peq t x))
 | x,.tuple ts=>grd (aA x=true∧aE ts=true∧bt ts≤60) (.bool (ts.any fun t=>peq t x))
 | _,_=>none
theorem C2 (hK:X.K=K) (hu:X.A.units+64 < cLine):OpR X (compareOp .In) (rF2 K inL 3):=by
 subst hK
 intro pins s σ H x y v u Q I rx ry ⟨O,a,b,t,oa,ob,hd,hg,k⟩
 have hu1:X.A.in1.units+60+1 < cLine:=by show X.A.units+1+60+1 < cLine; omega
 cases b with
 | list ts =>
  obtain ⟨⟨c1,c2,c3⟩,rfl⟩:=cw hg
  obtain ⟨p,vs,rfl,fz,w⟩:=ob.lst0
  cases ry
  obtain ⟨its,r,pl,hz⟩:=I.list fz.sq
  refine SeqAt.in_listAt (eqF X O H a) pl.isList (fun z hz=>jI I c1 oa rx hu1 c2 c3 w r z (by simpa using hz)) ⟨.bl _,H,I,rfl,?_⟩
  rw [show its.toArray.any (eqF X O H a)=its.any (eqF X O H a) by simp,oW I c2 w r]
  exact k _ H NoA .refl rfl
 | tuple ts =>
  obtain ⟨⟨c1,c2,c3⟩,rfl⟩:=cw hg
  obtain ⟨p,vs,rfl,fz,w⟩:=ob.tup0
  cases ry
  obtain ⟨its,r,pl,hz⟩:=I.tuple fz.sq
  refine SeqAt.in_tupleAt (eqF X O H a) pl (fun z hz=>jI I c1 oa rx hu1 c2 c3 w r z (by simpa using hz)) ⟨.bl _,H,I,rfl,?_⟩
  rw [show its.toArray.any (eqF X O H a)=its.any (eqF X O H a) by simp,oW I c2 w r]
  exact k _ H NoA .refl rfl
 | _=>cases hg
end
end L2
namespace L2
open PySem PySem.Spec PyProof.Rows
section
variable {K:PySem.W.Frag} {O:AS} {H:Hp}
end
abbrev MP:=En→Option (List Nat × En)
section
variable {X:Cx} {K:PySem.W.Frag} {p p1 p2:Bool} {J:Jd} {ds ds1 ds2:List Nat} {H:Hp} {σ:St} {d d1 d2 i m:Nat} {f fk fe:ME} {mp:MP} {e b o:Expr} {Q:VK}
end
end L2
namespace L2
open PySem PySem.Spec PyProof.Rows
theorem DC {P:Program} {w:World} {K:PySem.W.Frag} {mg:Str→Option Value} {base:Heap} {k dr:Nat} {x:Str} {ps:List Str} {dps:List Nat} {f:Addr} {fd:FuncData} (m:mg x=some (.ref f)) (hk:PySem.W.keepIn K (.ref f)=true) (b:Binds K fd ps []):Kn P w K mg base k x ps (spF K dps dr fun _=>none) :=
 ⟨f,fd,⟨fun vs H Q E ⟨_,_,_,_,_,_,z,_⟩=>(nomatch z),fun A outer s H args us vs Q E _ _ _ _ ⟨_,_,_,_,_,_,z,_⟩=>(nomatch z)⟩,m,hk,b⟩
end L2
namespace L2
open PySem PySem.Spec PyProof.Rows
def cK (f:Nat→Str):Nat→List Str
 | 0=>[]
 | i+1=>if (cK f i).any (· == f i)=true then cK f i else cK f i++[f i]
theorem jg (f:Nat→Str) (i:Nat):cK f (i+1)=if (cK f i).any (· == f i)=true then cK f i else cK f i++[f i]:=rfl
theorem oF (f:Nat→Str):∀ i,(cK f i).length≤i
 | 0=>Nat.le_refl _
 | i+1=>by
  have h:=oF f i
  rw [jg]
  by_cases q:(cK f i).any (· == f i)=true
  ·rw [if_pos q]; omega
  ·rw [if_neg q,List.length_append]; show _+1≤_; omega
theorem wq (f:Nat→Str) (i:Nat) (x:Str):(cK f (i+1)).any (· == x)=((cK f i).any (· == x) || decide (x=f i)):=by
 rw [jg]
 by_cases q:(cK f i).any (· == f i)=true
 ·rw [if_pos q]
  by_cases e:x=f i
  ·rw [e,q,decide_eq_true rfl]; rfl
  ·rw [decide_eq_false e,Bool.or_false]
 ·rw [if_neg q,List.any_append]
  congr 1
  by_cases e:x=f i
  ·rw [e,decide_eq_true rfl]; simp
  ·rw [decide_eq_false e]
   simp only [List.any_cons,List.any_nil,Bool.or_false,beq_eq_false_iff_ne]
   exact fun z=>e z.symm
theorem wp (f:Nat→Str) (i:Nat):(cK f (i+1)).length=if (cK f i).any (· == f i) then (cK f i).length else (cK f i).length+1:=by
 rw [jg]
 by_cases q:(cK f i).any (· == f i)=true
 ·rw [if_pos q,if_pos q]
 ·rw [if_neg q,if_neg q,List.length_append]; rfl
abbrev SetS (P:Program) (w:World) (h:Heap) (a:Addr) (f:Nat→Str) (n:Nat):Prop:=h.SetOf (strKind P w) a (fun k=>(cK f n).any (· == k)) (cK f n).length
section
variable {P:Program} {w:World} {A:Around} {R:Result→Shared→Prop} {I:Addr} {fp wr:List Addr} {G:Array GenState→Array GenState→Prop} {n:Nat} {Pi:Nat→Value→Prop} {St:Nat→Shared→Prop}
theorem SetS.mv {h h':Heap} {a:Addr} {f:Nat→Str} {n:Nat} (x:SetS P w h a f n) (k:∀ o,h.get? a=some o→h'.get? a=some o):SetS P w h' a f n:=by
 obtain ⟨o,es,ep,t,e,r⟩:=x
 exact ⟨o,es,ep,t,k o e,r⟩
theorem vZ (W:WalksS P w A.in1 I fp wr G n Pi St) (a:Addr) (ha:a ∉ fp) (f:Nat→Str) (hf:∀ i v,Pi i v→∃ t,v=.str (f i) t) (hb:n+1 < scanBound) :
  ∀ (k i:Nat) (s:Shared),n - i=k→i≤n→St i s→SetS P w s.heap a f i →
   (∀ s',Moved (a :: wr) G s s'→SetS P w s'.heap a f n→R (.ok (.ret .none)) s')→codeAny (model P w) A (.builtin "set.update.loop" ⟨[.ref a,.ref I],[]⟩) R s:=by
 have hw:a ∉ wr:=fun h=>ha (W.sub _ h)
 intro k
 induction k with
 | zero =>
  intro i s hk hi st hS q
  obtain rfl:i=n:=by omega
  refine codeAny_builtin PyProof.Rows.F.entry_set_update_loop ?_
  rw [Around.under_plainId PyProof.Rows.F.plain_set_update_loop _]
  show wpAny _ _ (pyNext (.ref I) >>= _) _ _ s
  exact wpAny_bind (W.done s _ _ st fun s1 m=>wpAny_pure (q s1 (m.mono fun b h=>List.mem_cons_of_mem _ h) (hS.mv fun o e=>m.heap a o hw e)))
 | succ k ih =>
  intro i s hk hi st hS q
  have lt:i < n:=by omega
  refine codeAny_builtin PyProof.Rows.F.entry_set_update_loop ?_
  rw [Around.under_plainId PyProof.Rows.F.plain_set_update_loop _]
  show wpAny _ _ (pyNext (.ref I) >>= _) _ _ s
  refine wpAny_bind (W.item i s _ _ lt st fun v s1 hv st1 m=>?_)
  obtain ⟨t,rfl⟩:=hf i v hv
  have h1:SetS P w s1.heap a f i:=hS.mv fun o e=>m.heap a o hw e
  show wpAny _ _ (holding [Value.str (f i) t] (setAdd a (.str (f i) t)) >>= _) _ _ s1
  refine wpAny_bind (wpAny_holding ?_)
  unfold setAdd
  refine wpAny_holding (wpAny_bind ((strKind P w).pyHash (k:=f i) (strKind_is P w (f i) t) ?_))
  have le:=oF f i
  refine wpAny_setAddHashed_of (knd:=strKind P w) (s:={ s1 with toks:=s1.toks+1 }) (strKind_is P w (f i) t) rfl h1 (by omega) fun h2 sb h3=>?_
  have h4:SetS P w h2 a f (i+1):=SetOf_congr h3 (fun x=>(wq f i x).symm) (wp f i).symm
  refine wpAny_pure ⟨plainId_quiet PyProof.Rows.F.plain_set_update_loop _,ih (i+1) _ (by omega) lt (W.frame _ s1 _ _ st1 (Nat.le_succ _) fun b hb o e=>?_) h4 fun s3 m3 h5=>?_⟩
  ·rw [sb.2 b fun z=>ha (z ▸ hb)]; exact e
  ·refine q s3 (Moved.trans W.gtrans ((m.mono fun b h=>List.mem_cons_of_mem _ h).then_heap (Nat.le_succ _) fun b o hb e=>?_) m3) h5
   rw [sb.2 b fun z=>hb (z ▸ List.mem_cons_self)]; exact e
end
section
variable {P:Program} {w:World} {A:Around} {E:Value→Shared→Prop} {s:Shared}
theorem rM:isSubtype (.type "str") (.type "set")=pure false:=by rw [isSubtype_type]; kernel_rfl
theorem l6:isSubtype (.type "str") (.type "frozenset")=pure false:=by rw [isSubtype_type]; kernel_rfl
def eT (z:Str) (i:Nat):Str:=match z.cps[i]? with
 | some c=>mk1 c
 | none=>""
abbrev nr (led:Bool):Obj:={ cls:=.type "set",dict:=none,data:=.set #[] 0 (.fresh 0 0 led) }
theorem pZ {z:Str} {t:Tok} {Q:Value→Shared→Prop} (hh:A.handled=none) (hb:z.length+1 < scanBound)
  (h:∀ (h':Heap) (tk:Nat),SetS P w h' s.heap.objs.size (eT z) z.length→(∀ b o,b < s.heap.objs.size→s.heap.get? b=some o→h'.get? b=some o)→Q (.ref s.heap.objs.size) { s with heap:=h',toks:=tk }) :
  wpAny (model P w) A (call (.type "set") [.str z t]) Q E s:=by
 obtain ⟨c,tl,e0⟩:=PySem.F.called_set.mro
 have e1:=PySem.F.called_set.made
 have e2:=PySem.F.called_set.sub
 refine wpAny_call (codeAny_of_tree ?_)
 show wpAny _ _ (callAny (.type "set") ⟨[.str z t],[]⟩) _ _ _
 refine wpAny_pure ⟨Code.quiet_builtin _ (by decide +kernel),codeAny_builtin PySem.F.entry_type_call ?_⟩
 rw [Around.under_plain (weight_type_call_type "set" [.str z t] []) rfl]
 have e3:=PySem.F.called_set.notType
 have e4:=PySem.F.called_set.canCreate
 have e5:=PySem.F.typeCall_set_1 (.str z t)
 repeat (any_goals (first | assumption | wp_step))
 refine codeAny_mono (code_set_new_1 (.str z t) (E:=E) (Q₁:=fun obj s1=>∃ led:Bool,obj=.ref s.heap.objs.size∧s1={ s with heap:=s.heap.push (nr led) }) fun led=>⟨led,rfl,rfl⟩) fun r s1 hr=>?_
 cases r with
 | error e=>exact hr
 | ok fl =>
  cases fl with
  | ret obj =>
   obtain ⟨led,rfl,rfl⟩:=hr
   have g0:(s.heap.push (nr led)).get? s.heap.objs.size=some (nr led):=Heap.get?_push_size _ rfl
   have hT:Shared.TypeIs { s with heap:=s.heap.push (nr led) } (.ref s.heap.objs.size) "set":=⟨_,g0,rfl⟩
   have i1:=PySem.F.called_set.init.lookup
   have i2:=PySem.F.called_set.init.bind (.ref s.heap.objs.size)
   repeat (any_goals (first | assumption | wp_step))
   refine codeAny_mono (codeAny_call_builtin (R:=wants (fun r s2=>r=.none∧∃ h' tk,s2={ s with heap:=h',toks:=tk }∧SetS P w h' s.heap.objs.size (eT z) z.length ∧
     ∀ b o,b < s.heap.objs.size→s.heap.get? b=some o→h'.get? b=some o) E) PySem.F.called_set.init.plain PySem.F.entry_set_init (check_set_init_1 hT ?_)) fun r2 s2 hr2=>?_
   ·have j1:=rM
    have j2:=l6
    have j3:(Value.type "str" == Value.type "dict")=false:=by decide
    unfold Builtin.«set.__init__» noKeywords Builtin.Frozenset.updateFrom
    generalize hPI:pyIter=PI
    wp_walk
    subst hPI
    refine wpAny_pyIter_str fun o St W w0=>?_
    refine wpAny_bind (wpAny_runValue ?_)
    have hne:s.heap.objs.size ∉ [(s.heap.push (nr led)).objs.size]:=by rw [Heap.size_push]; simp
    refine vZ ((W _ (by simp [hh])).toS) s.heap.objs.size hne (eT z) (fun i v ⟨c,u,ec,ev⟩=>⟨u,by rw [ev]; unfold eT; rw [ec]; rfl⟩) hb (z.length - 0) 0 _ rfl (Nat.zero_le _) w0 ?_ ?_
    ·exact SetOf_congr ((setObjOf_fresh (knd:=strKind P w) led).setOf (Heap.get?_push_of_some _ g0) (by unfold scanBound; omega)) (fun _=>rfl) rfl
    ·intro s3 m h3
     obtain ⟨h',g',d',tk,os'⟩:=s3
     obtain rfl:g'=s.gens:=m.gens
     obtain rfl:d'=s.drawn:=m.drawn
     obtain rfl:os'=s.os:=m.os
     refine wpAny_pure (wpAny_pure ⟨rfl,h',tk,rfl,h3,fun b o hb e=>?_⟩)
     refine m.heap b o ?_ (Heap.get?_push_of_some _ (Heap.get?_push_of_some _ e))
     simp only [List.mem_cons,List.not_mem_nil,or_false,not_or]
     exact ⟨Nat.ne_of_lt hb,Nat.ne_of_lt (Nat.lt_of_lt_of_le hb (by rw [Heap.size_push]; omega))⟩
   ·cases r2 with
    | error e=>exact hr2
    | ok fl2 =>
     cases fl2 with
     | ret r =>
      obtain ⟨rfl,h',tk,rfl,h3,hk⟩:=hr2
      repeat (any_goals (first | assumption | wp_step))
      exact h _ _ h3 hk
     | _=>exact hr2.elim
  | _=>exact hr.elim
end
end L2
namespace L2
open PySem PySem.Spec PyProof.Rows
section
variable {X:Cx} {K:PySem.W.Frag} {p p1 p2:Bool} {ds ds1 ds2:List Nat} {d d1 d2:Nat} {e k:Expr} {f f1 f2:ME} {fa:MA} {sh:Sh} {σ:St} {H:Hp} {Q Q':VK} {pos pos2 px py:Pos}
theorem iQ (h:∀ v H,Q v H→Q' v H):tF K p ds ds1 d f σ H Q→tF K p ds ds1 d f σ H Q'
 | ⟨Ox,en,R,t,en',e,hf,k⟩=>⟨Ox,en,R,t,en',e,hf,fun v H' R' F P o=>h _ _ (k v H' R' F P o)⟩
def tu (P:Program) (w:World) (a:Addr) (z:Str):HO:=.ext fun h=>SetS P w h a (eT z) z.length
def IL (P:Program) (w:World):List V→Hp→VK→Prop:=fun xs H Q=>∃ z,xs=[.str z]∧z.length+1 < scanBound∧∀ a,H a=none→Q (.ref a) (upd H a (tu P w a z))
theorem vH (hc:X.calm=true):CallR X (.type "set") (IL X.prog X.w):=by
 intro pins s σ H xs us Q I r ⟨z,e,hb,q⟩
 subst e
 obtain ⟨u,rfl,ru⟩:=dm r
 obtain ⟨t,rfl⟩:=ru
 refine pZ (I.ok.hd hc) hb fun h' tk hS hk=>⟨.ref _,_,I.laid (a:=s.heap.objs.size) (o:=tu X.prog X.w s.heap.objs.size z) (t':=tk) (fun b o e=>hk b o (Heap.lt_size e) e) (Nat.le_refl _) ?_,rfl,q _ (I.hok.fresh (Nat.le_refl _))⟩
 have h2:=hS
 obtain ⟨o,_,_,_,e,_⟩:=h2
 exact ⟨hS,⟨o,e⟩,fun h1 h2 a k=>a.mv k⟩
def IM (P:Program) (w:World):List V→Hp→VK→Prop:=fun xs H Q=>∃ a z,xs=[.ref a]∧H a=some (tu P w a z)∧z.length < 4096∧Q (.int (cK (eT z) z.length).length) H
theorem vI:CallR X (.builtin "len") (IM X.prog X.w):=by
 intro pins s σ H xs us Q I r ⟨a,z,e,ha,hz,q⟩
 subst e
 obtain ⟨u,rfl,ru⟩:=dm r
 cases ru
 obtain ⟨⟨o,es,ep,t,g1,g2,g3,_,_,_,g5,g6⟩,_⟩:=I.hok a _ ha
 have le:=oF (eT z) z.length
 have e:(es.size:Int)=((cK (eT z) z.length).length:Nat):=by rw [g6]
 refine call_len_set g1 g2 g3 g5 (by omega) ⟨.int es.size,H,(I.tok _).tok _,⟨_,rfl⟩,?_⟩
 rw [e]
 exact q
def nz:D→Option D
 | .str z=>grd (z.length < 4000) (.int (cK (eT z) z.length).length)
 | _=>none
theorem vo (hK:X.K=K) (hc:X.calm=true) (hg:Gl X "len") (hm:X.mg "len"=none) (hg2:Gl X "set") (hm2:X.mg "set"=none) (hb:bootBuiltins "len"=some (.builtin "len")) (hb2:bootBuiltins "set"=some (.type "set")) (he:PE X e (tF K p ds ds1 d1 f)) (hs:aZ e=true) :
  PE X (.Call (.Name "len" px) [.Call (.Name "set" py) [e] [] pos2] [] pos) (tF K p ds ds1 3 (e1 nz f)):=by
 subst hK
 refine (iT vI hg hm hb (cV (pk (vH hc) hg2 hm2 hb2 (cV he pa_nil (bH hs)) (by decide) (by decide) (bH hs) rfl) pa_nil (bH rfl)) (by decide) (by decide) (bH rfl) rfl).imp fun σ H Q h=>?_
 obtain ⟨Ox,en,R,t,en',e,hf,k⟩:=h
 unfold e1 at hf
 obtain ⟨⟨t1,en1⟩,h1,hf⟩:=Option.bind_eq_some_iff.mp hf
 obtain ⟨t',h3,hf⟩:=Option.map_eq_some_iff.mp hf
 cases hf
 cases t1 with
 | str z =>
  obtain ⟨c,rfl⟩:=cw h3
  refine ⟨Ox,en,R,.str z,en1,e,h1,fun v H' R' F P o=>?_⟩
  refine ⟨z,by rw [show v=.str z from o],by unfold scanBound; omega,fun a ha=>?_⟩
  refine ⟨a,z,rfl,bC,by omega,?_⟩
  have n:NewTo H' (upd H' a (tu X.prog X.w a z)) NoA:=⟨(cW ha).1,fun _ z=>z.elim⟩
  exact k _ _ R' NoA (P.fin n) rfl
 | _=>cases h3
def Ks:D→D→Option D
 | .list ts,.int (-1)=>some (.list ts.reverse)
 | _,_=>none
def nh:D→D→Option D
 | .tuple ts,.int (-1)=>some (.tuple ts.reverse)
 | _,_=>none
def lO:D→D→Option D
 | .str z,.int (-1)=>grd (z.length≤sizeLine) (.str ⟨z.cps.toList.reverse.toArray⟩)
 | _,_=>none
theorem D8 (hK:X.K=K) (he:PE X e (tF K p ds ds1 d1 f1)) (hk:PE X k (tF K p ds1 ds2 d2 f2)):PE X (.Subscript e (.Slice none none (some k) pos2) pos) (tF K p ds ds2 0 (e2 nh f1 f2)):=by
 refine (wx hK he hk).imp fun σ H Q h=>?_
 refine iQ (fun x H1 h1=>iQ (fun y H2 h2=>?_) h1) (lY (by rw [Bool.and_self]; exact h))
 obtain ⟨O,a,b,t,oa,ob,hd,hg,q⟩:=h2
 unfold nh at hg
 split at hg
 ·cases hg
  obtain ⟨a,vs,rfl,fz,w⟩:=oa.tup0
  exact ⟨a,vs,rfl,ob,fz.sq,fun l hl=>q _ _ _ (gM hl hd w.rev).1 (gM hl hd w.rev).2⟩
 ·cases hg
theorem D9 (he:PE X e (tF K p ds ds1 d1 f1)) (hk:PE X k (tF K p ds1 ds2 d2 f2)):PE X (.Subscript e (.Slice none none (some k) pos2) pos) (tF K p ds ds2 3 (e2 lO f1 f2)):=by
 refine (Ds he hk).imp fun σ H Q h=>?_
 refine iQ (fun x H1 h1=>iQ (fun y H2 h2=>?_) h1) (lY (by rw [Bool.and_self]; exact h))
 obtain ⟨O,a,b,t,oa,ob,hd,hg,q⟩:=h2
 unfold lO at hg
 split at hg
 ·obtain ⟨c,rfl⟩:=cw hg
  exact ⟨_,oa,ob,c,q _ _ NoA .refl rfl⟩
 ·cases hg
def Kb (fa:MA):MI:=fun en=>(fa en).bind fun r=>match r.1 with
 | [.inl (.str x),.inl (.str y)]=>some (vP (bz x) (bz y),r.2)
 | _=>none
def isB:D→D→Option D
 | .bool a,.bool b=>some (.bool (a == b))
 | _,_=>none
end
end L2
namespace L2
open PySem PySem.Spec PyProof.Rows
section
variable {X:Cx} {K:PySem.W.Frag} {pins:List (Addr × Obj)} {σ:St} {H:Hp} {s:Shared} {O:AS}
end
end L2
namespace L2
open PySem PySem.Spec PyProof.Rows
section
variable {X:Cx} {K:PySem.W.Frag} {p p1 p2:Bool} {ds ds1 ds2:List Nat} {d d1 d2:Nat} {a b:Expr} {f f1 f2:ME} {σ:St} {H:Hp} {Q Q':VK} {pos:Pos} {ta tb:TE} {rest:List Expr}
def qH:List D→Option D
 | [.str z]=>match z.cps.toList with
  | [c]=>some (.int (c:Nat))
  | _=>none
 | _=>none
theorem HQ:CallR X (.builtin "ord") (rFn K qH 3):=by
 intro pins s σ H xs us Q I r ⟨O,as,t,oa,hd,hr,k⟩
 unfold qH at hr
 split at hr
 ·next z =>
  split at hr
  ·next c hc =>
   cases hr
   obtain ⟨v,rfl,o⟩:=oa.one
   obtain ⟨u,rfl,ru⟩:=dm r
   cases (show v=V.str z from o)
   obtain ⟨t,rfl⟩:=ru
   have e:z=⟨#[c]⟩:=by
    obtain ⟨w⟩:=z
    have e:w=#[c]:=Array.toList_inj.mp hc
    rw [e]
   subst e
   exact P.ord_of_char ⟨.int (c:Nat),H,I.tok _,⟨_,rfl⟩,k _ H NoA .refl rfl⟩
  ·cases hr
 ·cases hr
def iq:D→Option Int→Option Int→Option D
 | .tuple ts,lo,hi=>grd (¬ (HT.sIx ts.length 0 lo=0∧HT.sIx ts.length ts.length hi=ts.length)) (.tuple (dA ts lo hi))
 | _,_,_=>none
theorem fU (hK:X.K=K):SlR X (rFs K iq 0):=(JS hK).imp fun x lo hi H Q ⟨O,a,t,oa,hd,hg,k⟩=>by
 cases a with
 | tuple ts =>
  obtain ⟨c,rfl⟩:=cw hg
  obtain ⟨a,vs,e1,f1,w1⟩:=oa.tup0
  refine ⟨a,vs,e1,f1.sq,by rw [w1.len]; exact c,fun p hp=>?_⟩
  have w2:Ows K O H (dA ts lo hi) 0 (ls vs lo hi) NoA:=by
   unfold dA ls
   rw [w1.len]
   exact (w1.drop _).take _
  exact k _ _ _ (gM hp hd w2).1 (gM hp hd w2).2
 | _=>cases hg
def JJ:D→Option Bool
 | .none=>some false
 | .bool b=>some b
 | .list ts=>some (!ts.isEmpty)
 | .tuple ts=>some (!ts.isEmpty)
 | _=>none
def Ky (f g:ME):ME:=fun en=>(f en).bind fun r=>(JJ r.1).bind fun c=>if c then some r else g r.2
end
end L2
namespace L2
open PySem PySem.Spec PyProof.Rows
section
variable {X:Cx} {K:PySem.W.Frag} {p p1 p2:Bool} {ds ds1 ds2:List Nat} {d d1 d2:Nat} {a b:Expr} {f f1 f2:ME} {σ:St} {H:Hp} {Q Q':VK} {pos:Pos}
def mL (x:Int):List Int→List Int
 | []=>[x]
 | y :: r=>if x≤y then x :: y :: r else y :: mL x r
def p8:List Int→List Int
 | []=>[]
 | x :: r=>mL x (p8 r)
theorem lb (x:Int):∀ l,(mL x l).Perm (x :: l)
 | []=>.refl _
 | y :: r=>by
  unfold mL
  split
  ·exact .refl _
  ·exact (List.Perm.cons y (lb x r)).trans (List.Perm.swap x y r)
theorem gw:∀ l,(p8 l).Perm l
 | []=>.refl _
 | x :: r=>(lb x _).trans (List.Perm.cons x (gw r))
theorem me (x:Int):∀ l:List Int,l.Pairwise (·≤·)→(mL x l).Pairwise (·≤·)
 | [],_=>by simp [mL]
 | y :: r,h=>by
  obtain ⟨h1,h2⟩:=List.pairwise_cons.mp h
  unfold mL
  split
  ·next hx =>
   refine List.pairwise_cons.mpr ⟨fun z hz=>?_,h⟩
   rcases List.mem_cons.mp hz with rfl | hz
   ·exact hx
   ·exact Int.le_trans hx (h1 z hz)
  ·next hx =>
   refine List.pairwise_cons.mpr ⟨fun z hz=>?_,me x r h2⟩
   rcases List.mem_cons.mp ((lb x r).mem_iff.mp hz) with rfl | hz
   ·omega
   ·exact h1 z hz
theorem gu:∀ l,(p8 l).Pairwise (·≤·)
 | []=>.nil
 | x :: r=>me x _ (gu r)
theorem mz:∀ {l m:List Int},l.Perm m→l.Pairwise (·≤·)→m.Pairwise (·≤·)→l=m
 | [],m,h,_,_=>(List.nil_perm.mp h).symm
 | x :: l,m,h,hl,hm=>by
  cases m with
  | nil=>exact absurd h.length_eq (by simp)
  | cons y m =>
   obtain ⟨l1,l2⟩:=List.pairwise_cons.mp hl
   obtain ⟨m1,m2⟩:=List.pairwise_cons.mp hm
   have e:x=y:=by
    have a1:x∈y :: m:=h.mem_iff.mp List.mem_cons_self
    have a2:y∈x :: l:=h.mem_iff.mpr List.mem_cons_self
    rcases List.mem_cons.mp a1 with e | a1
    ·exact e
    ·rcases List.mem_cons.mp a2 with e | a2
     ·exact e.symm
     ·exact Int.le_antisymm (l1 y a2) (m1 x a1)
   subst e
   rw [mz (List.perm_cons x |>.mp h) l2 m2]
theorem Ic (hK:X.K=K) (ha:PE X a (tF K p ds ds1 d f1)) (hb:PE X b (tF K p ds1 ds2 d2 f2)) (hs:hU b) (hz:d≠0):PE X (.Subscript a b pos) (tF K p ds ds2 (dn d) (e2 ixA f1 f2)):=by
 subst hK
 refine (tE ix_seq ha hb hs).imp fun σ H Q h=>?_
 obtain ⟨Ox,en,R,t,en',e,hf,k⟩:=h
 unfold e2 at hf
 obtain ⟨⟨t1,en1⟩,h1,hf⟩:=Option.bind_eq_some_iff.mp hf
 obtain ⟨⟨t2,en2⟩,h2,hf⟩:=Option.bind_eq_some_iff.mp hf
 obtain ⟨t',h3,hf⟩:=Option.map_eq_some_iff.mp hf
 cases hf
 have go:tFA X.K (p && (p && true)) ds ds2 [.inl d,.inl d2] (ad f1 (ad f2 ak)) σ H (fun vs H2=>∃ x y,vs=[x,y]∧((∃ (a:Addr) (us:List V) (n:Int) (v:V),x=.ref a∧y=.int n∧(SqL X.K H2 a us∨SqT X.K H2 a us)∧atI us n=some v∧Q v H2)∨(∃ (z:Str) (n:Int) (c:Nat),x=.str z∧y=.int n∧z.length≤sizeLine∧atI z.cps.toList n=some c∧Q (.str (mk1 c)) H2))):=by
  refine ⟨Ox,en,R,[.inl t1,.inl t2],en2,e,?_,fun vs H1 R1 F P o=>?_⟩
  ·unfold ad ak
   rw [h1]
   show Option.map _ ((f2 en1).bind _)=_
   rw [h2]
   rfl
  ·obtain ⟨x,r,d',dr,F1,F2,e1,e2',s1,s2,_,o1,y,r2,d2',dr2,G1,G2,e3,e4,s3,_,_,o2,o3⟩:=o
   obtain ⟨_,o3⟩:=o3
   cases e2'
   subst e1 e3 o3
   cases e4
   refine ⟨x,y,rfl,?_⟩
   have P':Post X.K p ds2 Ox σ H en R en2 H1 R1 F:=by
    rw [Bool.and_true,Bool.and_self] at P
    exact P
   cases t2 with
   | int n =>
    cases (show y=V.int n from o2)
    cases t1 with
    | list ts =>
     obtain ⟨a,vs,rfl,⟨z,_⟩ | ⟨_,g1,g2,G,hg,g3⟩⟩:=o1
     ·exact absurd z hz
     ·have h3':atI ts n=some t:=h3
      unfold atI at h3'
      obtain ⟨j,hj,hj2⟩:=Option.bind_eq_some_iff.mp h3'
      obtain ⟨v,hv,ov⟩:=g3.get hj2
      refine .inl ⟨a,vs,n,v,rfl,rfl,.inl (.inl (.inl g1)),?_,?_⟩
      ·unfold atI
       rw [g3.len,hj]
       exact hv
      ·have sub:∀ b,G b→F b:=fun b hb=>s1 b (hg b hb).1
       exact k v H1 R1 G (P'.less sub) (Ow.grow (fun b hb=>hb.imp id fun hb=>hb.imp (sub b) id) _ (fun _ z=>z) ov)
    | tuple ts =>
     obtain ⟨a,vs,rfl,⟨z,_⟩ | ⟨_,g1,g2,G,hg,g3⟩⟩:=o1
     ·exact absurd z hz
     ·have h3':atI ts n=some t:=h3
      unfold atI at h3'
      obtain ⟨j,hj,hj2⟩:=Option.bind_eq_some_iff.mp h3'
      obtain ⟨v,hv,ov⟩:=g3.get hj2
      refine .inl ⟨a,vs,n,v,rfl,rfl,.inr (.inl (.inl g1)),?_,?_⟩
      ·unfold atI
       rw [g3.len,hj]
       exact hv
      ·have sub:∀ b,G b→F b:=fun b hb=>s1 b (hg b hb).1
       exact k v H1 R1 G (P'.less sub) (Ow.grow (fun b hb=>hb.imp id fun hb=>hb.imp (sub b) id) _ (fun _ z=>z) ov)
    | str z =>
     dsimp only [ixA] at h3
     by_cases hl:z.length≤sizeLine
     ·rw [if_pos hl] at h3
      obtain ⟨c,h5,h6⟩:=Option.map_eq_some_iff.mp h3
      cases h6
      exact .inr ⟨z,n,c,o1,rfl,hl,h5,k _ H1 R1 NoA (P'.less fun _ z=>z.elim) rfl⟩
     ·rw [if_neg hl] at h3; cases h3
    | _=>cases h3
   | _=>cases t1 <;> cases h3
 have go2:=oO (ds1:=ds1) (p1:=p) (p2:=p && true) go
 refine iQ (fun x H1 q1=>?_) go2
 have q2:=oO (ds1:=ds2) (p1:=p) (p2:=true) q1
 refine iQ (fun y H2 q3=>?_) q2
 obtain ⟨x',y',ee,q⟩:=vt q3
 cases ee
 rcases q with ⟨a,us,n,v,rfl,rfl,hs | hs,hv,q⟩ | ⟨z,n,c,rfl,rfl,hl,hv,q⟩
 ·exact .inl ⟨a,us,n,v,rfl,rfl,hs,hv,q⟩
 ·exact .inr (.inl ⟨a,us,n,v,rfl,rfl,hs,hv,q⟩)
 ·exact .inr (.inr ⟨z,n,c,rfl,rfl,hl,hv,q⟩)
end
end L2
namespace L2
open PySem PySem.Spec PyProof.Rows PySem.SeqAt PySem.MeetsSeq
section
variable {A:Around} {s:Shared}
end
section
variable {X:Cx} {pins:List (Addr × Obj)} {σ:St} {H:Hp} {s:Shared} {O:AS}
end
section
variable {X:Cx} {K:PySem.W.Frag}
end
end L2
namespace L2
open PySem PySem.Spec PyProof.Rows PySem.SeqAt PySem.MeetsSeq
def Kt:D→D→Option D
 | .tuple ts,.int k=>grd (1≤k∧k≤1000∧ts.length≤1000) (.tuple (List.replicate k.toNat ts).flatten)
 | _,_=>none
section
variable {X:Cx} {K:PySem.W.Frag}
def Ki:D→D→Option D
 | .int k,.str z=>grd (z.length≤4000∧1≤k∧k≤4000) (.str (Txt.mul z k))
 | _,_=>none
end
section
variable {X:Cx} {K:PySem.W.Frag}
end
def dI:List Int→Int
 | []=>0
 | [a]=>a
 | a :: b :: r=>max a (dI (b :: r))
theorem mK:∀ {l:List Int},l≠[]→dI l∈l
 | [a],_=>List.mem_cons_self
 | a :: b :: r,_=>by
  have ih:=mK (l:=b :: r) (by simp)
  unfold dI
  rcases Int.le_total a (dI (b :: r)) with h | h
  ·rw [Int.max_eq_right h]; exact List.mem_cons_of_mem _ ih
  ·rw [Int.max_eq_left h]; exact List.mem_cons_self
theorem oG:∀ {l:List Int} {x:Int},x∈l→x≤dI l
 | [a],x,h=>by simp at h; subst h; exact Int.le_refl _
 | a :: b :: r,x,h=>by
  unfold dI
  rcases List.mem_cons.mp h with rfl | h
  ·exact Int.le_max_left _ _
  ·exact Int.le_trans (oG h) (Int.le_max_right _ _)
theorem nX (val:Nat→Int):∀ k,argBest (fun i j=>decide (val i > val j)) k≤k∧∀ i,i≤k→val i≤val (argBest (fun i j=>decide (val i > val j)) k)
 | 0=>by
  rw [argBest.eq_1]
  exact ⟨Nat.le_refl _,fun i hi=>by rw [Nat.le_zero.mp hi]; exact Int.le_refl _⟩
 | k+1=>by
  obtain ⟨h1,h2⟩:=nX val k
  rw [argBest.eq_2]
  by_cases h:val (k+1) > val (argBest (fun i j=>decide (val i > val j)) k)
  ·rw [if_pos (decide_eq_true h)]
   refine ⟨Nat.le_refl _,fun i hi=>?_⟩
   rcases Nat.lt_or_ge i (k+1) with z | z
   ·exact Int.le_trans (h2 i (by omega)) (Int.le_of_lt h)
   ·rw [show i=k+1 by omega]; exact Int.le_refl _
  ·rw [if_neg (by rw [decide_eq_true_eq]; exact h)]
   refine ⟨by omega,fun i hi=>?_⟩
   rcases Nat.lt_or_ge i (k+1) with z | z
   ·exact h2 i (by omega)
   ·rw [show i=k+1 by omega]; omega
theorem si (ns:List Int) (h:ns≠[]):ns[argBest (fun i j=>decide (ns.getD i 0 > ns.getD j 0)) (ns.length - 1)]?=some (dI ns):=by
 obtain ⟨h1,h2⟩:=nX (fun i=>ns.getD i 0) (ns.length - 1)
 have hl:0 < ns.length:=List.length_pos_iff.mpr h
 revert h1 h2
 generalize argBest (fun i j=>decide (ns.getD i 0 > ns.getD j 0)) (ns.length - 1)=k
 intro h1 h2
 have hk:k < ns.length:=by omega
 have gk:ns.getD k 0=ns[k]:=by rw [List.getD_eq_getElem?_getD,List.getElem?_eq_getElem hk]; rfl
 have e:ns[k]=dI ns:=by
  refine Int.le_antisymm (oG (List.getElem_mem hk)) ?_
  obtain ⟨i,hi,e⟩:=List.mem_iff_getElem.mp (mK h)
  have z:=h2 i (by omega)
  rw [gk,List.getD_eq_getElem?_getD,List.getElem?_eq_getElem hi] at z
  rw [← e]
  exact z
 rw [List.getElem?_eq_getElem hk,e]
def p9:List D→Option D
 | [.list ts]=>(fR ts).bind fun ns=>grd (ns≠[]) (.int (dI ns))
 | _=>none
section
variable {X:Cx} {K:PySem.W.Frag}
theorem sO (hK:X.K=K) (hc:X.calm=true):CallR X (.builtin "max") (rFn K p9 3):=by
 subst hK
 intro pins s σ H xs us Q I r ⟨O,as,t,oa,hd,hr,k⟩
 match as,hr with
 | [.list ts],hr =>
  obtain ⟨ns,h1,h2⟩:=Option.bind_eq_some_iff.mp hr
  obtain ⟨c,rfl⟩:=cw h2
  obtain ⟨v,rfl,o⟩:=oa.one
  obtain ⟨p,vs,rfl,fz,w⟩:=o.lst0
  have e:=jV w h1
  subst e
  obtain ⟨u,rfl,ru⟩:=dm r
  cases ru
  obtain ⟨its,rv,pl,hz⟩:=I.list fz.sq
  have hl:its.length=ns.length:=by rw [← rv.length,List.length_map]
  have hlt:p < s.heap.objs.size:=by
   obtain ⟨o,n,e,_⟩:=id pl
   exact Heap.lt_size e
  have hsz:its.toArray.size=ns.length:=by rw [List.size_toArray,hl]
  have hn:0 < ns.length:=List.length_pos_iff.mpr c
  refine call_max_walk (wpAny_pyIter_list pl.isList ?_)
  refine ⟨s.heap.objs.size,[s.heap.objs.size,p],[s.heap.objs.size],its.toArray.size,fun i v=>its.toArray[i]?=some v,_,fun i j=>decide (ns.getD i 0 > ns.getD j 0),rfl,Walks.list (A:=X.A.in1) (show X.A.in1.handled=none from I.ok.hd hc) s.heap.objs.size p (Nat.ne_of_lt hlt) its.toArray,?_,?_,?_,?_,?_⟩
  ·exact ⟨⟨_,Heap.get?_push_size _ rfl,rfl,rfl⟩,pl.isList.push _⟩
  ·intro b hb
   show b < (s.heap.push _).objs.size
   rw [Heap.size_push]
   have hb':b=s.heap.objs.size∨b=p:=by simpa using hb
   rcases hb' with rfl | rfl
   ·exact Nat.lt_succ_self _
   ·exact Nat.lt_succ_of_lt hlt
  ·rw [hsz]; exact hn
  ·refine CmpOf.ints_gt (fun i=>ns.getD i 0) fun i v hv=>?_
   have hv':its[i]?=some v:=by simpa using hv
   have hi:i < ns.length:=by
    rw [← hl]
    exact (List.getElem?_eq_some_iff.mp hv').1
   obtain ⟨u,hu,ru⟩:=rv.get (i:=i) (x:=V.int ns[i]) (by rw [List.getElem?_map,List.getElem?_eq_getElem hi]; rfl)
   rw [hu] at hv'
   cases hv'
   obtain ⟨t,rfl⟩:=ru
   refine ⟨t,?_⟩
   rw [List.getD_eq_getElem?_getD,List.getElem?_eq_getElem hi]
   rfl
  ·intro v h' tk hv hk
   rw [hsz] at hv
   have hv':its[argBest (fun i j=>decide (ns.getD i 0 > ns.getD j 0)) (ns.length - 1)]?=some v:=by simpa using hv
   obtain ⟨u,hu,ru⟩:=rv.get (i:=argBest (fun i j=>decide (ns.getD i 0 > ns.getD j 0)) (ns.length - 1)) (x:=V.int (dI ns)) (by rw [List.getElem?_map,si ns c]; rfl)
   rw [hu] at hv'
   cases hv'
   refine ⟨.int (dI ns),H,I.kept (t':=tk) fun b o z=>hk b o ?_ (Heap.get?_push_of_some _ z),ru,k _ H NoA .refl rfl⟩
   intro z'
   have z'':b=s.heap.objs.size:=by simpa using z'
   exact Nat.ne_of_lt (Heap.lt_size z) z''
end
section
variable {X:Cx} {K:PySem.W.Frag} {p p1 p2:Bool} {ds ds1 ds2:List Nat} {d d1 d2:Nat} {e:Expr} {f f1 f2:ME} {σ:St} {H:Hp} {Q Q':VK}
theorem Ir {g:D→D→Option D} {Ty:V→Hp→Prop} (ht:∀ a b t O x H F,g a b=some t→Ow K O H a d1 x F→Ty x H) (h:tF K (p1 && p2) ds ds2 d (e2 g f1 f2) σ H Q) :
  tF K p1 ds ds1 d1 f1 σ H fun x H1=>Ty x H1∧tF K p2 ds1 ds2 d2 f2 σ H1 fun y H2=>rF2 K g d x y H2 Q:=by
 obtain ⟨Ox,en,R,t,en',e,hf,k⟩:=h
 unfold e2 at hf
 obtain ⟨⟨t1,en1⟩,h1,hf⟩:=Option.bind_eq_some_iff.mp hf
 obtain ⟨⟨t2,en2⟩,h2,hf⟩:=Option.bind_eq_some_iff.mp hf
 obtain ⟨t',h3,hf⟩:=Option.map_eq_some_iff.mp hf
 cases hf
 refine ⟨Ox,en,R,t1,en1,e,h1,fun x H1 R1 F1 P1 o1=>⟨ht _ _ _ _ _ _ _ h3 o1,U F1 Ox,en1,R1,t2,en2,P1.env,h2,fun y H2 R2 F2 P2 o2=>?_⟩⟩
 have P:=P1.trans P2
 have o1':=Ow.over P1.env P2 o1
 have o2':Ow K (Own R2 (U (U F1 F2) Ox)) H2 t2 d2 y F2:=lB ▸ o2
 exact ⟨Own R2 Ox,t1,t2,t,Ow.letgo P (fun _=>.inl) o1',Ow.letgo P (fun _=>.inr) o2',P.doms,h3,fun v2 H3 F3 n o3=>k v2 H3 R2 F3 (P.fin n) (l5 ▸ o3)⟩
def TyL (K:PySem.W.Frag) (x:V) (H:Hp):Prop:=∃ a vs,x=.ref a∧SqL K H a vs
theorem qm {O F:AS} {ts:List D} {x:V} (h:Ow K O H (.list ts) d x F):TyL K x H:=by
 obtain ⟨a,vs,rfl,⟨_,fz,_⟩ | ⟨_,g1,_⟩⟩:=h
 ·exact ⟨a,vs,rfl,fz.sq⟩
 ·exact ⟨a,vs,rfl,.inl (.inl g1)⟩
theorem rl {T:String} {o:Expr} {name:Str} {id:String} {apos cpos:Pos} {g:D→D→Option D} {Ty:V→Hp→Prop} (pa:PlainAttrs T) (slot:Slot T name id) (hty:typeOf (.builtin id)=pure (.type "method_descriptor"))
  (ht:∀ a b t O x H F,g a b=some t→Ow K O H a d1 x F→Ty x H) (hT:∀ pins s σ H x v,Inv X pins σ H s→RelV x v→Ty x H→s.TypeIs v T∧∀ a,v=.ref a→∃ ob,s.heap.get? a=some ob∧ob.dict=none)
  (hm:OpR X (fun v u=>call (.builtin id) [v,u]) (rF2 K g 3)) (ho:PE X o (tF K p ds ds1 d1 f1)) (he:PE X e (tF K p ds1 ds2 d2 f2))
  (hbase:attributeBase o name X.env (eval o X.env)=eval o X.env)
  (hfew:((backTo cpos (starEach [e] X.env)).all (fun x=>!x.1) && (backToKw cpos (keywordEach [] X.env)).all (fun x=>x.1.isSome) && decide (([e]:List Expr).length+([]:List Keyword).length+(if ([]:List Keyword).isEmpty then 0 else 1) < 30))=true)
  (hline:(apos.endLine == cpos.line)=true) (hs:starEach [e] X.env=[(false,eval e X.env)]) (hplain:(backTo cpos (starEach [] X.env)).any (·.1)=false) :
  PE X (.Call (.Attribute o name apos) [e] [] cpos) (tF K p ds ds2 3 (e2 g f1 f2)):=by
 intro pins s σ H Q I h
 have h':=Ir (p1:=p) (p2:=p) (ds1:=ds1) (d1:=d1) (d2:=d2) (Ty:=Ty) ht (by rw [Bool.and_self]; exact h)
 refine wpAny_Call_method_late hbase hfew hline rfl (thn (ho pins s σ H _ I h') fun v s1 ⟨x,H1,I1,r1,ty,q1⟩=>?_)
 obtain ⟨h1,h2⟩:=hT pins s1 σ H1 x v I1 r1 ty
 refine ⟨T,id,pa,slot,hty,h1,h2,?_⟩
 have hA:=cV he pa_nil hs cpos pins s1 σ H1 (fun xs H2=>∃ y,xs=[y]∧rF2 K g 3 x y H2 Q) I1 (iQ (fun y H2 q=>⟨y,rfl,q⟩) q1)
 rw [hs] at hA ⊢
 refine Calls.callWith_builtin (by show (false || (backTo cpos (starEach [] X.env)).any (·.1))=false; rw [hplain] <;> rfl) (Calls.evalArgs_plain ?_)
 refine thn hA fun us s2 ⟨vs,H2,I2,r2,y,e2,q2⟩=>?_
 subst e2
 obtain ⟨u,rfl,ru⟩:=dm r2
 exact hm pins s2 σ H2 x y v u Q I2 r1 ru q2
end
def iY:D→D→Option D
 | .list ts,.int k=>(fR ts).bind fun ns=>grd ((PyData.list (ns.map PyData.int)).layable0=true∧k∈ns) (.int (ns.idxOf k:Nat))
 | _,_=>none
def Kf:D→D→Option D
 | .tuple ts,b=>grd (aA b=true∧aE ts=true∧bt ts≤60) (.int (ts.countP fun t=>peq t b:Nat))
 | _,_=>none
section
variable {X:Cx} {K:PySem.W.Frag} {p:Bool} {ds ds1 ds2:List Nat} {d d1 d2:Nat} {e:Expr} {f f1 f2:ME} {σ:St} {H:Hp} {Q Q':VK}
theorem vi (hK:X.K=K):OpR X (fun v u=>call (.builtin "list.index") [v,u]) (rF2 K iY 3):=by
 subst hK
 intro pins s σ H x y v u Q I rx ry ⟨O,a,b,t,oa,ob,hd,hg,k⟩
 unfold iY at hg
 split at hg
 case h_2=>cases hg
 next ts n =>
 obtain ⟨ns,h1,h2⟩:=Option.bind_eq_some_iff.mp hg
 obtain ⟨⟨c1,c2⟩,rfl⟩:=cw h2
 obtain ⟨a,vs,rfl,fz,w⟩:=oa.lst0
 have e:=jV w h1
 subst e
 cases rx
 cases (show y=V.int n from ob)
 obtain ⟨tk,rfl⟩:=ry
 obtain ⟨its,rv,pl,hz⟩:=I.list fz.sq
 exact index_list_ints pl.isList (t8 rv) c1 c2 ⟨.int _,H,I.tok _,⟨_,rfl⟩,k _ H NoA .refl rfl⟩
theorem pG {pins:List (Addr × Obj)} {s:Shared} {O:AS} (I:Inv X pins σ H s) {a:D}:∀ {ts:List D} {vs:List V} {us:List Value},aE ts=true→Ows X.K O H ts 0 vs NoA→Vals vs us→us.countP (eqF X O H a)=ts.countP fun t=>peq t a
 | [],_,_,_,h,r=>by
  cases (show _=[] from h)
  cases r
  rfl
 | t :: ts,_,_,hn,h,r=>by
  obtain ⟨v,q,F1,F2,e,_,_,_,h4,h5⟩:=h
  subst e
  have hn':aA t=true∧aE ts=true:=by simpa [aE] using hn
  cases r with
  | cons ru rr=>rw [List.countP_cons,List.countP_cons,nR I ru hn'.1 (Ow.any0 t h4),pG I hn'.2 (Ows.any0 ts h5) rr]
theorem vp {o:Expr} {apos cpos:Pos} (hK:X.K=K) (ho:PE X o (tF K p ds ds1 d1 f1)) (he:PE X e (tF K p ds1 ds2 d2 f2))
  (hbase:attributeBase o "index" X.env (eval o X.env)=eval o X.env)
  (hfew:((backTo cpos (starEach [e] X.env)).all (fun x=>!x.1) && (backToKw cpos (keywordEach [] X.env)).all (fun x=>x.1.isSome) && decide (([e]:List Expr).length+([]:List Keyword).length+(if ([]:List Keyword).isEmpty then 0 else 1) < 30))=true)
  (hline:(apos.endLine == cpos.line)=true) (hs:starEach [e] X.env=[(false,eval e X.env)]) (hplain:(backTo cpos (starEach [] X.env)).any (·.1)=false) :
  PE X (.Call (.Attribute o "index" apos) [e] [] cpos) (tF K p ds ds2 3 (e2 iY f1 f2)):=by
 subst hK
 refine rl (Ty:=TyL X.K) F.plainAttrs_list F.slot_list_index F.type_list_index (fun a b t O x H F hg o=>?_) (fun pins s σ H x v I r ty=>?_) (vi rfl) ho he hbase hfew hline hs hplain
 ·unfold iY at hg
  split at hg
  ·exact qm o
  ·cases hg
 ·obtain ⟨a,vs,rfl,hs⟩:=ty
  cases r
  obtain ⟨its,rv,⟨o,n,ho,hc,hdd,hda⟩,_⟩:=I.list hs
  exact ⟨⟨o,ho,hc⟩,fun b e=>by cases e; exact ⟨o,ho,hdd⟩⟩
end
end L2
namespace L2
open PySem PySem.Spec PyProof.Rows HT
section
variable {prog:Program} {w:World} {A:Around} {E:Value→Shared→Prop} {s:Shared}
end
def Ko:D→Option Int→Option Int→Option D
 | .tuple ts,lo,hi=>some (.tuple (dA ts lo hi))
 | _,_,_=>none
section
variable {X:Cx} {K:PySem.W.Frag}
end
end L2
namespace L2
open PySem PySem.Spec PyProof.Rows
section
variable {P:Program} {w:World} {A:Around} {E:Value→Shared→Prop} {s:Shared}
end
section
variable {X:Cx} {K:PySem.W.Frag} {p p1 p2:Bool} {ds ds1 ds2:List Nat} {d d1 d2:Nat} {e k:Expr} {f f1 f2:ME} {fa:MA} {sh:Sh} {σ:St} {H:Hp} {Q Q':VK} {pos pos2 px py:Pos}
end
end L2
namespace L2
open PySem PySem.Spec PyProof.Rows PySem.SeqAt PySem.MeetsSeq
section
variable {X:Cx} {K:PySem.W.Frag}
end
section
variable {X:Cx} {K:PySem.W.Frag}
end
end L2
namespace L2
open PySem PySem.Spec PyProof.Rows PySem.SeqAt PySem.MeetsSeq
section
variable {X:Cx} {K:PySem.W.Frag} {p p1 p2:Bool} {ds ds1 ds2:List Nat} {d d1 d2:Nat} {e:Expr} {f f1 f2:ME} {σ:St} {H:Hp} {Q Q':VK} {i:Nat}
end
section
variable {X:Cx} {K:PySem.W.Frag} {p p1 p2 q:Bool} {J:Jd} {ds ds0 ds1 ds2 ds' dsi dps:List Nat} {d d' d1 d2 dr:Nat} {a b c e tg iter:Expr} {es:List Expr} {st:Stmt} {rest body bodyB:List Stmt} {f f1 f2 fk fe:ME} {c1 c2:MT} {fa:MA} {sh:Sh} {pos px:Pos} {i:Nat} {x:Str} {m m1 m2:MS} {g:MG} {gs:List D→En→Option En} {fi:MI} {lk:List Nat}
end
end L2
namespace L2
open PySem PySem.Spec PyProof.Rows
section
variable {prog:Program} {w:World} {A:Around} {E:Value→Shared→Prop} {s:Shared}
end
section
variable {prog:Program} {w:World} {A:Around} {E:Value→Shared→Prop} {s:Shared}
end
section
variable {X:Cx} {tg:Expr} {K:PySem.W.Frag}
end
section
variable {X:Cx} {K:PySem.W.Frag} {p:Bool} {ds ds1:List Nat} {d:Nat} {fa:MA} {sh:Sh} {O O1:AS} {H0 H:Hp} {ts us:List D} {vs ws:List V} {a b:Addr}
def Ka (fa:MA):MI:=fun en=>(fa en).bind fun r=>match r.1 with
 | [.inl (.tuple ts),.inl (.tuple us)]=>some (vP ts us,r.2)
 | _=>none
end
end L2
namespace L2
open PySem PySem.Spec PyProof.Rows
def gS (i j:Nat):MG:=fun t en=>match (en[j]?).join,(en[i]?).join with
 | some (.int n),some (.list ts)=>(ixN ts.length n).map fun k=>en.set i (some (.list (ts.set k t)))
 | _,_=>none
section
variable {K:PySem.W.Frag} {p p1 p2 q:Bool} {J:Jd} {lk ds ds0 ds1 ds2 ds':List Nat} {d d' d1 d2:Nat} {f:ME} {i j:Nat} {g:MG} {gs:List D→En→Option En} {σ:St} {H:Hp} {Dn:Ends} {v:V} {vs:List V} {QS:St→Hp→Prop}
end
section
variable {X:Cx} {K:PySem.W.Frag} {J:Jd} {lk ds ds0 ds1 ds2 ds':List Nat} {e tg:Expr} {es:List Expr} {f:ME} {pos px:Pos} {i:Nat} {g:MG} {gs:List D→En→Option En}
end
end L2
namespace L2
open PySem PySem.Spec PyProof.Rows
section
variable {X:Cx} {K:PySem.W.Frag} {p:Bool} {ds:List Nat} {k v:Expr} {fk fv:ME} {pos:Pos} {σ:St} {H:Hp} {Q:VK} {O:AS}
end
end L2
namespace L2
open PySem PySem.Spec PyProof.Rows
structure QE (X:Cx) (e:Expr) (t:TE):Prop where
 h:PE X e t
structure QT (X:Cx) (e:Expr) (t:TT):Prop where
 h:PT X e t
structure QW (X:Cx) (e:Expr) (t:TT):Prop where
 h:PW X e t
structure QA (X:Cx) (e:List Expr) (t:TA):Prop where
 h:PA X e t
structure QS (X:Cx) (e:Stmt) (t:TS):Prop where
 h:PS X e t
structure QSs (X:Cx) (e:List Stmt) (t:TS):Prop where
 h:PSs X e t
structure QG (X:Cx) (e:Expr) (t:TG):Prop where
 h:PG X e t
structure QI (X:Cx) (tg e:Expr) (t:TI):Prop where
 h:PI X tg e t
structure QTs (X:Cx) (e:List Expr) (t:TT):Prop where
 h:PTs X e t
structure QO (X:Cx) (e:Option Expr) (t:TO):Prop where
 h:PO X e t
theorem qpt {X:Cx} {e:Expr} {t:TT} (h:QW X e t):QT X e t:=⟨h.h.pt⟩
section
variable {X:Cx} {K:PySem.W.Frag} {p p1 p2 q:Bool} {ds ds0 ds1 ds2 ds' dsi:List Nat} {d d' d1 d2:Nat} {a b c e:Expr} {es:List Expr} {f f1 f2:ME} {m c1 c2:MT} {fa:MA} {sh:Sh} {pos:Pos} {i:Nat} {x:Str}
theorem ac {x:Str} (hN:X.N[i]?=some x) (hv:Vis X.env.scope x) (h0:ds[i]?=some 0) (hd:(x == ("__debug__" : Str))=false) (hcd:(x == ("__classdict__" : Str))=false):QE X (.Name x pos) (tF K p ds ds 0 (ah i)):=⟨HU hN hv h0 hd hcd⟩
theorem ai {n:Int} {j}:QE X (.Constant (.int n) j pos) (tF K p ds ds 3 (eC (.int n))):=⟨Ij⟩
theorem cN {n:Bool} {j}:QE X (.Constant (.bool n) j pos) (tF K p ds ds 3 (eC (.bool n))):=⟨Jq⟩
theorem gR {j}:QE X (.Constant .none j pos) (tF K p ds ds 3 (eC .none)):=⟨Ia⟩
theorem az {n:Str} {j}:QE X (.Constant (.str n) j pos) (tF K p ds ds 3 (eC (.str n))):=⟨HX⟩
theorem fI {x:Str} {n:Int} {t:Tok} (hg:Gl X x) (hm:X.mg x=some (.int n t)) (hd:(x == ("__debug__" : Str))=false):QE X (.Name x pos) (tF K p ds ds 3 (eC (.int n))):=⟨xc hg hm hd⟩
theorem am (h:QE X e (tF K p ds ds' d f)) (hd:d'≤d):QE X e (tF K p ds ds' d' f):=⟨HW h.h hd⟩
theorem jM (h:QE X e (tF K p ds0 ds' d f)) (hd:leD ds0 ds=true):QE X e (tF K false ds ds' d f):=⟨Jo h.h hd⟩
theorem ke (h:QE X e (tF K true ds0 ds0 3 f)) (hd:leD ds0 ds=true):QE X e (tF K p ds ds 3 f):=⟨Im h.h hd⟩
theorem ar {op:Operator} {g:D→D→Option D} (ho:OpR X (binaryOp op) (rF2 K g d)) (ha:QE X a (tF K p ds ds1 d1 f1)) (hb:QE X b (tF K p ds1 ds2 d2 f2)):QE X (.BinOp a op b pos) (tF K p ds ds2 d (e2 g f1 f2)):=⟨Jl ho ha.h hb.h⟩
theorem lX {op:UnaryOp} {g:D→Option D} (ho:UnR X (unaryOp op) (rF1 K g d)) (ha:QE X a (tF K p ds ds1 d1 f1)):QE X (.UnaryOp op a pos) (tF K p ds ds1 d (e1 g f1)):=⟨Jk ho ha.h⟩
theorem ei {op:CmpOp} {g:D→D→Option D} (ho:OpR X (compareOp op) (rF2 K g d)) (ha:QE X a (tF K p ds ds1 d1 f1)) (hb:QE X b (tF K p ds1 ds2 d2 f2)) (hm:behindInMarks op b=false):QE X (.Compare a [op] [b] pos) (tF K p ds ds2 d (e2 g f1 f2)):=⟨Il ho ha.h hb.h hm⟩
theorem aB {op:CmpOp} {g:D→D→Option D} (ho:OpR X (compareOp op) (rF2 K g d)) (ha:QE X a (tF K p ds ds1 d1 f1)) (hb:QE X b (tF K p ds1 ds2 d2 f2)) (hm:behindInMarks op b=false):QT X (.Compare a [op] [b] pos) (tFT K p ds ds2 (tV (e2 g f1 f2))):=⟨DM ho ha.h hb.h hm⟩
theorem ce (h:QE X e (tF K p ds ds' d f)) (he:∀ whole,isTrue e X.env whole=(do let v ← whole; standAt e.pos; holding [v] (truthy v))):QT X e (tFT K p ds ds' (tV f)):=⟨DK h.h he⟩
theorem pA (ha:QT X a (tFT K p ds ds1 c1)):QW X (.BoolOp .And [a] pos) (tFT K p ds ds1 c1):=⟨DH ha.h⟩
theorem ef (ha:QT X a (tFT K p ds ds1 c1)):QW X (.BoolOp .Or [a] pos) (tFT K p ds ds1 c1):=⟨HD ha.h⟩
theorem rf {rest:List Expr} (ha:QT X a (tFT K p ds ds1 c1)) (hb:QW X (.BoolOp .And (b :: rest) pos) (tFT K p ds1 ds1 c2)):QW X (.BoolOp .And (a :: b :: rest) pos) (tFT K p ds ds1 (iw c1 c2)):=⟨HE ha.h hb.h⟩
theorem dL {rest:List Expr} (ha:QT X a (tFT K p ds ds1 c1)) (hb:QW X (.BoolOp .Or (b :: rest) pos) (tFT K p ds1 ds1 c2)):QW X (.BoolOp .Or (a :: b :: rest) pos) (tFT K p ds ds1 (bOr c1 c2)):=⟨Je ha.h hb.h⟩
theorem cx (ha:QT X a (tFT K p ds ds1 c1)):QT X (.UnaryOp .Not a pos) (tFT K p ds ds1 (eQ c1)):=⟨DL ha.h⟩
theorem pB (h:QT X e (tFT K true ds0 ds0 c1)) (hd:leD ds0 ds=true):QT X e (tFT K p ds ds c1):=⟨DN h.h hd⟩
theorem kd {op} (h:QE X a (tF K p ds ds1 d f)):QE X (.BoolOp op [a] pos) (tF K p ds ds1 d f):=⟨HZ h.h⟩
theorem mM {rest:List Expr} (ha:QE X a (tF K p ds ds1 d1 f1)) (hb:QE X (.BoolOp .And (b :: rest) pos) (tF K p ds1 ds1 d f2)):QE X (.BoolOp .And (a :: b :: rest) pos) (tF K p ds ds1 d (ki f1 f2)):=⟨Ip ha.h hb.h⟩
theorem ae  : QA X [] (tFA K p ds ds [] ak):=⟨Ec⟩
theorem aa (ha:QE X e (tF K p ds ds1 d f)) (hr:QA X es (tFA K p ds1 ds2 sh fa)) (hs:aZ e=true):QA X (e :: es) (tFA K p ds ds2 (.inl d :: sh) (ad f fa)):=⟨xi ha.h hr.h hs⟩
theorem aF {x:Str} (hN:X.N[i]?=some x) (hv:Vis X.env.scope x) (hr:QA X es (tFA K p ds ds2 sh fa)) (hd:(x == ("__debug__" : Str))=false) (hcd:(x == ("__classdict__" : Str))=false):QA X (.Name x pos :: es) (tFA K p ds ds2 (.inr i :: sh) (bf i fa)):=⟨xh hN hv hr.h hd hcd⟩
theorem bc {c:Nat} (h:QA X es (tFA K p ds ds1 sh fa)) (hs:dq c sh=true) (hd:dn d=c) (hz:d≠0):QE X (.List es pos) (tF K p ds ds1 d (bO fa)):=⟨Ib h.h hs hd hz⟩
theorem aO {c:Nat} {x1} (h:QA X es (tFA K p ds ds1 sh fa)) (hs:dq c sh=true) (hd:dn d=c):QE X (.Tuple es x1 pos) (tF K p ds ds1 d (bw fa)):=⟨HV h.h hs hd⟩
theorem aU {id:String} {x:Str} {px:Pos} {g:List D→Option D} (hc:CallR X (.builtin id) (rFn K g d)) (hg:Gl X x) (hm:X.mg x=none) (hv:bootBuiltins x=some (.builtin id)) (ha:QA X (e :: es) (tFA K p ds ds1 sh fa)) (hsh:dq 0 sh=true) (hn:x≠"__name__") (hdb:(x == ("__debug__" : Str))=false) (he:aZ e=true) (hpl:es.all aZ=true):QE X (.Call (.Name x px) (e :: es) [] pos) (tF K p ds ds1 d (eN g fa)):=⟨xg hc hg hm hv ha.h hsh hn hdb he hpl⟩
theorem bY {T:String} {x:Str} {px:Pos} {g:List D→Option D} (hc:CallR X (.type T) (rFn K g d)) (hg:Gl X x) (hm:X.mg x=none) (hv:bootBuiltins x=some (.type T)) (ha:QA X (e :: es) (tFA K p ds ds1 sh fa)) (hsh:dq 0 sh=true) (hn:x≠"__name__") (hdb:(x == ("__debug__" : Str))=false) (he:aZ e=true) (hpl:es.all aZ=true):QE X (.Call (.Name x px) (e :: es) [] pos) (tF K p ds ds1 d (eN g fa)):=⟨vr hc hg hm hv ha.h hsh hn hdb he hpl⟩
theorem aW {k:Nat} {x:Str} {ps:List Str} {px:Pos} {dps:List Nat} {dr:Nat} {F:List D→Option (D × En)} (G:Kn X.prog X.w X.K X.mg X.base k x ps (spF K dps dr F)) (hr:Room k X.A) (hg:Gl X x) (ha:QA X (e :: es) (tFA K p ds ds1 sh fa)) (hns:iV sh=true) (hcd:fJ ds1 sh dps=true) (hdb:(x == ("__debug__" : Str))=false) (he:aZ e=true) (hpl:es.all aZ=true):QE X (.Call (.Name x px) (e :: es) [] pos) (tF K p ds ds1 dr (ay F fa)):=⟨Jp G hr hg ha.h hns hcd hdb he hpl⟩
theorem aT {k:Nat} {x:Str} {ps:List Str} {px:Pos} {dps:List Nat} {dr:Nat} {F:List D→Option (D × En)} (G:Kn X.prog X.w X.K X.mg X.base k x ps (spF K dps dr F)) (hr:Room k X.A) (hg:Gl X x) (ha:QA X (e :: es) (tFA K false ds ds1 sh fa)) (hcd:fJ ds1 sh dps=true) (hdb:(x == ("__debug__" : Str))=false) (he:aZ e=true) (hpl:es.all aZ=true):QE X (.Call (.Name x px) (e :: es) [] pos) (tF K false ds ds1 dr (ay F fa)):=⟨Ik G hr hg ha.h hcd hdb he hpl⟩
theorem aJ {g:D→D→Option D} (ho:IxR X (rF2 K g d)) (ha:QE X a (tF K p ds ds1 d1 f1)) (hb:QE X b (tF K p ds1 ds2 d2 f2)) (hs:hU b):QE X (.Subscript a b pos) (tF K p ds ds2 d (e2 g f1 f2)):=⟨Jn ho ha.h hb.h hs⟩
theorem ge {x:Str} {px:Pos} (hK:X.K=K) (hN:X.N[i]?=some x) (hv:Vis X.env.scope x) (h1:ds1[i]?=some 1) (hb:QE X b (tF K p ds ds1 d1 f)) (hs:hU b) (hd:(x == ("__debug__" : Str))=false) (hcd:(x == ("__classdict__" : Str))=false):QE X (.Subscript (.Name x px) b pos) (tF K p ds ds1 0 (dN i f)):=⟨Ie hK hN hv h1 hb.h hs hd hcd⟩
theorem fq {c:Nat} {x:Str} {px apos cpos:Pos} (hK:X.K=K) (hN:X.N[i]?=some x) (hv:Vis X.env.scope x) (h1:ds1[i]?=some d) (he:QE X e (tF K false ds ds1 c f)) (hz:d≠0) (hc:dn d=c) (hd:(x == ("__debug__" : Str))=false) (hcd:(x == ("__classdict__" : Str))=false) (hbase:attributeBase (.Name x px) "append" X.env (eval (.Name x px) X.env)=eval (.Name x px) X.env) (hfew:((backTo cpos (starEach [e] X.env)).all (fun x=>!x.1) && (backToKw cpos (keywordEach [] X.env)).all (fun x=>x.1.isSome) && decide (([e]:List Expr).length+([]:List Keyword).length+(if ([]:List Keyword).isEmpty then 0 else 1) < 30))=true) (hline:(apos.endLine == cpos.line)=true) (hs:starEach [e] X.env=[(false,eval e X.env)]) (hplain:(backTo cpos (starEach [] X.env)).any (·.1)=false):QE X (.Call (.Attribute (.Name x px) "append" apos) [e] [] cpos) (tF K false ds ds1 3 (gg i f)):=⟨Io hK hN hv h1 he.h hz hc hd hcd hbase hfew hline hs hplain⟩
theorem cc  : QTs X [] (tFT K p ds ds cY):=⟨DJ⟩
theorem u8 (hc:QT X c (tFT K p ds ds1 c1)):QTs X [c] (tFT K p ds ds1 c1):=⟨DI hc.h⟩
theorem c9 {elt tg iter:Expr} {ifs:List Expr} {scope:Scope} {ns:List Str} {js:List (Option Nat)} {fi:MI} {g:MG} {lk:List Nat} {cd:Nat} (B:BlkOkC X scope ns js) (hc:X.calm=true) (hi:QI X tg iter (tFI K p ds ds1 fi)) (hg:∀ C cl s₀ H₀ fp,QG (bv X scope ns C cl s₀ H₀ fp) tg (tFG K lk dsi dsi g)) (ht:∀ C cl s₀ H₀ fp,QTs (bv X scope ns C cl s₀ H₀ fp) ifs (tFT K true dsi dsi c1)) (he:∀ C cl s₀ H₀ fp,QE (bv X scope ns C cl s₀ H₀ fp) elt (tF K true dsi dsi cd f)) (hcap:jt ds1 js dsi=true) (hd:dn d=cd) (hz:d≠0) (hlk:lk=jr js 0) (hs:∀ x,foldedSetIterable iter X.env x=pure x):QE X (.ListComp elt [⟨tg,iter,ifs,0⟩] scope pos) (tF K p ds ds1 d (eLC true fi g c1 f js)):=⟨Jm B hc hi.h (fun C cl s₀ H₀ fp=>(hg C cl s₀ H₀ fp).h) (fun C cl s₀ H₀ fp=>(ht C cl s₀ H₀ fp).h) (fun C cl s₀ H₀ fp=>(he C cl s₀ H₀ fp).h) hcap hd hz hlk hs⟩
end
section
variable {X:Cx} {K:PySem.W.Frag} {p p1 p2 q:Bool} {J:Jd} {ds ds0 ds1 ds2 ds' dsi dps:List Nat} {d d' d1 d2 dr:Nat} {a b c e tg iter:Expr} {es:List Expr} {st:Stmt} {rest body bodyB:List Stmt} {f f1 f2 fk fe:ME} {c1 c2:MT} {fa:MA} {sh:Sh} {pos px:Pos} {i:Nat} {x:Str} {m m1 m2:MS} {g:MG} {gs:List D→En→Option En} {fi:MI} {lk:List Nat}
theorem aH  : QSs X [] (tFS K J ds ds br):=⟨DR⟩
theorem aj (h1:QS X st (tFS K J ds ds1 m1)) (h2:QSs X rest (tFS K J ds1 ds2 m2)):QSs X (st :: rest) (tFS K J ds ds2 (au m1 m2)):=⟨wS h1.h h2.h⟩
theorem ao (h1:QS X st (tFS K J ds ds1 m1)):QSs X [st] (tFS K J ds ds1 m1):=⟨DQ h1.h⟩
theorem u9 (h:QSs X rest (tFS K J ds ds2 m)) (hd:leD ds1 ds2=true):QSs X rest (tFS K J ds ds1 m):=⟨DP h.h hd⟩
theorem cz (he:QE X e (tF K false ds ds1 d f)) (hs:swapsWith e none pos.line X.env=pure false):QS X (.Expr e pos) (tFS K J ds ds1 (dF f)):=⟨DY he.h hs⟩
theorem aw (he:QE X e (tF K false ds ds1 J.dr f)) (hd:leD J.dsr ds1=true):QS X (.Return (some e) pos) (tFS K J ds ds' (aQ f)):=⟨DW he.h hd⟩
theorem sd  : QS X st (tFS K J ds ds' iS):=⟨vf⟩
theorem aI (hc:QT X c (tFT K false ds ds1 c1)) (ha:QSs X body (tFS K J ds1 ds2 m1)) (hb:QSs X bodyB (tFS K J ds1 ds2 m2)):QS X (.If c body bodyB pos) (tFS K J ds ds2 (sIf c1 m1 m2)):=⟨HN hc.h ha.h hb.h⟩
theorem aq {x:Str} {pos':Pos} (hN:X.N.Nodup) (hi:X.N[i]?=some x) (hx:Loc X.env.scope x) (he:QE X e (tF K false ds ds1 d f)) (hds:ds1.set i d=ds') (hl:i < ds1.length) (hk:i ∉ J.lk) (hs:swapsWith e (some (.Name x pos')) pos.line X.env=pure false) (hf:X.fn x=true∨X.env.scope.names.lookup x=some .local):QS X (.Assign [.Name x pos'] e pos) (tFS K J ds ds' (aC i f)):=⟨DU hN hi hx he.h hds hl hk hs hf⟩
theorem r9 {x:Str} {spos pos':Pos} {elt:Expr} {ifs:List Expr} {scope:Scope} {ns:List Str} {js:List (Option Nat)} {cd:Nat} (hN:X.N.Nodup) (hi':X.N[i]?=some x) (hx:X.env.scope.names.lookup x=some .local) (B:BlkOkC X scope ns js) (hc:X.calm=true) (hi:QI X tg iter (tFI K false ds ds1 fi)) (hg:∀ C cl s₀ H₀ fp,QG (bv X scope ns C cl s₀ H₀ fp) tg (tFG K lk dsi dsi g)) (ht:∀ C cl s₀ H₀ fp,QTs (bv X scope ns C cl s₀ H₀ fp) ifs (tFT K q dsi dsi c1)) (he:∀ C cl s₀ H₀ fp,QE (bv X scope ns C cl s₀ H₀ fp) elt (tF K q dsi dsi cd f)) (hds:ds1.set i d=ds') (hcap:jt ds1 js dsi=true) (hd:dn d=cd) (hz:d≠0) (hlk:lk=jr js 0) (hl:i < ds1.length) (hk:i ∉ J.lk) (hsw:swapsWith (.ListComp elt [⟨tg,iter,ifs,0⟩] scope pos) (some (.Name x pos')) spos.line X.env=pure true) (hs:∀ x,foldedSetIterable iter X.env x=pure x):QS X (.Assign [.Name x pos'] (.ListComp elt [⟨tg,iter,ifs,0⟩] scope pos) spos) (tFS K J ds ds' (aC i (eLC q fi g c1 f js))):=⟨ve hN hi' hx B hc hi.h (fun C cl s₀ H₀ fp=>(hg C cl s₀ H₀ fp).h) (fun C cl s₀ H₀ fp=>(ht C cl s₀ H₀ fp).h) (fun C cl s₀ H₀ fp=>(he C cl s₀ H₀ fp).h) hds hcap hd hz hlk hl hk hsw hs⟩
theorem j8 {c:Nat} {x:Str} {spos:Pos} {k:Expr} (hN:X.N[i]?=some x) (hv:Vis X.env.scope x) (he:QE X e (tF K false ds ds1 c fe)) (hk:QE X k (tF K false ds1 ds2 d2 fk)) (h1:ds2[i]?=some d) (hz:d≠0) (hc:dn d=c) (hdb:(x == ("__debug__" : Str))=false) (hcd:(x == ("__classdict__" : Str))=false) (ha:∀ v,assign (.Subscript (.Name x px) k spos) X.env v=(do
   let ov ← holding [v] (eval (.Name x px) X.env)
   let iv ← holding [v,ov] (eval k X.env)
   standAt spos
   holding [v,ov,iv] (setItem ov iv v)
   release [v,ov,iv] [])) (hs:swapsWithSole [.Subscript (.Name x px) k spos] e pos.line X.env=pure false) (hw:swappedStores [.Subscript (.Name x px) k spos] e X.env=pure none) (h2:(assignEach [.Subscript (.Name x px) k spos] X.env).map (·.2)=[assign (.Subscript (.Name x px) k spos) X.env]):QS X (.Assign [.Subscript (.Name x px) k spos] e pos) (tFS K J ds ds2 (gx i fk fe)):=⟨wW hN hv he.h hk.h h1 hz hc hdb hcd ha hs hw h2⟩
theorem aV {x:Str} (hN:X.N.Nodup) (hi:X.N[i]?=some x) (hx:Loc X.env.scope x) (hds:ds.set i 0=ds') (hl:i < ds.length) (hk:i ∉ lk) (hf:X.fn x=true∨X.env.scope.names.lookup x=some .local):QG X (.Name x pos) (tFG K lk ds ds' (gN i)):=⟨wZ hN hi hx hds hl hk hf⟩
theorem cy (hc:X.calm=true) (hi:QI X tg iter (tFI K false ds ds1 fi)) (hg:QG X tg (tFG K J.lk ds1 ds2 g)) (hb:QSs X body (tFS K { J with dsl:=ds1 } ds2 ds1 m)) (hp:PassesOwn (model X.prog X.w) X.A X.env X.xe) (hs:∀ x,foldedSetIterable iter X.env x=pure x):QS X (.For tg iter body [] pos) (tFS K J ds ds1 (eP fi g m)):=⟨DX hc hi.h hg.h hb.h hp hs⟩
theorem rZ (hc:QT X c (tFT K false ds ds1 c1)) (hb:QSs X body (tFS K { J with dsl:=ds } ds1 ds m)) (hp:PassesOwn (model X.prog X.w) X.A X.env X.xe):QS X (.While c body [] pos) (tFS K J ds ds1 (du c1 m)):=⟨vc hc.h hb.h hp⟩
end
section
variable {X:Cx} {K:PySem.W.Frag} {p:Bool} {ds ds1:List Nat} {d:Nat} {e tg l:Expr} {f:ME} {fa:MA} {sh:Sh}
theorem bM (hK:X.K=K) (hl:QE X l (tF K p ds ds1 d f)):QI X tg l (tFI K p ds ds1 (cQ f)):=⟨HS hK hl.h⟩
theorem dX {a:Expr} {px pos:Pos} (hg:Gl X "range") (hm:X.mg "range"=none) (ha:QA X [a] (tFA K p ds ds1 sh fa)) (hs:aZ a=true):QI X tg (.Call (.Name "range" px) [a] [] pos) (tFI K p ds ds1 (eF fa)):=⟨D5 hg hm ha.h hs⟩
end
section
variable {X:Cx} {K:PySem.W.Frag} {p:Bool} {ds ds1:List Nat} {d1:Nat} {e:Expr} {f:ME}
theorem gf {T:Str} {n:String} {px pt pos:Pos} (hK:X.K=K) (hg:Gl X "isinstance") (hm:X.mg "isinstance"=none) (hgT:Gl X T) (hmT:X.mg T=none) (hbT:bootBuiltins T=some (.type n)) (hT:n∈["int", "bool", "str", "list", "tuple", "dict"]) (he:QE X e (tF K p ds ds1 d1 f)) (hnT:T≠"__name__") (hdT:(T == ("__debug__" : Str))=false) (hs1:starEach [e,.Name T pt] X.env=(false,eval e X.env) :: starEach [.Name T pt] X.env) (hs2:starEach [.Name T pt] X.env=(false,eval (.Name T pt) X.env) :: starEach [] X.env) (hpl:(backTo pos (starEach [.Name T pt] X.env)).any (·.1)=false):QE X (.Call (.Name "isinstance" px) [e,.Name T pt] [] pos) (tF K p ds ds1 3 (e1 (aN n) f)):=⟨Ig hK hg hm hgT hmT hbT hT he.h hnT hdT hs1 hs2 hpl⟩
end
section
variable {X:Cx} {K:PySem.W.Frag} {p:Bool} {J:Jd} {ds ds0 ds1 ds2 ds3 ds':List Nat} {d d' d1 d2 d3:Nat} {a b c e:Expr} {st:Stmt} {f f1 f2 f3:ME} {m:MS} {pos p2:Pos}
theorem vd (h:QS X st (tFS K J ds ds2 m)) (hd:leD ds1 ds2=true):QS X st (tFS K J ds ds1 m):=⟨DT h.h hd⟩
theorem uf {op op':CmpOp} {g g':D→D→Option D} (ho:OpR X (compareOp op) (rF2 K g 3)) (ho':OpR X (compareOp op') (rF2 K g' 3)) (ha:QE X a (tF K p ds ds0 d1 f1)) (hb:QE X b (tF K p ds0 ds1 d2 f2)) (hc:QE X c (tF K p ds1 ds1 d3 f3)) (hm:lastMarks [op,op'] [b,c]=false):QE X (.Compare a [op,op'] [b,c] pos) (tF K p ds ds1 3 (fV g g' f1 f2 f3)):=⟨xf ho ho' ha.h hb.h hc.h hm⟩
theorem nM {op op':CmpOp} {g g':D→D→Option D} (ho:OpR X (compareOp op) (rF2 K g 3)) (ho':OpR X (compareOp op') (rF2 K g' 3)) (ha:QE X a (tF K p ds ds0 d1 f1)) (hb:QE X b (tF K p ds0 ds1 d2 f2)) (hc:QE X c (tF K p ds1 ds1 d3 f3)) (hm:lastMarks [op,op'] [b,c]=false):QT X (.Compare a [op,op'] [b,c] pos) (tFT K p ds ds1 (tV (fV g g' f1 f2 f3))):=⟨wR ho ho' ha.h hb.h hc.h hm⟩
theorem bp  : QO X none (tFO K p ds ds cq):=⟨D2⟩
theorem be (h:QE X e (tF K p ds ds1 d f)):QO X (some e) (tFO K p ds ds1 (bW f)):=⟨D0 h.h⟩
variable {lo hi:MO}
theorem a9 {g:D→Option Int→Option Int→Option D} {elo ehi:Option Expr} (hr:SlR X (rFs K g d)) (he:QE X e (tF K p ds ds1 d1 f)) (hl:QO X elo (tFO K p ds1 ds2 lo)) (hu:QO X ehi (tFO K p ds2 ds3 hi)):QE X (.Subscript e (.Slice elo ehi none p2) pos) (tF K p ds ds3 d (eSl g f lo hi)):=⟨w8 hr he.h hl.h hu.h⟩
end
section
variable {X:Cx} {K:PySem.W.Frag} {p:Bool} {J:Jd} {ds ds0 ds1 ds2 ds':List Nat} {d d' d1 d2:Nat} {a b c e o k:Expr} {f f1 f2 fk fe:ME} {pos px spos:Pos} {i:Nat} {σ:St} {H:Hp} {Q:VK} {Dn:Ends}
theorem vq  : QE X (.Dict [] [] pos) (tF K p ds ds 3 qh):=⟨Ea⟩
end
section
variable {X:Cx} {K:PySem.W.Frag} {p:Bool} {J:Jd} {ds ds0 ds1 ds2 ds':List Nat} {d d' d1 d2:Nat} {a b c e o k:Expr} {es:List Expr} {f f1 f2 fk fe:ME} {fa:MA} {sh:Sh} {pos px spos:Pos} {i j:Nat} {σ:St} {H:Hp} {Q:VK} {Dn:Ends}
end
section
variable {X:Cx} {K:PySem.W.Frag} {p:Bool} {ds ds1:List Nat} {O:AS} {H:Hp} {σ:St} {d:Nat} {f:ME} {i:Nat} {e:Expr} {Q:VK}
end
section
variable {X:Cx} {K:PySem.W.Frag} {p:Bool} {ds ds1:List Nat} {d:Nat} {fa:MA} {sh:Sh} {O O1:AS} {H0 H:Hp} {ts us:List D} {vs ws:List V} {a b:Addr}
end
section
variable {X:Cx} {K:PySem.W.Frag} {p:Bool} {ds ds1:List Nat} {d1:Nat} {e:Expr} {f:ME}
end
section
variable {X:Cx} {K:PySem.W.Frag} {p p1 p2:Bool} {ds ds1 ds2:List Nat} {d d1:Nat} {e:Expr} {f:ME} {fa:MA} {sh:Sh} {σ:St} {H:Hp} {Q:VK}
theorem ci {o:Expr} {es:List Expr} {name:Str} {id:String} {apos cpos:Pos} {r:V→List V→Hp→VK→Prop} {g:Str→List D→Option D} (hK:X.K=K) (slot:Slot "str" name id) (hty:typeOf (.builtin id)=pure (.type "method_descriptor")) (hm:MtR X id r) (hr:MtF K r g) (ho:QE X o (tF K p ds ds1 d1 f)) (ha:QA X (e :: es) (tFA K p ds1 ds2 sh fa)) (hsh:dq 0 sh=true) (hbase:attributeBase o name X.env (eval o X.env)=eval o X.env) (hfew:((backTo cpos (starEach (e :: es) X.env)).all (fun x=>!x.1) && (backToKw cpos (keywordEach [] X.env)).all (fun x=>x.1.isSome)
   && decide ((e :: es).length+([]:List Keyword).length+(if ([]:List Keyword).isEmpty then 0 else 1) < 30))=true) (hline:(apos.endLine == cpos.line)=true) (hs:starEach (e :: es) X.env=(false,eval e X.env) :: starEach es X.env) (hplain:(backTo cpos (starEach es X.env)).any (·.1)=false):QE X (.Call (.Attribute o name apos) (e :: es) [] cpos) (tF K p ds ds2 3 (eM g f fa)):=⟨D7 hK slot hty hm hr ho.h ha.h hsh hbase hfew hline hs hplain⟩
end
section
variable {X:Cx} {K:PySem.W.Frag} {p p1 p2:Bool} {J:Jd} {ds ds1 ds2:List Nat} {H:Hp} {σ:St} {d d1 d2 i m:Nat} {f fk fe:ME} {mp:MP} {e b o:Expr} {Q:VK}
end
section
variable {X:Cx} {K:PySem.W.Frag} {p p1 p2:Bool} {ds ds1 ds2:List Nat} {d d1 d2:Nat} {e k:Expr} {f f1 f2:ME} {fa:MA} {sh:Sh} {σ:St} {H:Hp} {Q Q':VK} {pos pos2 px py:Pos}
theorem se (hK:X.K=K) (hc:X.calm=true) (hg:Gl X "len") (hm:X.mg "len"=none) (hg2:Gl X "set") (hm2:X.mg "set"=none) (hb:bootBuiltins "len"=some (.builtin "len")) (hb2:bootBuiltins "set"=some (.type "set")) (he:QE X e (tF K p ds ds1 d1 f)) (hs:aZ e=true):QE X (.Call (.Name "len" px) [.Call (.Name "set" py) [e] [] pos2] [] pos) (tF K p ds ds1 3 (e1 nz f)):=⟨vo hK hc hg hm hg2 hm2 hb hb2 he.h hs⟩
theorem vn (hK:X.K=K) (he:QE X e (tF K p ds ds1 d1 f1)) (hk:QE X k (tF K p ds1 ds2 d2 f2)):QE X (.Subscript e (.Slice none none (some k) pos2) pos) (tF K p ds ds2 0 (e2 nh f1 f2)):=⟨D8 hK he.h hk.h⟩
theorem pD (he:QE X e (tF K p ds ds1 d1 f1)) (hk:QE X k (tF K p ds1 ds2 d2 f2)):QE X (.Subscript e (.Slice none none (some k) pos2) pos) (tF K p ds ds2 3 (e2 lO f1 f2)):=⟨D9 he.h hk.h⟩
end
section
variable {X:Cx} {K:PySem.W.Frag} {p p1 p2:Bool} {ds ds1 ds2:List Nat} {d d1 d2:Nat} {a b:Expr} {f f1 f2:ME} {σ:St} {H:Hp} {Q Q':VK} {pos:Pos} {ta tb:TE} {rest:List Expr}
end
section
variable {X:Cx} {K:PySem.W.Frag} {p p1 p2:Bool} {ds ds1 ds2:List Nat} {d d1 d2:Nat} {a b:Expr} {f f1 f2:ME} {σ:St} {H:Hp} {Q Q':VK} {pos:Pos}
theorem gU (hK:X.K=K) (ha:QE X a (tF K p ds ds1 d f1)) (hb:QE X b (tF K p ds1 ds2 d2 f2)) (hs:hU b) (hz:d≠0):QE X (.Subscript a b pos) (tF K p ds ds2 (dn d) (e2 ixA f1 f2)):=⟨Ic hK ha.h hb.h hs hz⟩
end
section
variable {X:Cx} {K:PySem.W.Frag} {p p1 p2:Bool} {ds ds1 ds2:List Nat} {d d1 d2:Nat} {e:Expr} {f f1 f2:ME} {σ:St} {H:Hp} {Q Q':VK}
end
section
variable {X:Cx} {K:PySem.W.Frag} {p:Bool} {ds ds1 ds2:List Nat} {d d1 d2:Nat} {e:Expr} {f f1 f2:ME} {σ:St} {H:Hp} {Q Q':VK}
theorem sf {o:Expr} {apos cpos:Pos} (hK:X.K=K) (ho:QE X o (tF K p ds ds1 d1 f1)) (he:QE X e (tF K p ds1 ds2 d2 f2)) (hbase:attributeBase o "index" X.env (eval o X.env)=eval o X.env) (hfew:((backTo cpos (starEach [e] X.env)).all (fun x=>!x.1) && (backToKw cpos (keywordEach [] X.env)).all (fun x=>x.1.isSome) && decide (([e]:List Expr).length+([]:List Keyword).length+(if ([]:List Keyword).isEmpty then 0 else 1) < 30))=true) (hline:(apos.endLine == cpos.line)=true) (hs:starEach [e] X.env=[(false,eval e X.env)]) (hplain:(backTo cpos (starEach [] X.env)).any (·.1)=false):QE X (.Call (.Attribute o "index" apos) [e] [] cpos) (tF K p ds ds2 3 (e2 iY f1 f2)):=⟨vp hK ho.h he.h hbase hfew hline hs hplain⟩
end
section
variable {X:Cx} {K:PySem.W.Frag} {p p1 p2:Bool} {ds ds1 ds2:List Nat} {d d1 d2:Nat} {e k:Expr} {f f1 f2:ME} {fa:MA} {sh:Sh} {σ:St} {H:Hp} {Q Q':VK} {pos pos2 px py:Pos}
end
section
variable {X:Cx} {K:PySem.W.Frag} {p p1 p2:Bool} {ds ds1 ds2:List Nat} {d d1 d2:Nat} {e:Expr} {f f1 f2:ME} {σ:St} {H:Hp} {Q Q':VK} {i:Nat}
end
section
variable {X:Cx} {K:PySem.W.Frag} {p p1 p2 q:Bool} {J:Jd} {ds ds0 ds1 ds2 ds' dsi dps:List Nat} {d d' d1 d2 dr:Nat} {a b c e tg iter:Expr} {es:List Expr} {st:Stmt} {rest body bodyB:List Stmt} {f f1 f2 fk fe:ME} {c1 c2:MT} {fa:MA} {sh:Sh} {pos px:Pos} {i:Nat} {x:Str} {m m1 m2:MS} {g:MG} {gs:List D→En→Option En} {fi:MI} {lk:List Nat}
end
section
variable {X:Cx} {K:PySem.W.Frag} {p:Bool} {ds ds1:List Nat} {d:Nat} {fa:MA} {sh:Sh} {O O1:AS} {H0 H:Hp} {ts us:List D} {vs ws:List V} {a b:Addr}
end
section
variable {X:Cx} {K:PySem.W.Frag} {J:Jd} {lk ds ds0 ds1 ds2 ds':List Nat} {e tg:Expr} {es:List Expr} {f:ME} {pos px:Pos} {i:Nat} {g:MG} {gs:List D→En→Option En}
end
section
variable {X:Cx} {K:PySem.W.Frag} {p:Bool} {ds:List Nat} {k v:Expr} {fk fv:ME} {pos:Pos} {σ:St} {H:Hp} {Q:VK} {O:AS}
end
end L2
namespace L2
open PySem PySem.Spec PyProof.Rows
theorem Fun.okQ {P:Program} {w:World} {K:PySem.W.Frag} {mg:Str→Option Value} {base:Heap} {x qual:Str} {st:Stmt} {f:Addr} {fd:FuncData} {N ps:List Str} {k n dr:Nat} {dps ds0:List Nat} {J:Jd} {b:MS}
  (F:Fun K x qual st f fd) (S:FnScope N ps (av st)) (hl:dps.length=ps.length) (hn:N.length - dps.length=n) (hJ:J=⟨qQ dps,dps++List.replicate n 0,dr,[]⟩) (hd:ds0=dps++List.replicate n 0)
  (hb:∀ (cdv:Value) (A:Around) (outer:List Env) (s:Shared) (H:Hp) (E:XK),Room k (A.deeper (envOfC qual (av st) s.heap.objs.size f cdv)) →
   QSs (i7 CX0 P w K mg base N qual (av st) f cdv A outer s H E).nox (da st) (tFS K J ds0 ds0 b)):FnOk P w K mg base CX0 (k+1) f fd ps (spF K dps dr (fnF n dps b)):=by
 subst hJ hd
 exact F.ok S (fun vs H Q E h=>sx hl h) fun cdv A outer s H vs Q E hr h=>⟨_,(hb cdv A outer s H E hr).h,D3 hn h⟩
def Hk (F:List D→Option (D × En)):Prop:=∀ ns:List Int,ns.length≤63→∃ outs,F [.list (ns.map .int)]=some (.bool true,outs)
def nb (K:PySem.W.Frag):Sp:=fun vs H Q _=>∃ (a:Addr) (ns:List Int),vs=[.ref a]∧SqL K H a (ns.map V.int)∧(∀ b,H b=none∨∃ o xs,H b=some (.frz o (.lst xs)))∧ns.length≤63∧∀ H':Hp,Q (.bl true) H'
theorem ma {K:PySem.W.Frag} {O:AS} {H:Hp}:∀ ns:List Int,Ows K O H (ns.map .int) 0 (ns.map V.int) NoA
 | []=>rfl
 | n :: r=>⟨.int n,r.map V.int,NoA,NoA,rfl,fun _ z=>z,fun _ z=>z,fun _ z=>z.elim,rfl,ma r⟩
theorem Hj {K:PySem.W.Frag} {dr:Nat} {F:List D→Option (D × En)} (h:Hk F) {vs:List V} {H:Hp} {Q:VK} {E:XK} (q:nb K vs H Q E):spF K [0] dr F vs H Q E:=by
 obtain ⟨a,ns,rfl,hs,_,hl,q⟩:=q
 obtain ⟨outs,e⟩:=h ns hl
 have fz:FzL K (fun _=>False) H a (ns.map V.int):=by
  rcases hs with hs | hs
  ·exact .inl ⟨hs,fun z=>z⟩
  ·exact .inr fun H'=>.inr hs
 have eO:Own (fun _=>NoA) NoA=(fun _=>False):=ib fun b=>⟨fun z=>z.elim (fun ⟨_,z⟩=>z) fun z=>z,fun z=>z.elim⟩
 refine ⟨NoA,[.list (ns.map .int)],fun _=>NoA,.bool true,outs,⟨fun i t hi=>?_,fun _ _ _ z=>z.elim,fun _ _ z=>z.elim,fun b z=>?_,rfl,rfl⟩,e,fun v H' R' Fr _ o=>?_⟩
 ·cases i with
  | zero =>
   have:t=.list (ns.map .int):=by
    have h2:some (some (PyData.list (ns.map .int)))=some (some t):=hi
    injection h2 with h3
    injection h3 with h4
    exact h4.symm
   subst this
   refine ⟨.ref a,0,rfl,rfl,?_⟩
   rw [eO]
   exact ⟨a,ns.map V.int,rfl,.inl ⟨rfl,fz,ma ns⟩⟩
  | succ i=>simp at hi
 ·rw [eO] at z
  exact z.elim
 ·rw [show v=.bl true from o]
  exact q H'
end L2
namespace L2
open PySem PySem.Spec PyProof.Rows
section
variable {c:MT} {b:MS} {en en1 en2:En} {fl:Fl} {t:D}
theorem jQ:∀ {n m:Nat} {en:En} {fl:Fl},whN c b n en=some fl→n≤m→whN c b m en=some fl
 | 0,_,_,_,h,_=>by cases h
 | n+1,0,_,_,_,h=>by omega
 | n+1,m+1,en,fl,h,hm=>by
  unfold whN at h ⊢
  obtain ⟨r,h1,h⟩:=Option.bind_eq_some_iff.mp h
  rw [h1]
  show (if r.1=true then _ else _)=_
  by_cases hr:r.1=true
  ·rw [if_pos hr] at h ⊢
   obtain ⟨f1,h2,h⟩:=Option.bind_eq_some_iff.mp h
   rw [h2]
   cases f1 with
   | nx e=>exact jQ (n:=n) (m:=m) h (by omega)
   | ct e=>exact jQ (n:=n) (m:=m) h (by omega)
   | rt t e=>exact h
  ·rw [if_neg hr] at h ⊢
   exact h
theorem jf {n:Nat} (h:whN c b n en=some fl):du c b en=some fl:=by
 have q:∃ n fl,whN c b n en=some fl:=⟨n,fl,h⟩
 unfold du
 rw [dif_pos q]
 have h2:=q.choose_spec.choose_spec
 have h3:=jQ h (Nat.le_max_left n q.choose)
 have h4:=jQ h2 (Nat.le_max_right n q.choose)
 rw [h3] at h4
 exact h4.symm
theorem rN (h:c en=some (false,en1)):du c b en=some (.nx en1):=by
 refine jf (n:=1) ?_
 unfold whN
 rw [h]
 rfl
theorem rO (h:c en=some (true,en1)) (h1:b en1=some (.nx en2)) (h2:du c b en2=some fl):du c b en=some fl:=by
 obtain ⟨n,h3⟩:=jn h2
 refine jf (n:=n+1) ?_
 unfold whN
 rw [h]
 show (b en1).bind _=_
 rw [h1]
 exact h3
theorem iC {c:MT} {f:ME} {p:D→Bool} {F:D→D} {rest:En}:∀ (ts acc:List D) (o:Option D),(∀ t∈ts,c (some t :: rest)=some (p t,some t :: rest))→(∀ t∈ts,p t=true→f (some t :: rest)=some (F t,some t :: rest))→acc.length+ts.length≤sizeLine →
  ∃ o',lcF (gN 0) c f ts acc (o :: rest)=some (acc++(ts.filter p).map F,o' :: rest)
 | [],acc,o,_,_,_=>⟨o,by simp [lcF]⟩
 | t :: ts,acc,o,hc,hf,hl=>by
  have hl':acc.length+(ts.length+1)≤sizeLine:=hl
  cases hp:p t with
  | true =>
   obtain ⟨o',h⟩:=iC (c:=c) (f:=f) (p:=p) (F:=F) ts (acc++[F t]) (some t) (fun x hx=>hc x (List.mem_cons_of_mem _ hx)) (fun x hx=>hf x (List.mem_cons_of_mem _ hx)) (by rw [List.length_append]; show acc.length+1+_≤_; omega)
   refine ⟨o',?_⟩
   unfold lcF
   show ((c (some t :: rest)).bind _)=_
   rw [hc t List.mem_cons_self,hp]
   show ((f (some t :: rest)).bind _)=_
   rw [hf t List.mem_cons_self hp]
   show (if acc.length < sizeLine then _ else _)=_
   rw [if_pos (by omega)]
   dsimp only
   rw [h,List.filter_cons_of_pos hp]
   simp
  | false =>
   obtain ⟨o',h⟩:=iC (c:=c) (f:=f) (p:=p) (F:=F) ts acc (some t) (fun x hx=>hc x (List.mem_cons_of_mem _ hx)) (fun x hx=>hf x (List.mem_cons_of_mem _ hx)) (by omega)
   refine ⟨o',?_⟩
   unfold lcF
   show ((c (some t :: rest)).bind _)=_
   rw [hc t List.mem_cons_self,hp]
   show lcF (gN 0) c f ts acc (some t :: rest)=_
   rw [h,List.filter_cons_of_neg (by rw [hp]; decide)]
theorem DB {f:ME} {F:D→D} {rest:En} (ts acc:List D) (o:Option D) (hf:∀ t∈ts,f (some t :: rest)=some (F t,some t :: rest)) (hl:acc.length+ts.length≤sizeLine) :
  ∃ o',lcF (gN 0) cY f ts acc (o :: rest)=some (acc++ts.map F,o' :: rest):=by
 obtain ⟨o',h⟩:=iC (c:=cY) (f:=f) (p:=fun _=>true) (F:=F) ts acc o (fun _ _=>rfl) (fun t ht _=>hf t ht) hl
 rw [List.filter_eq_self.mpr (fun _ _=>rfl)] at h
 exact ⟨o',h⟩
end
section
variable {c c1 c2:MT} {m1 m2 b:MS} {en en1 en2:En} {fl:Fl} {t t1 t2 u:D} {f f1 f2:ME} {g:D→D→Option D} {fa:MA} {i n:Nat} {x y:Bool} {F:List D→Option (D × En)} {as:List (D ⊕ Nat)} {ts:List D} {outs:En} {dps:List Nat}
theorem cD:100≤sizeLine:=by rw [sizeLine_eq]; decide
end
namespace Pen2
def dy:MS:=(aQ (JC [((eC (.str "script")),(ah 0)),((eC (.str "at")),(ah 1)),((eC (.str "left")),(eC (.int 0)))]))
def F_law_pen:List D→Option (D × En):=fnF 0 [0,0] dy
def mt:MS:=(au (aC 2 (e2 cB (e2 cr (e2 bg (e2 bg (e2 cB (ah 0) (eC (.int 2147483629))) (e2 cr (eC (.int 40503)) (ah 1))) (eC (.int 24691))) (eC (.int 48271))) (eC (.int 2147483647))))
 (au (aC 3 (e2 cB (e2 bg (e2 bg (e2 cr (ah 2) (ah 2)) (e2 cr (eC (.int 69621)) (ah 2))) (ah 1)) (eC (.int 2147483629))))
 (aQ (e2 gA (e2 cB (e2 bg (e2 bg (e2 cr (ah 3) (ah 3)) (e2 cr (eC (.int 16807)) (ah 3))) (e2 cr (eC (.int 31)) (ah 1))) (eC (.int 1073741789))) (eC (.int 64))))))
def mr:List D→Option (D × En):=fnF 2 [0,0] mt
theorem qO {c k:Int} (h0:0≤k) (h1:k≤1000000000):∃ r,mr [.int c,.int k]=some (.int r,[none,none])∧0≤r:=by
 have a0:0≤c % 2147483629:=by omega
 have a1:c % 2147483629 < 2147483629:=by omega
 generalize g1:(c % 2147483629+40503 * k+24691) * 48271 % 2147483647=x
 have x0:0≤x:=by omega
 have x1:x < 2147483647:=by omega
 generalize g2:(x * x+69621 * x+k) % 2147483629=y
 have y0:0≤y:=by omega
 have y1:y < 2147483629:=by omega
 refine ⟨(y * y+16807 * y+31 * k) % 1073741789 / 64,?_,by omega⟩
 have c1:CMul 40503 k:=.inl (by decide)
 have c2:CMul (c % 2147483629+40503 * k+24691) 48271:=.inr (by decide)
 have c3:CMul x x:=.inl (by constructor <;> omega)
 have c4:CMul 69621 x:=.inl (by decide)
 have c5:CMul y y:=.inl (by constructor <;> omega)
 have c6:CMul 16807 y:=.inl (by decide)
 have c7:CMul 31 k:=.inl (by decide)
 have c8:∀ z,jb z 64:=fun z=>by unfold jb; decide
 simp [mr,fnF,mt,au,aC,aQ,e2,ah,eC,cB,cr,bg,gA,iX,c1,c2,c3,c4,c5,c6,c7,c8,g1,g2,msk]
end Pen2
end L2
namespace L2
open PySem PySem.Spec PyProof.Rows
theorem Iz (a b:Int):eqD (.int a) (.int b)=some (.bool (a == b)):=by
 show grd _ _=_
 unfold grd
 rw [if_pos ⟨rfl,rfl,Nat.zero_le _⟩]
 simp only [peq]
theorem Hd (a b:Int):neD (.int a) (.int b)=some (.bool (!(a == b))):=by
 show grd _ _=_
 unfold grd
 rw [if_pos ⟨rfl,rfl,Nat.zero_le _⟩]
 simp only [peq]
end L2
namespace L2
open PySem PySem.Spec PyProof.Rows
structure Df (K:PySem.W.Frag) (x:Str) (st:Stmt) (f:Addr):Prop where
 a:PySem.W.nsIn K mainGlobals x=some (some (.ref f))
 l:∃ oc od kV dc pm an cd ct sl,K.lookup f=some ⟨oc,od,.func (PySem.W.fnOf x x (eJ st) (da st) (av st) .none kV dc pm an cd ct),sl⟩∧PySem.W.codeIn K cd x=true
 k:PySem.W.keepIn K (.ref f)=true
section
variable {P:Program} {w:World} {K:PySem.W.Frag} {mg:Str→Option Value} {base h:Heap} {k dr:Nat} {x:Str} {ps:List Str} {dps:List Nat} {f:Addr} {st:Stmt} {sp:Sp}
theorem Df.mk' {oc:Value} {od an:Option Addr} {sl:Array (Option Value)} {kV dc pm cd ct:Value} (a:PySem.W.nsIn K mainGlobals x=some (some (.ref f))) (l:K.lookup f=some ⟨oc,od,.func (PySem.W.fnOf x x (eJ st) (da st) (av st) .none kV dc pm an cd ct),sl⟩) (c:PySem.W.codeIn K cd x=true) (k:PySem.W.keepIn K (.ref f)=true):Df K x st f :=
 ⟨a,⟨oc,od,kV,dc,pm,an,cd,ct,sl,l,c⟩,k⟩
theorem Df.kn (d:Df K x st f) (X:K.In h) (G:h.Ns mainGlobals mg) (b:∀ (kV doc pm:Value) (an:Option Addr) (cdv ct:Value) (us:List Value),us.length=ps.length→bindArgs (PySem.W.fnOf x x (eJ st) (da st) (av st) .none kV doc pm an cdv ct) ⟨us,[]⟩=pure (ps.zip us))
  (ok:∀ fd,Fun K x x st f fd→FnOk P w K mg base CX0 k f fd ps sp):Kn P w K mg base k x ps sp:=by
 obtain ⟨_,_,_,_,_,_,_,_,_,l,c⟩:=d.l
 have F:=nL (st:=st) l c d.k
 exact ⟨_,_,ok _ F,PySem.W.mg_of X G d.a,d.k,F.binds b⟩
theorem Df.none (d:Df K x st f) (X:K.In h) (G:h.Ns mainGlobals mg) (b:∀ (kV doc pm:Value) (an:Option Addr) (cdv ct:Value) (us:List Value),us.length=ps.length→bindArgs (PySem.W.fnOf x x (eJ st) (da st) (av st) .none kV doc pm an cdv ct) ⟨us,[]⟩=pure (ps.zip us)) :
  Kn P w K mg base k x ps (spF K dps dr fun _=>Option.none):=by
 obtain ⟨_,_,_,_,_,_,_,_,_,l,c⟩:=d.l
 have F:=nL (st:=st) l c d.k
 exact DC (PySem.W.mg_of X G d.a) d.k (F.binds b)
end
end L2
namespace L2
namespace Pen3
open PySem L2
theorem sl1000:1000≤sizeLine:=by rw [sizeLine_eq]; decide
end Pen3
end L2
namespace L2
open PySem PySem.Spec PyProof.Rows
structure W {α:Type} (x:Option α) (Q:α→Prop):Prop where
 ex:∃ a,x=some a∧Q a
theorem aM {α:Type} (a:α) (Q:α→Prop):W (some a) Q=Q a:=propext ⟨fun ⟨b,e,h⟩=>(Option.some.inj e) ▸ h,fun h=>⟨a,rfl,h⟩⟩
theorem bQ {α:Type} (Q:α→Prop):W (none:Option α) Q=False:=propext ⟨(fun ⟨b,e,h⟩=>by cases e),(fun h=>h.elim)⟩
theorem W.use {α:Type} {x:Option α} {P Q:α→Prop} (h:W x P) (k:∀ a,P a→Q a):W x Q :=
 let ⟨a,e,h⟩:=h.ex
 ⟨a,e,k a h⟩
theorem W.of {α:Type} {x:Option α} {P:α→Prop} {a:α} (e:x=some a) (h:P a):W x P:=⟨a,e,h⟩
theorem aK {α β:Type} (x:Option α) (f:α→Option β) (Q:β→Prop):W (x.bind f) Q=W x (fun a=>W (f a) Q):=by
 cases x with
 | none=>show W none _=_; rw [bQ,bQ]
 | some a=>show W (f a) Q=_; rw [aM]
theorem cj {α β:Type} (x:Option α) (f:α→β) (Q:β→Prop):W (x.map f) Q=W x (fun a=>Q (f a)):=by
 cases x with
 | none=>show W none _=_; rw [bQ,bQ]
 | some a=>show W (some (f a)) Q=_; rw [aM,aM]
theorem ko {α:Type} (c:Prop) [Decidable c] (a:α) (Q:α→Prop):W (grd c a) Q=(c∧Q a):=by
 unfold grd
 by_cases h:c
 ·rw [if_pos h,aM]; exact propext ⟨fun z=>⟨h,z⟩,fun z=>z.2⟩
 ·rw [if_neg h,bQ]; exact propext ⟨fun z=>z.elim,fun z=>h z.1⟩
theorem i8 {α:Type} (c:Prop) [Decidable c] (a:α) (Q:α→Prop):W (if c then some a else none) Q=(c∧Q a):=ko c a Q
theorem up {α:Type} (c:Prop) [Decidable c] (x:Option α) (Q:α→Prop):W (if c then x else none) Q=(c∧W x Q):=by
 by_cases h:c
 ·rw [if_pos h]; exact propext ⟨fun z=>⟨h,z⟩,fun z=>z.2⟩
 ·rw [if_neg h,bQ]; exact propext ⟨fun z=>z.elim,fun z=>h z.1⟩
def gv (en:En) (i:Nat):Option D:=(en[i]?).join
def iR (ts:List D) (n:Int) (t:D):Option (List D):=(ixN ts.length n).map fun k=>ts.set k t
def GU (ts:List D) (n:Int):Option (D × List D):=(seqIndex? n ts.length).bind fun k=>(ts[k]?).map fun t=>(t,ts.eraseIdx k)
def kW (i:Int) (n:Nat):List D:=(List.range n).map fun k=>.int (i+(k:Nat))
section
variable {α β:Type}
def qU (b:MS) (Q:Fl→Prop):Fl→Prop:=fun fl=>W (match fl with | .nx en1=>b en1 | .rt t en1=>some (.rt t en1) | .ct en1=>some (.ct en1)) Q
def Ht (i:Nat) (Q:Fl→Prop):D × En→Prop:=fun r=>Q (.nx (r.2.set i (some r.1)))
def Hz (Q:Fl→Prop):D × En→Prop:=fun r=>Q (.nx r.2)
def Hu (Q:Fl→Prop):D × En→Prop:=fun r=>Q (.rt r.1 r.2)
def kIf (f g:En→Option β) (Q:β→Prop):Bool × En→Prop:=fun r=>W (if r.1 then f r.2 else g r.2) Q
def Hy (g:MG) (b:MS) (Q:Fl→Prop):List D × En→Prop:=fun r=>W (eh g b r.1 r.2) Q
def nE (g:MG) (b:MS) (ts:List D) (Q:Fl→Prop):Fl→Prop:=fun fl=>W (match fl with | .nx en2=>eh g b ts en2 | .ct en2=>eh g b ts en2 | .rt r en2=>some (.rt r en2)) Q
def CV (g:MG) (b:MS) (ts:List D) (Q:Fl→Prop):En→Prop:=fun en=>W (b en) (nE g b ts Q)
def wG (i:Nat) (en:En) (Q:Fl→Prop):List D→Prop:=fun ts=>Q (.nx (en.set i (some (.list ts))))
def nC (i:Nat) (t:D) (Q:Fl→Prop):D × En→Prop:=fun q=>W (match q.1,(q.2[i]?).join with | .int n,some (.list ts)=>(ixN ts.length n).map fun k=>.nx (q.2.set i (some (.list (ts.set k t)))) | _,_=>none) Q
def tO (i:Nat) (fk:ME) (Q:Fl→Prop):D × En→Prop:=fun r=>W (match (r.2[i]?).join with | some _=>((fk r.2).bind fun q=>(match q.1,(q.2[i]?).join with | .int n,some (.list ts)=>(ixN ts.length n).map fun k=>.nx (q.2.set i (some (.list (ts.set k r.1)))) | _,_=>none)) | none=>none) Q
def uZ (i:Nat) (t:D) (fk:ME) (en:En) (Q:Fl→Prop):D→Prop:=fun _x=>W (fk en) (nC i t Q)
def qT (i:Nat) (t:D) (n:Int) (en:En) (Q:Fl→Prop):D→Prop:=fun x=>W (match x with | .list ts=>(ixN ts.length n).map fun k=>.nx (en.set i (some (.list (ts.set k t)))) | _=>none) Q
def gO (en:En) (Q:D × En→Prop):D→Prop:=fun t=>Q (t,en)
def k1 (g:D→Option D) (Q:D × En→Prop):D × En→Prop:=fun r=>W (g r.1) (gO r.2 Q)
def k2b (g:D→D→Option D) (t:D) (Q:D × En→Prop):D × En→Prop:=fun q=>W (g t q.1) (gO q.2 Q)
def k2 (g:D→D→Option D) (f:ME) (Q:D × En→Prop):D × En→Prop:=fun r=>W (f r.2) (k2b g r.1 Q)
def wK (g:ME) (Q:D × En→Prop):D × En→Prop:=fun r=>W (match r.1 with | .bool true=>g r.2 | .bool false=>some (.bool false,r.2) | _=>none) Q
def kTV (Q:Bool × En→Prop):D × En→Prop:=fun r=>W (match r.1 with | .bool b=>some (b,r.2) | _=>none) Q
def tW (g:MT) (Q:Bool × En→Prop):Bool × En→Prop:=fun r=>W (if r.1 then g r.2 else some (false,r.2)) Q
def wJ (g:MT) (Q:Bool × En→Prop):Bool × En→Prop:=fun r=>W (if r.1 then some (true,r.2) else g r.2) Q
def CY (Q:Bool × En→Prop):Bool × En→Prop:=fun r=>Q (!r.1,r.2)
def wM (t:D) (Q:List (D ⊕ Nat) × En→Prop):List (D ⊕ Nat) × En→Prop:=fun y=>Q (.inl t :: y.1,y.2)
def kAC (r:MA) (Q:List (D ⊕ Nat) × En→Prop):D × En→Prop:=fun x=>W (r x.2) (wM x.1 Q)
def wL (i:Nat) (Q:List (D ⊕ Nat) × En→Prop):List (D ⊕ Nat) × En→Prop:=fun y=>Q (.inr i :: y.1,y.2)
def kAS (i:Nat) (r:MA) (en:En) (Q:List (D ⊕ Nat) × En→Prop):D→Prop:=fun _x=>W (r en) (wL i Q)
def kN2 (g:List D→Option D) (en:En) (Q:D × En→Prop):List D→Prop:=fun ts=>W (g ts) (gO en Q)
def kN (g:List D→Option D) (Q:D × En→Prop):List (D ⊕ Nat) × En→Prop:=fun r=>W (ck r.1) (kN2 g r.2 Q)
def tR (en:En) (Q:D × En→Prop):List D→Prop:=fun ts=>W (if ts.length≤sizeLine then some (.list ts,en) else none) Q
def Hw (Q:D × En→Prop):List (D ⊕ Nat) × En→Prop:=fun r=>W (ck r.1) (tR r.2 Q)
def tN (en:En) (Q:D × En→Prop):List D→Prop:=fun ts=>W (if ts.length≤sizeLine then some (.tuple ts,en) else none) Q
def Hs (Q:D × En→Prop):List (D ⊕ Nat) × En→Prop:=fun r=>W (ck r.1) (tN r.2 Q)
def qV (as:List (D ⊕ Nat)) (en:En) (Q:D × En→Prop):D × En→Prop:=fun q=>Q (q.1,wb as q.2 en)
def qW (F:List D→Option (D × En)) (as:List (D ⊕ Nat)) (en:En) (Q:D × En→Prop):List D→Prop:=fun ts=>W (F ts) (qV as en Q)
def CW (F:List D→Option (D × En)) (Q:D × En→Prop):List (D ⊕ Nat) × En→Prop:=fun r=>W (dO r.1 r.2) (qW F r.1 r.2 Q)
def kFn (dps:List Nat) (Q:D × En→Prop):Fl→Prop:=fun fl=>W (match fl with | .rt t en=>some (t,msk dps en) | .nx en=>some (.none,msk dps en) | .ct _=>none) Q
def tT (q:Bool) (js:List (Option Nat)) (en:En) (Q:D × En→Prop):List D × En→Prop:=fun z=>Q (.list z.1,if q then en else wbB js z.2 en)
def kLC (q:Bool) (g:MG) (c:MT) (f:ME) (js:List (Option Nat)) (Q:D × En→Prop):List D × En→Prop:=fun r=>W (lcF g c f r.1 [] (eU js r.2)) (tT q js r.2 Q)
def kL3 (g:MG) (c:MT) (f:ME) (ts acc:List D) (Q:List D × En→Prop):D × En→Prop:=fun q=>W (if acc.length < sizeLine then lcF g c f ts (acc++[q.1]) q.2 else none) Q
def kL2 (g:MG) (c:MT) (f:ME) (ts acc:List D) (Q:List D × En→Prop):Bool × En→Prop:=fun r=>W (if r.1 then (f r.2).bind fun q=>if acc.length < sizeLine then lcF g c f ts (acc++[q.1]) q.2 else none else lcF g c f ts acc r.2) Q
def kL1 (g:MG) (c:MT) (f:ME) (ts acc:List D) (Q:List D × En→Prop):En→Prop:=fun en=>W (c en) (kL2 g c f ts acc Q)
def tZ (Q:List D × En→Prop):D × En→Prop:=fun r=>W ((CF r.1).map fun ts=>(ts,r.2)) Q
def kR1 (Q:List D × En→Prop):List (D ⊕ Nat) × En→Prop:=fun r=>W (match r.1 with | [.inl (.int j)]=>if -(2 ^ 62)≤j∧j < 2 ^ 62 then some ((List.range j.toNat).map fun k=>.int (0+(k:Nat)),r.2) else none | _=>none) Q
def uW (n:Int) (en:En) (Q:D × En→Prop):D→Prop:=fun x=>W (match x with | .list ts=>(atI ts n).map fun t=>(t,en) | _=>none) Q
def nB (i:Nat) (Q:D × En→Prop):D × En→Prop:=fun r=>W (match r.1,(r.2[i]?).join with | .int n,some (.list ts)=>(atI ts n).map fun t=>(t,r.2) | _,_=>none) Q
def CT (i:Nat) (f:ME) (en:En) (Q:D × En→Prop):D→Prop:=fun _x=>W (f en) (nB i Q)
def tY (i:Nat) (Q:D × En→Prop):D × En→Prop:=fun r=>W (match (r.2[i]?).join with | some (.list ts)=>if ts.length < sizeLine then some (PyData.none,r.2.set i (some (.list (ts++[r.1])))) else none | _=>none) Q
def CZ (i:Nat) (t:D) (en:En) (Q:D × En→Prop):D→Prop:=fun x=>W (match x with | .list ts=>if ts.length < sizeLine then some (PyData.none,en.set i (some (.list (ts++[t])))) else none | _=>none) Q
def HB (i:Nat) (f:ME) (en:En) (Q:D × En→Prop):D→Prop:=fun x=>W (match x with | .list _=>((f en).bind fun r=>(match (r.2[i]?).join with | some (.list ts)=>if ts.length < sizeLine then some (PyData.none,r.2.set i (some (.list (ts++[r.1])))) else none | _=>none)) | _=>none) Q
def tU (g:D→D→Option D) (t:D) (f:ME) (en:En) (Q:D × En→Prop):D→Prop:=fun x=>W (match x with | .bool true=>(f en).bind fun z=>(g t z.1).map fun t=>(t,z.2) | .bool false=>some (.bool false,en) | _=>none) Q
def wI (g g2:D→D→Option D) (f3:ME) (t:D) (Q:D × En→Prop):D × En→Prop:=fun q=>W (g t q.1) (tU g2 q.1 f3 q.2 Q)
def kCh (g g2:D→D→Option D) (f2 f3:ME) (Q:D × En→Prop):D × En→Prop:=fun r=>W (f2 r.2) (wI g g2 f3 r.1 Q)
def kOS (Q:Option Int × En→Prop):D × En→Prop:=fun r=>W (match r.1 with | .int i=>some (some i,r.2) | _=>none) Q
def wE (g:D→Option Int→Option Int→Option D) (t:D) (lo:Option Int) (Q:D × En→Prop):Option Int × En→Prop:=fun h=>W (g t lo h.1) (gO h.2 Q)
def wF (g:D→Option Int→Option Int→Option D) (t:D) (hi:MO) (Q:D × En→Prop):Option Int × En→Prop:=fun l=>W (hi l.2) (wE g t l.1 Q)
def kSl (g:D→Option Int→Option Int→Option D) (lo hi:MO) (Q:D × En→Prop):D × En→Prop:=fun r=>W (lo r.2) (wF g r.1 hi Q)
def kM2 (g:Str→List D→Option D) (z:Str) (en:En) (Q:D × En→Prop):List D→Prop:=fun ts=>W (g z ts) (gO en Q)
def kM1 (g:Str→List D→Option D) (z:Str) (Q:D × En→Prop):List (D ⊕ Nat) × En→Prop:=fun q=>W (ck q.1) (kM2 g z q.2 Q)
def kM (g:Str→List D→Option D) (fa:MA) (Q:D × En→Prop):D × En→Prop:=fun r=>W (match r.1 with | .str z=>(fa r.2).bind fun q=>(ck q.1).bind fun ts=>(g z ts).map fun t=>(t,q.2) | _=>none) Q
def kIt (J:En→Prop) (Q:Fl→Prop):Fl→Prop:=fun fl=>match fl with | .nx e=>J e | .ct e=>J e | .rt t e=>Q (.rt t e)
def wH (us:List D) (J:List D→En→Prop):D × En→Prop:=fun r=>J (us++[r.1]) r.2
def tS (f:ME) (us:List D) (J:List D→En→Prop):Bool × En→Prop:=fun r=>if r.1 then W (f r.2) (wH us J) else J us r.2
def Hx (c:MT) (f:ME) (us:List D) (J:List D→En→Prop):En→Prop:=fun en=>W (c en) (tS f us J)
def kWh (b:MS) (J:En→Prop) (Q:Fl→Prop):Bool × En→Prop:=fun r=>if r.1 then W (b r.2) (kIt J Q) else Q (.nx r.2)
def kFg (b:MS) (J:En→Prop) (Q:Fl→Prop):En→Prop:=fun en=>W (b en) (kIt J Q)
def CU (i:Nat) (en:En) (Q:D × En→Prop):D × List D→Prop:=fun r=>Q (r.1,en.set i (some (.list r.2)))
def tP (i:Nat) (n:Int) (en:En) (Q:D × En→Prop):D→Prop:=fun x=>W (match x with | .list ts=>(if -(2 ^ 63)≤n∧n < 2 ^ 63 then (seqIndex? n ts.length).bind fun k=>(ts[k]?).map fun t=>(t,en.set i (some (.list (ts.eraseIdx k)))) else none) | _=>none) Q
def tQ (i:Nat) (Q:D × En→Prop):D × En→Prop:=fun r=>W (match r.1,(r.2[i]?).join with | .int n,some (.list ts)=>(if -(2 ^ 63)≤n∧n < 2 ^ 63 then (seqIndex? n ts.length).bind fun k=>(ts[k]?).map fun t=>(t,r.2.set i (some (.list (ts.eraseIdx k)))) else none) | _,_=>none) Q
def Hv (i:Nat) (f:ME) (en:En) (Q:D × En→Prop):D→Prop:=fun x=>W (match x with | .list _=>(f en).bind (fun r=>match r.1,(r.2[i]?).join with | .int n,some (.list ts)=>(if -(2 ^ 63)≤n∧n < 2 ^ 63 then (seqIndex? n ts.length).bind fun k=>(ts[k]?).map fun t=>(t,r.2.set i (some (.list (ts.eraseIdx k)))) else none) | _,_=>none) | _=>none) Q
def kS1 (Q:D→Prop):Nat→Prop:=fun c=>Q (.str (mk1 c))
def nF (t:D) (Q:List D→Prop):List D→Prop:=fun ts=>Q (t :: ts)
def HA (r:List (D ⊕ Nat)) (en:En) (Q:List D→Prop):D→Prop:=fun t=>W (dO r en) (nF t Q)
theorem bn {α:Type} (ts:List α) (n:Nat):atI ts (n:Int)=ts[n]?:=by
 unfold atI ixN
 rw [if_pos (by omega)]
 by_cases h:n < ts.length
 ·rw [if_pos (by omega)]; rfl
 ·rw [if_neg (by omega),List.getElem?_eq_none (by omega)]; rfl
theorem gb {ts:List D} {t:D} (n:Nat) (h:n < ts.length):iR ts (n:Int) t=some (ts.set n t):=by
 unfold iR ixN
 rw [if_pos (by omega),if_pos (by omega)]
 rfl
theorem Ej (x:D) (l:List D):dA (x :: l) (some 1) none=l:=by
 unfold dA
 rw [HT.sIx_none,show (some (1:Int))=some ((1:Nat):Int) from rfl,HT.sIx_nat,Nat.min_eq_left (by simp),List.drop_one]
 exact List.take_of_length_le (by simp)
theorem JH (x:D) (l:List D):(HT.sIx (x :: l).length 0 (some 1)=0)=False:=by
 rw [show (some (1:Int))=some ((1:Nat):Int) from rfl,HT.sIx_nat,Nat.min_eq_left (by simp)]
 exact eq_false (by decide)
theorem sN (a b:Int):(a == b)=decide (a=b):=by
 by_cases h:a=b
 ·rw [h,decide_eq_true rfl]; exact beq_self_eq_true b
 ·rw [decide_eq_false h]; exact beq_eq_false_iff_ne.mpr h
theorem Ei (a b:Bool):eqD (.bool a) (.bool b)=some (.bool (a == b)):=by
 show grd _ _=_
 unfold grd
 rw [if_pos ⟨rfl,rfl,Nat.zero_le _⟩]
 simp only [peq]
theorem Dx (a b:Bool):neD (.bool a) (.bool b)=some (.bool (!(a == b))):=by
 show grd _ _=_
 unfold grd
 rw [if_pos ⟨rfl,rfl,Nat.zero_le _⟩]
 simp only [peq]
theorem ot (a b:Str):(a == b)=decide (a=b):=by
 by_cases h:a=b
 ·rw [h,decide_eq_true rfl]; exact beq_self_eq_true b
 ·rw [decide_eq_false h]; exact beq_eq_false_iff_ne.mpr h
theorem Ix (a b:Str):eqD (.str a) (.str b)=some (.bool (decide (a=b))):=by
 show grd _ _=_
 unfold grd
 rw [if_pos ⟨rfl,rfl,Nat.zero_le _⟩,← ot]
 simp only [peq]
theorem Hb (a b:Str):neD (.str a) (.str b)=some (.bool (!decide (a=b))):=by
 show grd _ _=_
 unfold grd
 rw [if_pos ⟨rfl,rfl,Nat.zero_le _⟩,← ot]
 simp only [peq]
theorem Iy:eqD (.list []) (.list [])=some (.bool true):=by
 show grd _ _=_
 unfold grd
 rw [if_pos ⟨rfl,rfl,by decide⟩]
 rfl
theorem Hc:neD (.list []) (.list [])=some (.bool false):=by
 show grd _ _=_
 unfold grd
 rw [if_pos ⟨rfl,rfl,by decide⟩]
 rfl
variable (en:En) (Qs:Fl→Prop) (Qe:D × En→Prop) (Qb:Bool × En→Prop) (Qa:List (D ⊕ Nat) × En→Prop) (Ql:List D × En→Prop) (Qd:D→Prop) (Qt:List D→Prop) (Qn:En→Prop) (f:ME) (g:MG) (fa:MA) (c:MT) (ts:List D) (i:Nat)
theorem ws0 (α:Type) (a:α) (Q:α→Prop):W (some a) Q=Q a:=aM _ _
theorem ws1 (α:Type) (Q:α→Prop):W (none:Option α) Q=False:=bQ _
theorem ws2 (α:Type) (c:Prop) (_:Decidable c) (a:α) (Q:α→Prop):W (grd c a) Q=(c∧Q a):=ko c a Q
theorem ws3 (a:Option D) (l:En):gv (a :: l) 0=a:=rfl
theorem ws4 (a:Option D) (l:En):gv (a :: l) (i+1)=gv l i:=rfl
theorem ws5 (a b:Option D) (l:En):List.set (a :: l) 0 b=b :: l:=rfl
theorem ws6 (a b:Option D) (l:En):List.set (a :: l) (i+1) b=a :: List.set l i b:=rfl
theorem ws7 (a b:MS):W (au a b en) Qs=W (a en) (qU b Qs):=aK _ _ _
theorem ws8 (b:MS):qU b Qs (.nx en)=W (b en) Qs:=rfl
theorem ws9 (b:MS) (t:D):qU b Qs (.rt t en)=Qs (.rt t en):=aM _ _
theorem Gn (b:MS):qU b Qs (.ct en)=Qs (.ct en):=aM _ _
theorem Gm:W (aC i f en) Qs=W (f en) (Ht i Qs):=cj _ _ _
theorem Gk (t:D):Ht i Qs (t,en)=Qs (.nx (en.set i (some t))):=rfl
theorem Gj:W (dF f en) Qs=W (f en) (Hz Qs):=cj _ _ _
theorem Gi (t:D):Hz Qs (t,en)=Qs (.nx en):=rfl
theorem Gh:W (aQ f en) Qs=W (f en) (Hu Qs):=cj _ _ _
theorem Gg (t:D):Hu Qs (t,en)=Qs (.rt t en):=rfl
theorem Gf:W (br en) Qs=Qs (.nx en):=aM _ _
theorem Ge:W (iS en) Qs=False:=bQ _
theorem Gd (a b:MS):W (sIf c a b en) Qs=W (c en) (kIf a b Qs):=aK _ _ _
theorem Gc (β:Type) (a b:En→Option β) (Q:β→Prop):kIf a b Q (true,en)=W (a en) Q:=rfl
theorem Gb (β:Type) (a b:En→Option β) (Q:β→Prop):kIf a b Q (false,en)=W (b en) Q:=rfl
theorem Ga (fi:MI) (b:MS):W (eP fi g b en) Qs=W (fi en) (Hy g b Qs):=aK _ _ _
theorem F9 (b:MS):Hy g b Qs (ts,en)=W (eh g b ts en) Qs:=rfl
theorem F8 (b:MS):W (eh g b [] en) Qs=Qs (.nx en):=aM _ _
theorem F7 (b:MS) (t:D):W (eh g b (t :: ts) en) Qs=W (g t en) (CV g b ts Qs):=(aK _ _ _).trans (congrArg _ (funext fun z=>aK _ _ _))
theorem FZ (b:MS):CV g b ts Qs en=W (b en) (nE g b ts Qs):=rfl
theorem FY (b:MS):nE g b ts Qs (.nx en)=W (eh g b ts en) Qs:=rfl
theorem FX (b:MS):nE g b ts Qs (.ct en)=W (eh g b ts en) Qs:=rfl
theorem FW (b:MS) (t:D):nE g b ts Qs (.rt t en)=Qs (.rt t en):=aM _ _
theorem FV (t:D):W (gN i t en) Qn=Qn (en.set i (some t)):=aM _ _
theorem FU (fk fe:ME):W (gx i fk fe en) Qs=W (fe en) (tO i fk Qs):=aK _ _ _
theorem FT (fk:ME) (t:D):tO i fk Qs (t,en)=W (gv en i) (uZ i t fk en Qs):=by unfold tO gv; cases h:(en[i]?).join with | none=>simp only [h,bQ] | some x=>simp only [h,aM]; exact aK _ _ _
theorem FS (t:D) (fk:ME) (x:D):uZ i t fk en Qs x=W (fk en) (nC i t Qs):=rfl
theorem FR (t:D) (n:Int):nC i t Qs (.int n,en)=W (gv en i) (qT i t n en Qs):=by unfold nC gv; cases h:(en[i]?).join with | none=>simp only [h,bQ] | some x=>simp only [h,aM]; cases x <;> first | rfl | exact (aM _ _).symm | (rw [aM]; rfl) | (rw [aM]; exact bQ _)
theorem FQ (t:D) (n:Int):qT i t n en Qs (.list ts)=W (iR ts n t) (wG i en Qs):=by unfold qT iR wG; dsimp only; rw [cj,cj]
theorem FP:wG i en Qs ts=Qs (.nx (en.set i (some (.list ts)))):=rfl
theorem FO (x0 t:D) (l:List D):iR (x0 :: l) 0 t=some (t :: l):=gb 0 (by simp only [List.length_cons]; omega)
theorem FN (x0 x1 t:D) (l:List D):iR (x0 :: x1 :: l) 1 t=some (x0 :: t :: l):=gb 1 (by simp only [List.length_cons]; omega)
theorem FM (x0 x1 x2 t:D) (l:List D):iR (x0 :: x1 :: x2 :: l) 2 t=some (x0 :: x1 :: t :: l):=gb 2 (by simp only [List.length_cons]; omega)
theorem FK (x0 x1 x2 x3 t:D) (l:List D):iR (x0 :: x1 :: x2 :: x3 :: l) 3 t=some (x0 :: x1 :: x2 :: t :: l):=gb 3 (by simp only [List.length_cons]; omega)
theorem FJ (x0 x1 x2 x3 x4 t:D) (l:List D):iR (x0 :: x1 :: x2 :: x3 :: x4 :: l) 4 t=some (x0 :: x1 :: x2 :: x3 :: t :: l):=gb 4 (by simp only [List.length_cons]; omega)
theorem FI (x0 x1 x2 x3 x4 x5 t:D) (l:List D):iR (x0 :: x1 :: x2 :: x3 :: x4 :: x5 :: l) 5 t=some (x0 :: x1 :: x2 :: x3 :: x4 :: t :: l):=gb 5 (by simp only [List.length_cons]; omega)
theorem FH:W (ah i en) Qe=W (gv en i) (gO en Qe):=cj _ _ _
theorem FG (t:D):gO en Qe t=Qe (t,en):=rfl
theorem FF (t:D):W (eC t en) Qe=Qe (t,en):=aM _ _
theorem FE (g:D→Option D):W (e1 g f en) Qe=W (f en) (k1 g Qe):=(aK _ _ _).trans (congrArg _ (funext fun z=>cj _ _ _))
theorem FD (g:D→Option D) (t:D):k1 g Qe (t,en)=W (g t) (gO en Qe):=rfl
theorem FC (g:D→D→Option D) (f1 f2:ME):W (e2 g f1 f2 en) Qe=W (f1 en) (k2 g f2 Qe):=(aK _ _ _).trans (congrArg _ (funext fun z=>(aK _ _ _).trans (congrArg _ (funext fun y=>cj _ _ _))))
theorem FB (g:D→D→Option D) (f2:ME) (t:D):k2 g f2 Qe (t,en)=W (f2 en) (k2b g t Qe):=rfl
theorem FA (g:D→D→Option D) (t u:D):k2b g t Qe (u,en)=W (g t u) (gO en Qe):=rfl
theorem Fy (f g:ME):W (ki f g en) Qe=W (f en) (wK g Qe):=aK _ _ _
theorem Fx (g:ME):wK g Qe (.bool true,en)=W (g en) Qe:=rfl
theorem Fw (g:ME):wK g Qe (.bool false,en)=Qe (.bool false,en):=aM _ _
theorem Fv:W (tV f en) Qb=W (f en) (kTV Qb):=aK _ _ _
theorem Fu (x:Bool):kTV Qb (.bool x,en)=Qb (x,en):=aM _ _
theorem Ft (f g:MT):W (iw f g en) Qb=W (f en) (tW g Qb):=aK _ _ _
theorem Fs (g:MT):tW g Qb (true,en)=W (g en) Qb:=rfl
theorem Fq (g:MT):tW g Qb (false,en)=Qb (false,en):=aM _ _
theorem Fp (f g:MT):W (bOr f g en) Qb=W (f en) (wJ g Qb):=aK _ _ _
theorem Fo (g:MT):wJ g Qb (true,en)=Qb (true,en):=aM _ _
theorem Fm (g:MT):wJ g Qb (false,en)=W (g en) Qb:=rfl
theorem Fk (f:MT):W (eQ f en) Qb=W (f en) (CY Qb):=cj _ _ _
theorem Fj (x:Bool):CY Qb (x,en)=Qb (!x,en):=rfl
theorem Fi:W (cY en) Qb=Qb (true,en):=aM _ _
theorem Fh:W (ak en) Qa=Qa ([],en):=aM _ _
theorem Fg (r:MA):W (ad f r en) Qa=W (f en) (kAC r Qa):=(aK _ _ _).trans (congrArg _ (funext fun z=>cj _ _ _))
theorem Fe (r:MA) (t:D):kAC r Qa (t,en)=W (r en) (wM t Qa):=rfl
theorem Fd (t:D) (as:List (D ⊕ Nat)):wM t Qa (as,en)=Qa (.inl t :: as,en):=rfl
theorem Fc (r:MA):W (bf i r en) Qa=W (gv en i) (kAS i r en Qa):=(aK _ _ _).trans (congrArg _ (funext fun z=>cj _ _ _))
theorem Fb (r:MA) (t:D):kAS i r en Qa t=W (r en) (wL i Qa):=rfl
theorem E9 (as:List (D ⊕ Nat)):wL i Qa (as,en)=Qa (.inr i :: as,en):=rfl
theorem E8:ck []=some []:=rfl
theorem E7 (t:D) (r:List (D ⊕ Nat)):W (ck (.inl t :: r)) Qt=W (ck r) (nF t Qt):=cj _ _ _
theorem E6 (t:D):nF t Qt ts=Qt (t :: ts):=rfl
theorem E5:dO [] en=some []:=rfl
theorem E4 (t:D) (r:List (D ⊕ Nat)):W (dO (.inl t :: r) en) Qt=W (dO r en) (nF t Qt):=cj _ _ _
theorem E3 (r:List (D ⊕ Nat)):W (dO (.inr i :: r) en) Qt=W (gv en i) (HA r en Qt):=(aK _ _ _).trans (congrArg _ (funext fun z=>cj _ _ _))
theorem E2 (t:D) (r:List (D ⊕ Nat)):HA r en Qt t=W (dO r en) (nF t Qt):=rfl
theorem EZ (r:List (D ⊕ Nat)) (o:Option D) (outs:En):wb (.inr i :: r) (o :: outs) en=wb r outs (en.set i o):=rfl
theorem EY (t:D) (r:List (D ⊕ Nat)) (o:Option D) (outs:En):wb (.inl t :: r) (o :: outs) en=wb r outs en:=rfl
theorem EX (outs:En):wb [] outs en=en:=rfl
theorem EW (g:List D→Option D):W (eN g fa en) Qe=W (fa en) (kN g Qe):=(aK _ _ _).trans (congrArg _ (funext fun z=>(aK _ _ _).trans (congrArg _ (funext fun y=>cj _ _ _))))
theorem EV (g:List D→Option D) (as:List (D ⊕ Nat)):kN g Qe (as,en)=W (ck as) (kN2 g en Qe):=rfl
theorem EU (g:List D→Option D):kN2 g en Qe ts=W (g ts) (gO en Qe):=rfl
theorem ET:W (bO fa en) Qe=W (fa en) (Hw Qe):=(aK _ _ _).trans (congrArg _ (funext fun z=>aK _ _ _))
theorem ES (as:List (D ⊕ Nat)):Hw Qe (as,en)=W (ck as) (tR en Qe):=rfl
theorem ER:tR en Qe ts=(ts.length≤sizeLine∧Qe (.list ts,en)):=i8 _ _ _
theorem EQ:W (bw fa en) Qe=W (fa en) (Hs Qe):=(aK _ _ _).trans (congrArg _ (funext fun z=>aK _ _ _))
theorem EO (as:List (D ⊕ Nat)):Hs Qe (as,en)=W (ck as) (tN en Qe):=rfl
theorem EN:tN en Qe ts=(ts.length≤sizeLine∧Qe (.tuple ts,en)):=i8 _ _ _
theorem EM:(([]:List D).length≤sizeLine)=True:=eq_true (Nat.le_trans (by show 0≤100; decide) cD)
theorem EL (x0:D):(([x0]:List D).length≤sizeLine)=True:=eq_true (Nat.le_trans (by show 1≤100; decide) cD)
theorem EK (x0 x1:D):(([x0,x1]:List D).length≤sizeLine)=True:=eq_true (Nat.le_trans (by show 2≤100; decide) cD)
theorem EJ (x0 x1 x2:D):(([x0,x1,x2]:List D).length≤sizeLine)=True:=eq_true (Nat.le_trans (by show 3≤100; decide) cD)
theorem EH (x0 x1 x2 x3:D):(([x0,x1,x2,x3]:List D).length≤sizeLine)=True:=eq_true (Nat.le_trans (by show 4≤100; decide) cD)
theorem EG (x0 x1 x2 x3 x4:D):(([x0,x1,x2,x3,x4]:List D).length≤sizeLine)=True:=eq_true (Nat.le_trans (by show 5≤100; decide) cD)
theorem EF (x0 x1 x2 x3 x4 x5:D):(([x0,x1,x2,x3,x4,x5]:List D).length≤sizeLine)=True:=eq_true (Nat.le_trans (by show 6≤100; decide) cD)
theorem EE (x0 x1 x2 x3 x4 x5 x6:D):(([x0,x1,x2,x3,x4,x5,x6]:List D).length≤sizeLine)=True:=eq_true (Nat.le_trans (by show 7≤100; decide) cD)
theorem ED (x0 x1 x2 x3 x4 x5 x6 x7:D):(([x0,x1,x2,x3,x4,x5,x6,x7]:List D).length≤sizeLine)=True:=eq_true (Nat.le_trans (by show 8≤100; decide) cD)
theorem Cz (x0 x1 x2 x3 x4 x5 x6 x7 x8:D):(([x0,x1,x2,x3,x4,x5,x6,x7,x8]:List D).length≤sizeLine)=True:=eq_true (Nat.le_trans (by show 9≤100; decide) cD)
theorem Cy (x0 x1 x2 x3 x4 x5 x6 x7 x8 x9:D):(([x0,x1,x2,x3,x4,x5,x6,x7,x8,x9]:List D).length≤sizeLine)=True:=eq_true (Nat.le_trans (by show 10≤100; decide) cD)
theorem Cw (F:List D→Option (D × En)):W (ay F fa en) Qe=W (fa en) (CW F Qe):=(aK _ _ _).trans (congrArg _ (funext fun z=>(aK _ _ _).trans (congrArg _ (funext fun y=>cj _ _ _))))
theorem Cv (F:List D→Option (D × En)) (as:List (D ⊕ Nat)):CW F Qe (as,en)=W (dO as en) (qW F as en Qe):=rfl
theorem Cu (F:List D→Option (D × En)) (as:List (D ⊕ Nat)):qW F as en Qe ts=W (F ts) (qV as en Qe):=rfl
theorem Ct (as:List (D ⊕ Nat)) (t:D) (outs:En):qV as en Qe (t,outs)=Qe (t,wb as outs en):=rfl
theorem Cs (q:Bool) (fi:MI) (js:List (Option Nat)):W (eLC q fi g c f js en) Qe=W (fi en) (kLC q g c f js Qe):=(aK _ _ _).trans (congrArg _ (funext fun z=>cj _ _ _))
theorem Cr (q:Bool) (js:List (Option Nat)):kLC q g c f js Qe (ts,en)=W (lcF g c f ts [] (eU js en)) (tT q js en Qe):=rfl
theorem Cq (js:List (Option Nat)) (us:List D) (ex:En):tT true js en Qe (us,ex)=Qe (.list us,en):=rfl
theorem Cp (js:List (Option Nat)) (us:List D) (ex:En):tT false js en Qe (us,ex)=Qe (.list us,wbB js ex en):=rfl
theorem Co:eU [] en=[]:=rfl
theorem Cn (j:Nat) (js:List (Option Nat)):eU (some j :: js) en=gv en j :: eU js en:=rfl
theorem Cm (js:List (Option Nat)):eU (none :: js) en=none :: eU js en:=rfl
theorem Cl (j:Nat) (js:List (Option Nat)) (o:Option D) (ex:En):wbB (some j :: js) (o :: ex) en=wbB js ex (en.set j o):=rfl
theorem Ck (js:List (Option Nat)) (o:Option D) (ex:En):wbB (none :: js) (o :: ex) en=wbB js ex en:=rfl
theorem Cj (ex:En):wbB [] ex en=en:=rfl
theorem Ci:W (lcF g c f [] acc en) Ql=Ql (acc,en):=aM _ _
theorem Ch:W (cQ f en) Ql=W (f en) (tZ Ql):=aK _ _ _
theorem Cg:tZ Ql (.list ts,en)=Ql (ts,en):=aM _ _
theorem Cf:tZ Ql (.tuple ts,en)=Ql (ts,en):=aM _ _
theorem Ce (z:Str):tZ Ql (.str z,en)=Ql (bz z,en):=aM _ _
theorem Cd:W (eF fa en) Ql=W (fa en) (kR1 Ql):=aK _ _ _
theorem Cc (j:Int):kR1 Ql ([.inl (.int j)],en)=((-(2 ^ 62)≤j∧j < 2 ^ 62)∧Ql (kW 0 j.toNat,en)):=i8 _ _ _
theorem Cb:W (dN i f en) Qe=W (gv en i) (CT i f en Qe):=(aK _ _ _).trans (congrArg _ (funext fun z=>aK _ _ _))
theorem Ca (x:D):CT i f en Qe x=W (f en) (nB i Qe):=rfl
theorem B9 (n:Int):nB i Qe (.int n,en)=W (gv en i) (uW n en Qe):=by unfold nB gv; cases h:(en[i]?).join with | none=>simp only [h,bQ] | some x=>simp only [h,aM]; cases x <;> first | rfl | exact (aM _ _).symm | (rw [aM]; rfl) | (rw [aM]; exact bQ _)
theorem B8 (n:Int):uW n en Qe (.list ts)=W (atI ts n) (gO en Qe):=cj _ _ _
theorem B7:W (gg i f en) Qe=W (gv en i) (HB i f en Qe):=by unfold gv gg; cases (en[i]?).join with | none=>rw [bQ,bQ] | some x=>cases x <;> first | rfl | exact (aM _ _).symm | (rw [aM]; rfl) | (rw [aM]; exact bQ _)
theorem B6:HB i f en Qe (.list ts)=W (f en) (tY i Qe):=aK _ _ _
theorem B5 (t:D):tY i Qe (t,en)=W (gv en i) (CZ i t en Qe):=by unfold tY gv; cases h:(en[i]?).join with | none=>simp only [h,bQ] | some x=>simp only [h,aM]; cases x <;> first | rfl | exact (aM _ _).symm | (rw [aM]; rfl) | (rw [aM]; exact bQ _)
theorem B4 (t:D):CZ i t en Qe (.list ts)=(ts.length < sizeLine∧Qe (.none,en.set i (some (.list (ts++[t]))))):=i8 _ _ _
theorem B3 (g g2:D→D→Option D) (f1 f2 f3:ME):W (fV g g2 f1 f2 f3 en) Qe=W (f1 en) (kCh g g2 f2 f3 Qe):=(aK _ _ _).trans (congrArg _ (funext fun z=>(aK _ _ _).trans (congrArg _ (funext fun y=>aK _ _ _))))
theorem B2 (g g2:D→D→Option D) (f2 f3:ME) (t:D):kCh g g2 f2 f3 Qe (t,en)=W (f2 en) (wI g g2 f3 t Qe):=rfl
theorem B1 (g g2:D→D→Option D) (f3:ME) (t u:D):wI g g2 f3 t Qe (u,en)=W (g t u) (tU g2 u f3 en Qe):=rfl
theorem B0 (g:D→D→Option D) (u:D) (f3:ME):tU g u f3 en Qe (.bool true)=W (f3 en) (k2b g u Qe):=(aK _ _ _).trans (congrArg _ (funext fun z=>cj _ _ _))
theorem BZ (g:D→D→Option D) (u:D) (f3:ME):tU g u f3 en Qe (.bool false)=Qe (.bool false,en):=aM _ _
theorem BY (Q:Option Int × En→Prop):W (cq en) Q=Q (none,en):=aM _ _
theorem BX (Q:Option Int × En→Prop):W (bW f en) Q=W (f en) (kOS Q):=aK _ _ _
theorem BW (n:Int) (Q:Option Int × En→Prop):kOS Q (.int n,en)=Q (some n,en):=aM _ _
theorem BV (g:D→Option Int→Option Int→Option D) (lo hi:MO):W (eSl g f lo hi en) Qe=W (f en) (kSl g lo hi Qe):=(aK _ _ _).trans (congrArg _ (funext fun z=>(aK _ _ _).trans (congrArg _ (funext fun y=>(aK _ _ _).trans (congrArg _ (funext fun y=>cj _ _ _))))))
theorem BU (g:D→Option Int→Option Int→Option D) (lo hi:MO) (t:D):kSl g lo hi Qe (t,en)=W (lo en) (wF g t hi Qe):=rfl
theorem BT (g:D→Option Int→Option Int→Option D) (hi:MO) (t:D) (a:Option Int):wF g t hi Qe (a,en)=W (hi en) (wE g t a Qe):=rfl
theorem BS (g:D→Option Int→Option Int→Option D) (t:D) (a b:Option Int):wE g t a Qe (b,en)=W (g t a b) (gO en Qe):=rfl
theorem BR (g:Str→List D→Option D):W (eM g f fa en) Qe=W (f en) (kM g fa Qe):=aK _ _ _
theorem BQ (g:Str→List D→Option D) (z:Str):kM g fa Qe (.str z,en)=W (fa en) (kM1 g z Qe):=(aK _ _ _).trans (congrArg _ (funext fun z=>(aK _ _ _).trans (congrArg _ (funext fun y=>cj _ _ _))))
theorem BP (g:Str→List D→Option D) (z:Str) (as:List (D ⊕ Nat)):kM1 g z Qe (as,en)=W (ck as) (kM2 g z en Qe):=rfl
theorem BO (g:Str→List D→Option D) (z:Str):kM2 g z en Qe ts=W (g z ts) (gO en Qe):=rfl
theorem BN (J:En→Prop):kIt J Qs (.nx en)=J en:=rfl
theorem BM (J:En→Prop):kIt J Qs (.ct en)=J en:=rfl
theorem BL (J:En→Prop) (t:D):kIt J Qs (.rt t en)=Qs (.rt t en):=rfl
theorem BK (b:MS) (J:En→Prop):kFg b J Qs en=W (b en) (kIt J Qs):=rfl
theorem BJ (b:MS) (J:En→Prop):kWh b J Qs (true,en)=W (b en) (kIt J Qs):=rfl
theorem BI (b:MS) (J:En→Prop):kWh b J Qs (false,en)=Qs (.nx en):=rfl
theorem BH (us:List D) (J:List D→En→Prop):Hx c f us J en=W (c en) (tS f us J):=rfl
theorem BG (us:List D) (J:List D→En→Prop):tS f us J (true,en)=W (f en) (wH us J):=rfl
theorem BF (us:List D) (J:List D→En→Prop):tS f us J (false,en)=J us en:=rfl
theorem BE (us:List D) (J:List D→En→Prop) (t:D):wH us J (t,en)=J (us++[t]) en:=rfl
theorem BD (n:Nat) (dps:List Nat) (b:MS):W (fnF n dps b ts) Qe=W (b (ts.map some++List.replicate n none)) (kFn dps Qe):=aK _ _ _
theorem BC (dps:List Nat) (t:D):kFn dps Qe (.rt t en)=Qe (t,msk dps en):=aM _ _
theorem BB (dps:List Nat):kFn dps Qe (.nx en)=Qe (.none,msk dps en):=aM _ _
theorem BA (d:Nat) (ds:List Nat) (o:Option D):msk ((d+1) :: ds) (o :: en)=o :: msk ds en:=rfl
theorem Bz (ds:List Nat) (o:Option D):msk (0 :: ds) (o :: en)=none :: msk ds en:=rfl
theorem By:msk [] en=[]:=rfl
theorem Bx (t:D):List.map some (t :: ts)=some t :: List.map some ts:=rfl
theorem Bw:List.map (some:D→Option D) []=[]:=rfl
theorem Bv (a:Option D) (l m:En):(a :: l)++m=a :: (l++m):=rfl
theorem Bu (m:En):([]:En)++m=m:=rfl
theorem Bt (a:Option D):List.replicate 0 a=[]:=rfl
theorem Bs (a:Option D) (n:Nat):List.replicate (n+1) a=a :: List.replicate n a:=rfl
theorem Br (a b:Int):bg (.int a) (.int b)=some (.int (a+b)):=rfl
theorem Bq (a b:Str):W (bg (.str a) (.str b)) Qd=(a.length+b.length≤sizeLine∧Qd (.str (a++b))):=i8 _ _ _
theorem Bp (a b:Int):io (.int a) (.int b)=some (.int (a - b)):=rfl
theorem Bo (a b:Int):W (cr (.int a) (.int b)) Qd=(CMul a b∧Qd (.int (a * b))):=i8 _ _ _
theorem Bn (a b:Int):W (gA (.int a) (.int b)) Qd=(jb a b∧Qd (.int (a / b))):=i8 _ _ _
theorem Bm (a b:Int):W (cB (.int a) (.int b)) Qd=(0 < b∧Qd (.int (a % b))):=i8 _ _ _
theorem Bk (a b:Int):W (mC (.int a) (.int b)) Qd=(iy a b∧Qd (.int (a ^ b.toNat))):=i8 _ _ _
theorem Bj (a b:Int):ltI (.int a) (.int b)=some (.bool (decide (a < b))):=rfl
theorem Bi (a b:Int):leI (.int a) (.int b)=some (.bool (decide (a≤b))):=rfl
theorem Bh (a b:Int):gtI (.int a) (.int b)=some (.bool (decide (b < a))):=rfl
theorem Bg (a b:Int):geI (.int a) (.int b)=some (.bool (decide (b≤a))):=rfl
theorem Bf (a b:Int):eqD (.int a) (.int b)=some (.bool (decide (a=b))):=(Iz a b).trans (congrArg (fun q=>some (PyData.bool q)) (sN a b))
theorem Be (a b:Int):neD (.int a) (.int b)=some (.bool (!decide (a=b))):=(Hd a b).trans (congrArg (fun q=>some (PyData.bool (!q))) (sN a b))
theorem Bd:isN .none .none=some (.bool true):=rfl
theorem Bc:iU .none .none=some (.bool false):=rfl
theorem Bb (x:Int):isN (.int x) .none=some (.bool false):=rfl
theorem Ba (x:Int):iU (.int x) .none=some (.bool true):=rfl
theorem A9 (x:Bool):isN (.bool x) .none=some (.bool false):=rfl
theorem A8 (x:Bool):iU (.bool x) .none=some (.bool true):=rfl
theorem A7 (x:Str):isN (.str x) .none=some (.bool false):=rfl
theorem A6 (x:Str):iU (.str x) .none=some (.bool true):=rfl
theorem A5 (x:List D):isN (.list x) .none=some (.bool false):=rfl
theorem A4 (x:List D):iU (.list x) .none=some (.bool true):=rfl
theorem A3 (x:List D):isN (.tuple x) .none=some (.bool false):=rfl
theorem A2 (x:List D):iU (.tuple x) .none=some (.bool true):=rfl
theorem A1 (x:List (D × D)):isN (.dict x) .none=some (.bool false):=rfl
theorem A0 (x:List (D × D)):iU (.dict x) .none=some (.bool true):=rfl
theorem AZ:aN "int" (.none)=some (.bool false):=(if_neg (fun z=>nomatch z)).trans (congrArg (fun b=>some (PyData.bool b)) (show aX "NoneType" "int"=false by decide))
theorem AY:aN "bool" (.none)=some (.bool false):=(if_neg (fun z=>nomatch z)).trans (congrArg (fun b=>some (PyData.bool b)) (show aX "NoneType" "bool"=false by decide))
theorem AX:aN "str" (.none)=some (.bool false):=(if_neg (fun z=>nomatch z)).trans (congrArg (fun b=>some (PyData.bool b)) (show aX "NoneType" "str"=false by decide))
theorem AW:aN "list" (.none)=some (.bool false):=(if_neg (fun z=>nomatch z)).trans (congrArg (fun b=>some (PyData.bool b)) (show aX "NoneType" "list"=false by decide))
theorem AV:aN "tuple" (.none)=some (.bool false):=(if_neg (fun z=>nomatch z)).trans (congrArg (fun b=>some (PyData.bool b)) (show aX "NoneType" "tuple"=false by decide))
theorem AU:aN "dict" (.none)=some (.bool false):=(if_neg (fun z=>nomatch z)).trans (congrArg (fun b=>some (PyData.bool b)) (show aX "NoneType" "dict"=false by decide))
theorem AT (x:Int):aN "int" (.int x)=some (.bool true):=(if_neg (fun z=>nomatch z)).trans (congrArg (fun b=>some (PyData.bool b)) (show aX "int" "int"=true by decide))
theorem AR (x:Int):aN "bool" (.int x)=some (.bool false):=(if_neg (fun z=>nomatch z)).trans (congrArg (fun b=>some (PyData.bool b)) (show aX "int" "bool"=false by decide))
theorem AQ (x:Int):aN "str" (.int x)=some (.bool false):=(if_neg (fun z=>nomatch z)).trans (congrArg (fun b=>some (PyData.bool b)) (show aX "int" "str"=false by decide))
theorem AO (x:Int):aN "list" (.int x)=some (.bool false):=(if_neg (fun z=>nomatch z)).trans (congrArg (fun b=>some (PyData.bool b)) (show aX "int" "list"=false by decide))
theorem AN (x:Int):aN "tuple" (.int x)=some (.bool false):=(if_neg (fun z=>nomatch z)).trans (congrArg (fun b=>some (PyData.bool b)) (show aX "int" "tuple"=false by decide))
theorem AM (x:Int):aN "dict" (.int x)=some (.bool false):=(if_neg (fun z=>nomatch z)).trans (congrArg (fun b=>some (PyData.bool b)) (show aX "int" "dict"=false by decide))
theorem AL (x:Bool):aN "int" (.bool x)=some (.bool true):=(if_neg (fun z=>nomatch z)).trans (congrArg (fun b=>some (PyData.bool b)) (show aX "bool" "int"=true by decide))
theorem AK (x:Bool):aN "bool" (.bool x)=some (.bool true):=(if_neg (fun z=>nomatch z)).trans (congrArg (fun b=>some (PyData.bool b)) (show aX "bool" "bool"=true by decide))
theorem AJ (x:Bool):aN "str" (.bool x)=some (.bool false):=(if_neg (fun z=>nomatch z)).trans (congrArg (fun b=>some (PyData.bool b)) (show aX "bool" "str"=false by decide))
theorem AI (x:Bool):aN "list" (.bool x)=some (.bool false):=(if_neg (fun z=>nomatch z)).trans (congrArg (fun b=>some (PyData.bool b)) (show aX "bool" "list"=false by decide))
theorem AH (x:Bool):aN "tuple" (.bool x)=some (.bool false):=(if_neg (fun z=>nomatch z)).trans (congrArg (fun b=>some (PyData.bool b)) (show aX "bool" "tuple"=false by decide))
theorem AG (x:Bool):aN "dict" (.bool x)=some (.bool false):=(if_neg (fun z=>nomatch z)).trans (congrArg (fun b=>some (PyData.bool b)) (show aX "bool" "dict"=false by decide))
theorem AF (x:Str):aN "int" (.str x)=some (.bool false):=(if_neg (fun z=>nomatch z)).trans (congrArg (fun b=>some (PyData.bool b)) (show aX "str" "int"=false by decide))
theorem AE (x:Str):aN "bool" (.str x)=some (.bool false):=(if_neg (fun z=>nomatch z)).trans (congrArg (fun b=>some (PyData.bool b)) (show aX "str" "bool"=false by decide))
theorem AD (x:Str):aN "str" (.str x)=some (.bool true):=(if_neg (fun z=>nomatch z)).trans (congrArg (fun b=>some (PyData.bool b)) (show aX "str" "str"=true by decide))
theorem AC (x:Str):aN "list" (.str x)=some (.bool false):=(if_neg (fun z=>nomatch z)).trans (congrArg (fun b=>some (PyData.bool b)) (show aX "str" "list"=false by decide))
theorem AB (x:Str):aN "tuple" (.str x)=some (.bool false):=(if_neg (fun z=>nomatch z)).trans (congrArg (fun b=>some (PyData.bool b)) (show aX "str" "tuple"=false by decide))
theorem AA (x:Str):aN "dict" (.str x)=some (.bool false):=(if_neg (fun z=>nomatch z)).trans (congrArg (fun b=>some (PyData.bool b)) (show aX "str" "dict"=false by decide))
theorem Az (x:List D):aN "int" (.list x)=some (.bool false):=(if_neg (fun z=>nomatch z)).trans (congrArg (fun b=>some (PyData.bool b)) (show aX "list" "int"=false by decide))
theorem Ay (x:List D):aN "bool" (.list x)=some (.bool false):=(if_neg (fun z=>nomatch z)).trans (congrArg (fun b=>some (PyData.bool b)) (show aX "list" "bool"=false by decide))
theorem Ax (x:List D):aN "str" (.list x)=some (.bool false):=(if_neg (fun z=>nomatch z)).trans (congrArg (fun b=>some (PyData.bool b)) (show aX "list" "str"=false by decide))
theorem Aw (x:List D):aN "list" (.list x)=some (.bool true):=(if_neg (fun z=>nomatch z)).trans (congrArg (fun b=>some (PyData.bool b)) (show aX "list" "list"=true by decide))
theorem Av (x:List D):aN "tuple" (.list x)=some (.bool false):=(if_neg (fun z=>nomatch z)).trans (congrArg (fun b=>some (PyData.bool b)) (show aX "list" "tuple"=false by decide))
theorem Au (x:List D):aN "dict" (.list x)=some (.bool false):=(if_neg (fun z=>nomatch z)).trans (congrArg (fun b=>some (PyData.bool b)) (show aX "list" "dict"=false by decide))
theorem At (x:List D):aN "int" (.tuple x)=some (.bool false):=(if_neg (fun z=>nomatch z)).trans (congrArg (fun b=>some (PyData.bool b)) (show aX "tuple" "int"=false by decide))
theorem As (x:List D):aN "bool" (.tuple x)=some (.bool false):=(if_neg (fun z=>nomatch z)).trans (congrArg (fun b=>some (PyData.bool b)) (show aX "tuple" "bool"=false by decide))
theorem Ar (x:List D):aN "str" (.tuple x)=some (.bool false):=(if_neg (fun z=>nomatch z)).trans (congrArg (fun b=>some (PyData.bool b)) (show aX "tuple" "str"=false by decide))
theorem Aq (x:List D):aN "list" (.tuple x)=some (.bool false):=(if_neg (fun z=>nomatch z)).trans (congrArg (fun b=>some (PyData.bool b)) (show aX "tuple" "list"=false by decide))
theorem Ap (x:List D):aN "tuple" (.tuple x)=some (.bool true):=(if_neg (fun z=>nomatch z)).trans (congrArg (fun b=>some (PyData.bool b)) (show aX "tuple" "tuple"=true by decide))
theorem Ao (x:List D):aN "dict" (.tuple x)=some (.bool false):=(if_neg (fun z=>nomatch z)).trans (congrArg (fun b=>some (PyData.bool b)) (show aX "tuple" "dict"=false by decide))
theorem An:aN "int" (.dict [])=some (.bool false):=(if_neg (fun z=>nomatch z)).trans (congrArg (fun b=>some (PyData.bool b)) (show aX "dict" "int"=false by decide))
theorem Am (k:Str) (x:D) (r:List (D × D)):aN "int" (.dict ((.str k,x) :: r))=some (.bool false):=(if_neg (fun z=>nomatch z)).trans (congrArg (fun b=>some (PyData.bool b)) (show aX "dict" "int"=false by decide))
theorem Al (k:Int) (x:D) (r:List (D × D)):aN "int" (.dict ((.int k,x) :: r))=some (.bool false):=(if_neg (fun z=>nomatch z)).trans (congrArg (fun b=>some (PyData.bool b)) (show aX "dict" "int"=false by decide))
theorem Ak (k:List D) (x:D) (r:List (D × D)):aN "int" (.dict ((.tuple k,x) :: r))=some (.bool false):=(if_neg (fun z=>nomatch z)).trans (congrArg (fun b=>some (PyData.bool b)) (show aX "dict" "int"=false by decide))
theorem Aj:aN "bool" (.dict [])=some (.bool false):=(if_neg (fun z=>nomatch z)).trans (congrArg (fun b=>some (PyData.bool b)) (show aX "dict" "bool"=false by decide))
theorem Ai (k:Str) (x:D) (r:List (D × D)):aN "bool" (.dict ((.str k,x) :: r))=some (.bool false):=(if_neg (fun z=>nomatch z)).trans (congrArg (fun b=>some (PyData.bool b)) (show aX "dict" "bool"=false by decide))
theorem Ah (k:Int) (x:D) (r:List (D × D)):aN "bool" (.dict ((.int k,x) :: r))=some (.bool false):=(if_neg (fun z=>nomatch z)).trans (congrArg (fun b=>some (PyData.bool b)) (show aX "dict" "bool"=false by decide))
theorem Ag (k:List D) (x:D) (r:List (D × D)):aN "bool" (.dict ((.tuple k,x) :: r))=some (.bool false):=(if_neg (fun z=>nomatch z)).trans (congrArg (fun b=>some (PyData.bool b)) (show aX "dict" "bool"=false by decide))
theorem Af:aN "str" (.dict [])=some (.bool false):=(if_neg (fun z=>nomatch z)).trans (congrArg (fun b=>some (PyData.bool b)) (show aX "dict" "str"=false by decide))
theorem Ae (k:Str) (x:D) (r:List (D × D)):aN "str" (.dict ((.str k,x) :: r))=some (.bool false):=(if_neg (fun z=>nomatch z)).trans (congrArg (fun b=>some (PyData.bool b)) (show aX "dict" "str"=false by decide))
theorem Ad (k:Int) (x:D) (r:List (D × D)):aN "str" (.dict ((.int k,x) :: r))=some (.bool false):=(if_neg (fun z=>nomatch z)).trans (congrArg (fun b=>some (PyData.bool b)) (show aX "dict" "str"=false by decide))
theorem Ac (k:List D) (x:D) (r:List (D × D)):aN "str" (.dict ((.tuple k,x) :: r))=some (.bool false):=(if_neg (fun z=>nomatch z)).trans (congrArg (fun b=>some (PyData.bool b)) (show aX "dict" "str"=false by decide))
theorem Ab:aN "list" (.dict [])=some (.bool false):=(if_neg (fun z=>nomatch z)).trans (congrArg (fun b=>some (PyData.bool b)) (show aX "dict" "list"=false by decide))
theorem Aa (k:Str) (x:D) (r:List (D × D)):aN "list" (.dict ((.str k,x) :: r))=some (.bool false):=(if_neg (fun z=>nomatch z)).trans (congrArg (fun b=>some (PyData.bool b)) (show aX "dict" "list"=false by decide))
theorem zZ (k:Int) (x:D) (r:List (D × D)):aN "list" (.dict ((.int k,x) :: r))=some (.bool false):=(if_neg (fun z=>nomatch z)).trans (congrArg (fun b=>some (PyData.bool b)) (show aX "dict" "list"=false by decide))
theorem zY (k:List D) (x:D) (r:List (D × D)):aN "list" (.dict ((.tuple k,x) :: r))=some (.bool false):=(if_neg (fun z=>nomatch z)).trans (congrArg (fun b=>some (PyData.bool b)) (show aX "dict" "list"=false by decide))
theorem zX:aN "tuple" (.dict [])=some (.bool false):=(if_neg (fun z=>nomatch z)).trans (congrArg (fun b=>some (PyData.bool b)) (show aX "dict" "tuple"=false by decide))
theorem zW (k:Str) (x:D) (r:List (D × D)):aN "tuple" (.dict ((.str k,x) :: r))=some (.bool false):=(if_neg (fun z=>nomatch z)).trans (congrArg (fun b=>some (PyData.bool b)) (show aX "dict" "tuple"=false by decide))
theorem zV (k:Int) (x:D) (r:List (D × D)):aN "tuple" (.dict ((.int k,x) :: r))=some (.bool false):=(if_neg (fun z=>nomatch z)).trans (congrArg (fun b=>some (PyData.bool b)) (show aX "dict" "tuple"=false by decide))
theorem zU (k:List D) (x:D) (r:List (D × D)):aN "tuple" (.dict ((.tuple k,x) :: r))=some (.bool false):=(if_neg (fun z=>nomatch z)).trans (congrArg (fun b=>some (PyData.bool b)) (show aX "dict" "tuple"=false by decide))
theorem zT:aN "dict" (.dict [])=some (.bool true):=(if_neg (fun z=>nomatch z)).trans (congrArg (fun b=>some (PyData.bool b)) (show aX "dict" "dict"=true by decide))
theorem zS (k:Str) (x:D) (r:List (D × D)):aN "dict" (.dict ((.str k,x) :: r))=some (.bool true):=(if_neg (fun z=>nomatch z)).trans (congrArg (fun b=>some (PyData.bool b)) (show aX "dict" "dict"=true by decide))
theorem zR (k:Int) (x:D) (r:List (D × D)):aN "dict" (.dict ((.int k,x) :: r))=some (.bool true):=(if_neg (fun z=>nomatch z)).trans (congrArg (fun b=>some (PyData.bool b)) (show aX "dict" "dict"=true by decide))
theorem zQ (k:List D) (x:D) (r:List (D × D)):aN "dict" (.dict ((.tuple k,x) :: r))=some (.bool true):=(if_neg (fun z=>nomatch z)).trans (congrArg (fun b=>some (PyData.bool b)) (show aX "dict" "dict"=true by decide))
theorem zP:((([]:List D).length:Nat):Int)=0:=rfl
theorem zO (x0:D):((([x0]:List D).length:Nat):Int)=1:=rfl
theorem zN (x0 x1:D):((([x0,x1]:List D).length:Nat):Int)=2:=rfl
theorem zM (x0 x1 x2:D):((([x0,x1,x2]:List D).length:Nat):Int)=3:=rfl
theorem zL (x0 x1 x2 x3:D):((([x0,x1,x2,x3]:List D).length:Nat):Int)=4:=rfl
theorem zK (x0 x1 x2 x3 x4:D):((([x0,x1,x2,x3,x4]:List D).length:Nat):Int)=5:=rfl
theorem zJ (x0 x1 x2 x3 x4 x5:D):((([x0,x1,x2,x3,x4,x5]:List D).length:Nat):Int)=6:=rfl
theorem zI (x0 x1 x2 x3 x4 x5 x6:D):((([x0,x1,x2,x3,x4,x5,x6]:List D).length:Nat):Int)=7:=rfl
theorem zH (x0 x1 x2 x3 x4 x5 x6 x7:D):((([x0,x1,x2,x3,x4,x5,x6,x7]:List D).length:Nat):Int)=8:=rfl
theorem zG (x0 x1 x2 x3 x4 x5 x6 x7 x8:D):((([x0,x1,x2,x3,x4,x5,x6,x7,x8]:List D).length:Nat):Int)=9:=rfl
theorem zF (x0 x1 x2 x3 x4 x5 x6 x7 x8 x9:D):((([x0,x1,x2,x3,x4,x5,x6,x7,x8,x9]:List D).length:Nat):Int)=10:=rfl
theorem zE (α β:Type) (f:α→β) (l:List α):(l.map f).length=l.length:=List.length_map f
theorem zC:cu [.list ts]=some (.int ts.length):=rfl
theorem zB:cu [.tuple ts]=some (.int ts.length):=rfl
theorem zA (z:Str):W (cu [.str z]) Qd=(z.length≤sizeLine∧Qd (.int z.length)):=ko _ _ _
theorem zz (a:Int):uo [.int a]=some (.int (if a < 0 then -a else a)):=rfl
theorem zy (a:Int):oK [.int a]=some (.int a):=rfl
theorem zx:oK [.bool true]=some (.int 1):=rfl
theorem zw:oK [.bool false]=some (.int 0):=rfl
theorem zv (a:Int):oC (.int a)=some (.int (-a)):=rfl
theorem zu:lU [.list ts]=some (.list ts):=rfl
theorem zt:iP [.list ts]=some (.tuple ts):=rfl
theorem zr (n:Int):ixA (.list ts) (.int n)=atI ts n:=rfl
theorem zq:lU [.tuple ts]=some (.list ts):=rfl
theorem zp:iP [.tuple ts]=some (.tuple ts):=rfl
theorem zo (n:Int):ixA (.tuple ts) (.int n)=atI ts n:=rfl
theorem zn (ts us:List D):W (km (.list ts) (.list us)) Qd=(ts.length+us.length≤sizeLine∧Qd (.list (ts++us))):=i8 _ _ _
theorem zm (ts us:List D):W (gY (.tuple ts) (.tuple us)) Qd=(ts.length+us.length≤sizeLine∧Qd (.tuple (ts++us))):=i8 _ _ _
theorem zl:atI ts 0=ts[0]?:=bn ts _
theorem zh:atI ts 1=ts[1]?:=bn ts _
theorem zg:atI ts 2=ts[2]?:=bn ts _
theorem ze:atI ts 3=ts[3]?:=bn ts _
theorem zd:atI ts 4=ts[4]?:=bn ts _
theorem zc:atI ts 5=ts[5]?:=bn ts _
theorem zb:atI ts 6=ts[6]?:=bn ts _
theorem y9:atI ts 7=ts[7]?:=bn ts _
theorem y8:atI ts 8=ts[8]?:=bn ts _
theorem yZ:atI ts 9=ts[9]?:=bn ts _
theorem yY:atI ts 10=ts[10]?:=bn ts _
theorem yX:atI ts 11=ts[11]?:=bn ts _
theorem yW:atI ts 12=ts[12]?:=bn ts _
theorem yV:atI ts 13=ts[13]?:=bn ts _
theorem yU:atI ts 14=ts[14]?:=bn ts _
theorem yT:atI ts 15=ts[15]?:=bn ts _
theorem yS:atI ts 16=ts[16]?:=bn ts _
theorem yR:atI ts 17=ts[17]?:=bn ts _
theorem yQ:atI ts 18=ts[18]?:=bn ts _
theorem yP:atI ts 19=ts[19]?:=bn ts _
theorem yO:atI ts 20=ts[20]?:=bn ts _
theorem yN (t:D):(t :: ts)[0]?=some t:=rfl
theorem yM (t:D):(t :: ts)[i+1]?=ts[i]?:=List.getElem?_cons_succ
theorem yL:W (vD i f en) Qe=W (gv en i) (Hv i f en Qe):=by unfold gv vD; cases (en[i]?).join with | none=>rw [bQ,bQ] | some x=>cases x <;> first | rfl | exact (aM _ _).symm | (rw [aM]; rfl) | (rw [aM]; exact bQ _)
theorem yK:Hv i f en Qe (.list ts)=W (f en) (tQ i Qe):=aK _ _ _
theorem yJ (n:Int):tQ i Qe (.int n,en)=W (gv en i) (tP i n en Qe):=by unfold tQ gv; cases h:(en[i]?).join with | none=>simp only [h,bQ] | some x=>simp only [h,aM]; cases x <;> first | rfl | exact (aM _ _).symm | (rw [aM]; rfl) | (rw [aM]; exact bQ _)
theorem yI (n:Int):tP i n en Qe (.list ts)=((-(2 ^ 63)≤n∧n < 2 ^ 63)∧W (GU ts n) (CU i en Qe)):=by unfold tP GU; dsimp only; rw [up]; congr 1; rw [aK,aK]; congr 1; funext k; rw [cj,cj]; rfl
theorem yH (t:D) (us:List D):CU i en Qe (t,us)=Qe (t,en.set i (some (.list us))):=rfl
theorem yG (z:Str) (n:Int):W (ixT (.str z) (.int n)) Qd=(z.length≤sizeLine∧W (atI (li z) n) (kS1 Qd)):=by show W (if _ then _ else _) _=_; rw [up,cj]; rfl
theorem yF (c:Nat):kS1 Qd c=Qd (.str (mk1 c)):=rfl
theorem yE (z:Str) (lo hi:Option Int):W (gW (.str z) lo hi) Qd=(z.length≤sizeLine∧Qd (.str ⟨(db z.cps.toList lo hi).toArray⟩)):=ko _ _ _
theorem yD (lo hi:Option Int):W (iq (.tuple ts) lo hi) Qd=(¬ (HT.sIx ts.length 0 lo=0∧HT.sIx ts.length ts.length hi=ts.length)∧Qd (.tuple (dA ts lo hi))):=ko _ _ _
theorem yC (a b:Str):oA (.str a) (.str b)=some (.bool (!jL b a)):=rfl
theorem yB (z:Str):W (nz (.str z)) Qd=(z.length < 4000∧Qd (.int (cK (eT z) z.length).length)):=ko _ _ _
theorem yA:nh (.tuple ts) (.int (-1))=some (.tuple ts.reverse):=rfl
theorem yz (z:Str):W (lO (.str z) (.int (-1))) Qd=(z.length≤sizeLine∧Qd (.str ⟨z.cps.toList.reverse.toArray⟩)):=ko _ _ _
theorem yy (a b:Bool):eqD (.bool a) (.bool b)=some (.bool (a == b)):=Ei a b
theorem yx (a b:Bool):neD (.bool a) (.bool b)=some (.bool (!(a == b))):=Dx a b
theorem yw (a b:Str):eqD (.str a) (.str b)=some (.bool (decide (a=b))):=Ix a b
theorem yv (a b:Str):neD (.str a) (.str b)=some (.bool (!decide (a=b))):=Hb a b
theorem yu:neD (.list []) (.list [])=some (.bool false):=Hc
theorem yt:eqD (.list []) (.list [])=some (.bool true):=Iy
theorem yr (a:Bool):(a == a)=true:=beq_self_eq_true a
theorem yq:(true == false)=false:=rfl
theorem yo:(false == true)=false:=rfl
theorem yn (t:D) (ts acc:List D):W (lcF g c f (t :: ts) acc en) Ql=W (g t en) (kL1 g c f ts acc Ql):=by unfold lcF; rw [aK]; congr 1; funext z; rw [aK]; rfl
theorem ym (ts acc:List D):kL1 g c f ts acc Ql en=W (c en) (kL2 g c f ts acc Ql):=rfl
theorem yk (ts acc:List D):kL2 g c f ts acc Ql (true,en)=W (f en) (kL3 g c f ts acc Ql):=aK _ _ _
theorem yj (ts acc:List D):kL2 g c f ts acc Ql (false,en)=W (lcF g c f ts acc en) Ql:=rfl
theorem yi (ts acc:List D) (t:D):kL3 g c f ts acc Ql (t,en)=(acc.length < sizeLine∧W (lcF g c f ts (acc++[t]) en) Ql):=up _ _ _
theorem yh (m:List D):([]++m:List D)=m:=rfl
theorem yg (x:D) (l m:List D):((x :: l)++m:List D)=x :: (l++m):=rfl
theorem yf:(([]:List D).length < sizeLine)=True:=eq_true (Nat.lt_of_lt_of_le (by show 0 < 100; decide) cD)
theorem ye (x0:D):(([x0]:List D).length < sizeLine)=True:=eq_true (Nat.lt_of_lt_of_le (by show 1 < 100; decide) cD)
theorem yd (x0 x1:D):(([x0,x1]:List D).length < sizeLine)=True:=eq_true (Nat.lt_of_lt_of_le (by show 2 < 100; decide) cD)
theorem yc (x0 x1 x2:D):(([x0,x1,x2]:List D).length < sizeLine)=True:=eq_true (Nat.lt_of_lt_of_le (by show 3 < 100; decide) cD)
theorem yb (x0 x1 x2 x3:D):(([x0,x1,x2,x3]:List D).length < sizeLine)=True:=eq_true (Nat.lt_of_lt_of_le (by show 4 < 100; decide) cD)
theorem ya (x0 x1 x2 x3 x4:D):(([x0,x1,x2,x3,x4]:List D).length < sizeLine)=True:=eq_true (Nat.lt_of_lt_of_le (by show 5 < 100; decide) cD)
theorem xZ (x0 x1 x2 x3 x4 x5:D):(([x0,x1,x2,x3,x4,x5]:List D).length < sizeLine)=True:=eq_true (Nat.lt_of_lt_of_le (by show 6 < 100; decide) cD)
theorem xY (x0 x1 x2 x3 x4 x5 x6:D):(([x0,x1,x2,x3,x4,x5,x6]:List D).length < sizeLine)=True:=eq_true (Nat.lt_of_lt_of_le (by show 7 < 100; decide) cD)
theorem xX (x0 x1 x2 x3 x4 x5 x6 x7:D):(([x0,x1,x2,x3,x4,x5,x6,x7]:List D).length < sizeLine)=True:=eq_true (Nat.lt_of_lt_of_le (by show 8 < 100; decide) cD)
theorem xW (x0 x1 x2 x3 x4 x5 x6 x7 x8:D):(([x0,x1,x2,x3,x4,x5,x6,x7,x8]:List D).length < sizeLine)=True:=eq_true (Nat.lt_of_lt_of_le (by show 9 < 100; decide) cD)
theorem xV (x0 x1 x2 x3 x4 x5 x6 x7 x8 x9:D):(([x0,x1,x2,x3,x4,x5,x6,x7,x8,x9]:List D).length < sizeLine)=True:=eq_true (Nat.lt_of_lt_of_le (by show 10 < 100; decide) cD)
theorem xU:mT [.list []]=some (.bool true):=rfl
theorem xT (a:Bool):mT [.list [.bool a]]=some (.bool a):=by cases a <;> rfl
theorem xS (a b:Bool):mT [.list [.bool a,.bool b]]=some (.bool (a && b)):=by cases a <;> cases b <;> rfl
theorem xR:oq [.list []]=some (.int 0):=rfl
theorem xQ (a:Int):oq [.list [.int a]]=some (.int a):=by show some (PyData.int (a+0))=_; rw [Int.add_zero]
theorem xP (a b:Int):oq [.list [.int a,.int b]]=some (.int (a+b)):=by show some (PyData.int (a+(b+0)))=_; rw [Int.add_zero]
theorem xO (x:D) (l:List D):dA (x :: l) (some 1) none=l:=Ej x l
theorem xN (x:D) (l:List D):(HT.sIx (x :: l).length 0 (some 1)=0)=False:=JH x l
theorem xM (p:Prop):(False∧p)=False:=false_and p
theorem xL:(¬ False)=True:=not_false_eq_true
theorem xK:(!true)=false:=rfl
theorem xJ:(!false)=true:=rfl
theorem xI (p:Prop):(True∧p)=p:=true_and p
theorem xH (p:Prop):(p∧True)=p:=and_true p
theorem xG (_:Decidable True):decide True=true:=decide_eq_true trivial
theorem xF (_:Decidable False):decide False=false:=decide_eq_false (fun z=>z)
theorem xE (α:Sort 1) (a:α):(a=a)=True:=eq_self a
end
theorem EC:type_of% ws0∧type_of% ws1∧type_of% ws2∧type_of% ws3∧type_of% ws4∧type_of% ws5∧type_of% ws6∧type_of% ws7∧type_of% ws8∧type_of% ws9∧type_of% Gn∧type_of% Gm∧type_of% Gk∧type_of% Gj∧type_of% Gi∧type_of% Gh∧type_of% Gg∧type_of% Gf∧type_of% Ge∧type_of% Gd∧type_of% Gc∧type_of% Gb∧type_of% Ga∧type_of% F9∧type_of% F8∧type_of% F7∧type_of% FZ∧type_of% FY∧type_of% FX∧type_of% FW∧type_of% FV∧type_of% FU∧type_of% FT∧type_of% FS∧type_of% FR∧type_of% FQ∧type_of% FP∧type_of% FO∧type_of% FN∧type_of% FM:=⟨ws0,ws1,ws2,ws3,ws4,ws5,ws6,ws7,ws8,ws9,Gn,Gm,Gk,Gj,Gi,Gh,Gg,Gf,Ge,Gd,Gc,Gb,Ga,F9,F8,F7,FZ,FY,FX,FW,FV,FU,FT,FS,FR,FQ,FP,FO,FN,FM⟩
theorem EB:type_of% FK∧type_of% FJ∧type_of% FI∧type_of% FH∧type_of% FG∧type_of% FF∧type_of% FE∧type_of% FD∧type_of% FC∧type_of% FB∧type_of% FA∧type_of% Fy∧type_of% Fx∧type_of% Fw∧type_of% Fv∧type_of% Fu∧type_of% Ft∧type_of% Fs∧type_of% Fq∧type_of% Fp∧type_of% Fo∧type_of% Fm∧type_of% Fk∧type_of% Fj∧type_of% Fi∧type_of% Fh∧type_of% Fg∧type_of% Fe∧type_of% Fd∧type_of% Fc∧type_of% Fb∧type_of% E9∧type_of% E8∧type_of% E7∧type_of% E6∧type_of% E5∧type_of% E4∧type_of% E3∧type_of% E2∧type_of% EZ:=⟨FK,FJ,FI,FH,FG,FF,FE,FD,FC,FB,FA,Fy,Fx,Fw,Fv,Fu,Ft,Fs,Fq,Fp,Fo,Fm,Fk,Fj,Fi,Fh,Fg,Fe,Fd,Fc,Fb,E9,E8,E7,E6,E5,E4,E3,E2,EZ⟩
theorem EA:type_of% EY∧type_of% EX∧type_of% EW∧type_of% EV∧type_of% EU∧type_of% ET∧type_of% ES∧type_of% ER∧type_of% EQ∧type_of% EO∧type_of% EN∧type_of% EM∧type_of% EL∧type_of% EK∧type_of% EJ∧type_of% EH∧type_of% EG∧type_of% EF∧type_of% EE∧type_of% ED∧type_of% Cz∧type_of% Cy∧type_of% Cw∧type_of% Cv∧type_of% Cu∧type_of% Ct∧type_of% Cs∧type_of% Cr∧type_of% Cq∧type_of% Cp∧type_of% Co∧type_of% Cn∧type_of% Cm∧type_of% Cl∧type_of% Ck∧type_of% Cj∧type_of% Ci∧type_of% Ch∧type_of% Cg∧type_of% Cf:=⟨EY,EX,EW,EV,EU,ET,ES,ER,EQ,EO,EN,EM,EL,EK,EJ,EH,EG,EF,EE,ED,Cz,Cy,Cw,Cv,Cu,Ct,Cs,Cr,Cq,Cp,Co,Cn,Cm,Cl,Ck,Cj,Ci,Ch,Cg,Cf⟩
theorem Ez:type_of% Ce∧type_of% Cd∧type_of% Cc∧type_of% Cb∧type_of% Ca∧type_of% B9∧type_of% B8∧type_of% B7∧type_of% B6∧type_of% B5∧type_of% B4∧type_of% B3∧type_of% B2∧type_of% B1∧type_of% B0∧type_of% BZ∧type_of% BY∧type_of% BX∧type_of% BW∧type_of% BV∧type_of% BU∧type_of% BT∧type_of% BS∧type_of% BR∧type_of% BQ∧type_of% BP∧type_of% BO∧type_of% BN∧type_of% BM∧type_of% BL∧type_of% BK∧type_of% BJ∧type_of% BI∧type_of% BH∧type_of% BG∧type_of% BF∧type_of% BE∧type_of% BD∧type_of% BC∧type_of% BB:=⟨Ce,Cd,Cc,Cb,Ca,B9,B8,B7,B6,B5,B4,B3,B2,B1,B0,BZ,BY,BX,BW,BV,BU,BT,BS,BR,BQ,BP,BO,BN,BM,BL,BK,BJ,BI,BH,BG,BF,BE,BD,BC,BB⟩
theorem Ey:type_of% BA∧type_of% Bz∧type_of% By∧type_of% Bx∧type_of% Bw∧type_of% Bv∧type_of% Bu∧type_of% Bt∧type_of% Bs∧type_of% Br∧type_of% Bq∧type_of% Bp∧type_of% Bo∧type_of% Bn∧type_of% Bm∧type_of% Bk∧type_of% Bj∧type_of% Bi∧type_of% Bh∧type_of% Bg∧type_of% Bf∧type_of% Be∧type_of% Bd∧type_of% Bc∧type_of% Bb∧type_of% Ba∧type_of% A9∧type_of% A8∧type_of% A7∧type_of% A6∧type_of% A5∧type_of% A4∧type_of% A3∧type_of% A2∧type_of% A1∧type_of% A0∧type_of% AZ∧type_of% AY∧type_of% AX∧type_of% AW:=⟨BA,Bz,By,Bx,Bw,Bv,Bu,Bt,Bs,Br,Bq,Bp,Bo,Bn,Bm,Bk,Bj,Bi,Bh,Bg,Bf,Be,Bd,Bc,Bb,Ba,A9,A8,A7,A6,A5,A4,A3,A2,A1,A0,AZ,AY,AX,AW⟩
theorem Ex:type_of% AV∧type_of% AU∧type_of% AT∧type_of% AR∧type_of% AQ∧type_of% AO∧type_of% AN∧type_of% AM∧type_of% AL∧type_of% AK∧type_of% AJ∧type_of% AI∧type_of% AH∧type_of% AG∧type_of% AF∧type_of% AE∧type_of% AD∧type_of% AC∧type_of% AB∧type_of% AA∧type_of% Az∧type_of% Ay∧type_of% Ax∧type_of% Aw∧type_of% Av∧type_of% Au∧type_of% At∧type_of% As∧type_of% Ar∧type_of% Aq∧type_of% Ap∧type_of% Ao∧type_of% An∧type_of% Am∧type_of% Al∧type_of% Ak∧type_of% Aj∧type_of% Ai∧type_of% Ah∧type_of% Ag:=⟨AV,AU,AT,AR,AQ,AO,AN,AM,AL,AK,AJ,AI,AH,AG,AF,AE,AD,AC,AB,AA,Az,Ay,Ax,Aw,Av,Au,At,As,Ar,Aq,Ap,Ao,An,Am,Al,Ak,Aj,Ai,Ah,Ag⟩
theorem Ew:type_of% Af∧type_of% Ae∧type_of% Ad∧type_of% Ac∧type_of% Ab∧type_of% Aa∧type_of% zZ∧type_of% zY∧type_of% zX∧type_of% zW∧type_of% zV∧type_of% zU∧type_of% zT∧type_of% zS∧type_of% zR∧type_of% zQ∧type_of% zP∧type_of% zO∧type_of% zN∧type_of% zM∧type_of% zL∧type_of% zK∧type_of% zJ∧type_of% zI∧type_of% zH∧type_of% zG∧type_of% zF∧type_of% zE∧type_of% zC∧type_of% zB∧type_of% zA∧type_of% zz∧type_of% zy∧type_of% zx∧type_of% zw∧type_of% zv∧type_of% zu∧type_of% zt∧type_of% zr∧type_of% zq:=⟨Af,Ae,Ad,Ac,Ab,Aa,zZ,zY,zX,zW,zV,zU,zT,zS,zR,zQ,zP,zO,zN,zM,zL,zK,zJ,zI,zH,zG,zF,zE,zC,zB,zA,zz,zy,zx,zw,zv,zu,zt,zr,zq⟩
theorem Ev:type_of% zp∧type_of% zo∧type_of% zn∧type_of% zm∧type_of% zl∧type_of% zh∧type_of% zg∧type_of% ze∧type_of% zd∧type_of% zc∧type_of% zb∧type_of% y9∧type_of% y8∧type_of% yZ∧type_of% yY∧type_of% yX∧type_of% yW∧type_of% yV∧type_of% yU∧type_of% yT∧type_of% yS∧type_of% yR∧type_of% yQ∧type_of% yP∧type_of% yO∧type_of% yN∧type_of% yM∧type_of% yL∧type_of% yK∧type_of% yJ∧type_of% yI∧type_of% yH∧type_of% yG∧type_of% yF∧type_of% yE∧type_of% yD∧type_of% yC∧type_of% yB∧type_of% yA∧type_of% yz:=⟨zp,zo,zn,zm,zl,zh,zg,ze,zd,zc,zb,y9,y8,yZ,yY,yX,yW,yV,yU,yT,yS,yR,yQ,yP,yO,yN,yM,yL,yK,yJ,yI,yH,yG,yF,yE,yD,yC,yB,yA,yz⟩
theorem Eu:type_of% yy∧type_of% yx∧type_of% yw∧type_of% yv∧type_of% yu∧type_of% yt∧type_of% yr∧type_of% yq∧type_of% yo∧type_of% yn∧type_of% ym∧type_of% yk∧type_of% yj∧type_of% yi∧type_of% yh∧type_of% yg∧type_of% yf∧type_of% ye∧type_of% yd∧type_of% yc∧type_of% yb∧type_of% ya∧type_of% xZ∧type_of% xY∧type_of% xX∧type_of% xW∧type_of% xV∧type_of% xU∧type_of% xT∧type_of% xS∧type_of% xR∧type_of% xQ∧type_of% xP∧type_of% xO∧type_of% xN∧type_of% xM∧type_of% xL∧type_of% xK∧type_of% xJ∧type_of% xI:=⟨yy,yx,yw,yv,yu,yt,yr,yq,yo,yn,ym,yk,yj,yi,yh,yg,yf,ye,yd,yc,yb,ya,xZ,xY,xX,xW,xV,xU,xT,xS,xR,xQ,xP,xO,xN,xM,xL,xK,xJ,xI⟩
theorem Et:type_of% xH∧type_of% xG∧type_of% xF∧type_of% xE:=⟨xH,xG,xF,xE⟩
theorem ws:type_of% EC∧type_of% EB∧type_of% EA∧type_of% Ez∧type_of% Ey∧type_of% Ex∧type_of% Ew∧type_of% Ev∧type_of% Eu∧type_of% Et:=⟨EC,EB,EA,Ez,Ey,Ex,Ew,Ev,Eu,Et⟩
end L2
namespace L2
open PySem PySem.Spec PyProof.Rows
theorem gC {g:MG} {b:MS} {ts:List D} {en:En} {Q:Fl→Prop} (I:Nat→En→Prop) (h0:I 0 en)
  (hs:∀ i t en,ts[i]?=some t→I i en→W (g t en) (kFg b (I (i+1)) Q)) (hq:∀ en,I ts.length en→Q (.nx en)):W (eh g b ts en) Q:=by
 suffices ∀ (us:List D) (i:Nat) (en:En),ts.drop i=us→i≤ts.length→I i en→W (eh g b us en) Q from this ts 0 en rfl (Nat.zero_le _) h0
 intro us
 induction us with
 | nil =>
  intro i en hu hi h
  have:ts.length - i=0:=by rw [← List.length_drop,hu]; rfl
  simp only [ws]
  exact hq en (by rw [show ts.length=i by omega]; exact h)
 | cons t us ih =>
  intro i en hu hi h
  have ht:ts[i]?=some t:=by
   have:(ts.drop i)[0]?=some t:=by rw [hu]; rfl
   rw [List.getElem?_drop] at this
   exact this
  have hl:i < ts.length:=(List.getElem?_eq_some_iff.mp ht).1
  have hd:ts.drop (i+1)=us:=by rw [← List.drop_drop,hu]; rfl
  simp only [ws]
  refine (hs i t en ht h).use fun en1 h1=>?_
  simp only [ws] at h1 ⊢
  refine h1.use fun fl h2=>?_
  cases fl with
  | nx e=>simp only [ws] at h2 ⊢; exact ih (i+1) e hd hl h2
  | ct e=>simp only [ws] at h2 ⊢; exact ih (i+1) e hd hl h2
  | rt t e=>simp only [ws] at h2 ⊢; exact h2
theorem J3 {g:MG} {c:MT} {f:ME} {ts:List D} {en:En} {Q:List D × En→Prop} (I:Nat→List D→En→Prop) (hz:ts.length≤sizeLine) (h0:I 0 [] en)
  (hs:∀ i t us en,ts[i]?=some t→us.length≤i→I i us en→W (g t en) (Hx c f us (I (i+1)))) (hq:∀ us en,us.length≤ts.length→I ts.length us en→Q (us,en)):W (lcF g c f ts [] en) Q:=by
 suffices ∀ (vs:List D) (i:Nat) (us:List D) (en:En),ts.drop i=vs→i≤ts.length→us.length≤i→I i us en→W (lcF g c f vs us en) Q from this ts 0 [] en rfl (Nat.zero_le _) (Nat.zero_le _) h0
 intro vs
 induction vs with
 | nil =>
  intro i us en hu hi hl h
  have:ts.length - i=0:=by rw [← List.length_drop,hu]; rfl
  simp only [ws]
  exact hq us en (by omega) (by rw [show ts.length=i by omega]; exact h)
 | cons t vs ih =>
  intro i us en hu hi hl h
  have ht:ts[i]?=some t:=by
   have:(ts.drop i)[0]?=some t:=by rw [hu]; rfl
   rw [List.getElem?_drop] at this
   exact this
  have hlt:i < ts.length:=(List.getElem?_eq_some_iff.mp ht).1
  have hd:ts.drop (i+1)=vs:=by rw [← List.drop_drop,hu]; rfl
  unfold lcF
  rw [aK]
  refine (hs i t us en ht hl h).use fun en1 h1=>?_
  simp only [ws] at h1
  rw [aK]
  refine h1.use fun r h2=>?_
  obtain ⟨x,en2⟩:=r
  cases x with
  | true =>
   simp only [ws] at h2
   show W ((f en2).bind _) Q
   rw [aK]
   refine h2.use fun q h3=>?_
   obtain ⟨u,en3⟩:=q
   simp only [ws] at h3
   show W (if us.length < sizeLine then _ else _) Q
   rw [if_pos (by omega)]
   exact ih (i+1) _ _ hd hlt (by rw [List.length_append]; show _+1≤_; omega) h3
  | false =>
   simp only [ws] at h2
   exact ih (i+1) _ _ hd hlt (by omega) h2
theorem Er {c:MT} {b:MS} {en:En} {Q:Fl→Prop} (I:Nat→En→Prop) (hs:∀ n en,I n en→W (c en) (kWh b (fun e=>∃ m,m < n∧I m e) Q)) {n:Nat} (h0:I n en):W (du c b en) Q:=by
 induction n using Nat.strongRecOn generalizing en with
 | _ n ih =>
  obtain ⟨⟨x,en1⟩,e1,h1⟩:=(hs n en h0).ex
  cases x with
  | false=>simp only [ws] at h1; exact W.of (rN e1) h1
  | true =>
   simp only [ws] at h1
   obtain ⟨fl,e2,h2⟩:=h1.ex
   cases fl with
   | nx e =>
    obtain ⟨m,hm,hi⟩:∃ m,m < n∧I m e:=h2
    obtain ⟨fl,e3,h3⟩:=(ih m hm hi).ex
    exact W.of (rO e1 e2 e3) h3
   | ct e =>
    obtain ⟨m,hm,hi⟩:∃ m,m < n∧I m e:=h2
    obtain ⟨fl,e3,h3⟩:=(ih m hm hi).ex
    obtain ⟨k,h4⟩:=jn e3
    refine W.of (jf (n:=k+1) ?_) h3
    unfold whN
    rw [e1]
    show (b en1).bind _=_
    rw [e2]
    exact h4
   | rt t e =>
    refine W.of (jf (n:=1) ?_) (show Q (.rt t e) from h2)
    unfold whN
    rw [e1]
    show (b en1).bind _=_
    rw [e2]
    rfl
theorem eH {f:ME} {ts:List D} {o:Option D} {rest:En} {Q:List D × En→Prop} (F:D→D) (hz:ts.length≤sizeLine) (hf:∀ t∈ts,W (f (some t :: rest)) (fun r=>r=(F t,some t :: rest))) (hq:∀ o',Q (ts.map F,o' :: rest)):W (lcF (gN 0) cY f ts [] (o :: rest)) Q:=by
 obtain ⟨o',e⟩:=DB (f:=f) (F:=F) (rest:=rest) ts [] o (fun t ht=>by
  obtain ⟨r,e,h⟩:=(hf t ht).ex
  rw [e,h]) (by simpa using hz)
 exact W.of e (hq o')
theorem vK {c:MT} {f:ME} {ts:List D} {o:Option D} {rest:En} {Q:List D × En→Prop} (p:D→Bool) (F:D→D) (hz:ts.length≤sizeLine) (hc:∀ t∈ts,W (c (some t :: rest)) (fun r=>r=(p t,some t :: rest))) (hf:∀ t∈ts,p t=true→W (f (some t :: rest)) (fun r=>r=(F t,some t :: rest))) (hq:∀ o',Q ((ts.filter p).map F,o' :: rest)):W (lcF (gN 0) c f ts [] (o :: rest)) Q:=by
 obtain ⟨o',e⟩:=iC (c:=c) (f:=f) (p:=p) (F:=F) (rest:=rest) ts [] o (fun t ht=>by
  obtain ⟨r,e,h⟩:=(hc t ht).ex
  rw [e,h]) (fun t ht hp=>by
  obtain ⟨r,e,h⟩:=(hf t ht hp).ex
  rw [e,h]) (by simpa using hz)
 exact W.of e (hq o')
theorem ph {α:Type} {ts:List α} {i:Nat} {t:α} (h:ts[i]?=some t):ts.take (i+1)=ts.take i++[t]:=by
 rw [List.take_add_one,h]; rfl
theorem gn {i:Int} {n k:Nat} {t:D} (h:(kW i n)[k]?=some t):k < n∧t=.int (i+(k:Nat)):=by
 unfold kW at h
 rw [List.getElem?_map] at h
 obtain ⟨j,hj,rfl⟩:=Option.map_eq_some_iff.mp h
 obtain ⟨hl,e⟩:=List.getElem?_eq_some_iff.mp hj
 rw [List.getElem_range] at e
 rw [List.length_range] at hl
 exact ⟨hl,by rw [e]⟩
theorem gL (i:Int) (n:Nat):(kW i n).length=n:=by unfold kW; rw [List.length_map,List.length_range]
theorem sz {n:Nat} (h:n≤1000):n≤sizeLine:=Nat.le_trans h Pen3.sl1000
theorem szl {n:Nat} (h:n < 1000):n < sizeLine:=Nat.lt_of_lt_of_le h Pen3.sl1000
theorem Da {α:Type} {ts:List α} {i:Int} {x:α} (h0:0≤i) (h:ts[i.toNat]?=some x):atI ts i=some x:=by
 obtain ⟨n,rfl⟩:=Int.eq_ofNat_of_zero_le h0
 rw [bn]
 exact h
end L2
set_option maxHeartbeats 1000000
namespace L2
namespace Tg
open PySem L2 Pen3
abbrev s1 (c:Nat):D:=.str (mk1 c)
def ev:Str:=("!\"#$&'()*+,-./0123456789:;<=>?@ABCDEFGHIJKLMNOPQRSTUVWXYZ" : Str)++("[\\]^_`abcdefghijklmnopqrstuvwxyz{|}~" : Str)
theorem C5:(li ev).Nodup:=by decide +kernel
theorem Eg:∀ c∈li ev,33≤c∧c≤126∧c≠37:=by decide +kernel
theorem my:∀ ks:List Str,joinD.strsOf (ks.map .str)=some ks
 | []=>rfl
 | c :: cs=>by
  show (joinD.strsOf (cs.map .str)).map (c :: ·)=_
  rw [my cs]
  rfl
theorem la {ks:List Str} (h:(aD ks).length≤1000) (h2:ks.length≤1000):joinD "" [.tuple (ks.map .str)]=some (.str (ofL (aD ks)))∧joinD "" [.list (ks.map .str)]=some (.str (ofL (aD ks))):=by
 have e:ofL (aD ks)=Txt.join "" ks:=(Hg (IB ks)).symm
 constructor
 ·show (joinD.strsOf (ks.map .str)).bind _=_
  rw [my]
  show (if _ then _ else _)=_
  rw [if_pos ⟨by decide,by rw [rE]; omega⟩,e]
 ·show (joinD.strsOf (ks.map .str)).bind _=_
  rw [my]
  show (if _ then _ else _)=_
  rw [if_pos ⟨by decide,by rw [rE]; omega⟩,e]
structure TOk (ks:List Str):Prop where
 n1:1≤ks.length
 n4:ks.length≤4
 fu:∀ k∈ks,1≤(li k).length∧(li k).length≤6
 nd:(aD ks).Nodup
 l12:(aD ks).length≤12
 l1:1≤(aD ks).length
 mem:∀ c∈aD ks,c∈li ev
def tD (ks:List Str):D:=.tuple (ks.map .str)
abbrev sgs (ks:List Str):Str:=ofL (aD ks)
theorem fH {ks:List Str} (T:TOk ks):joinD "" [tD ks]=some (.str (sgs ks)):=(la (by have:=T.l12; omega) (by have:=T.n4; omega)).1
theorem cZ (cs:List Nat):(ofL cs).length=cs.length:=by show cs.toArray.size=_; rw [List.size_toArray]
theorem hds:((("long" : Str)=("least" : Str))=False)∧((("long" : Str)=("often" : Str))=False)∧((("long" : Str)=("apart" : Str))=False)∧((("long" : Str)=("without" : Str))=False)∧((("long" : Str)=("begins" : Str))=False)∧((("long" : Str)=("ends" : Str))=False)∧((("long" : Str)=("not" : Str))=False)∧((("long" : Str)=("both" : Str))=False)∧((("long" : Str)=("either" : Str))=False)∧((("least" : Str)=("long" : Str))=False)∧((("least" : Str)=("often" : Str))=False)∧((("least" : Str)=("apart" : Str))=False)∧((("least" : Str)=("without" : Str))=False)∧((("least" : Str)=("begins" : Str))=False)∧((("least" : Str)=("ends" : Str))=False)∧((("least" : Str)=("not" : Str))=False)∧((("least" : Str)=("both" : Str))=False)∧((("least" : Str)=("either" : Str))=False)∧((("often" : Str)=("long" : Str))=False)∧((("often" : Str)=("least" : Str))=False)∧((("often" : Str)=("apart" : Str))=False)∧((("often" : Str)=("without" : Str))=False)∧((("often" : Str)=("begins" : Str))=False)∧((("often" : Str)=("ends" : Str))=False)∧((("often" : Str)=("not" : Str))=False)∧((("often" : Str)=("both" : Str))=False)∧((("often" : Str)=("either" : Str))=False)∧((("apart" : Str)=("long" : Str))=False)∧((("apart" : Str)=("least" : Str))=False)∧((("apart" : Str)=("often" : Str))=False)∧((("apart" : Str)=("without" : Str))=False)∧((("apart" : Str)=("begins" : Str))=False)∧((("apart" : Str)=("ends" : Str))=False)∧((("apart" : Str)=("not" : Str))=False)∧((("apart" : Str)=("both" : Str))=False)∧((("apart" : Str)=("either" : Str))=False)∧((("without" : Str)=("long" : Str))=False)∧((("without" : Str)=("least" : Str))=False)∧((("without" : Str)=("often" : Str))=False)∧((("without" : Str)=("apart" : Str))=False)∧((("without" : Str)=("begins" : Str))=False)∧((("without" : Str)=("ends" : Str))=False)∧((("without" : Str)=("not" : Str))=False)∧((("without" : Str)=("both" : Str))=False)∧((("without" : Str)=("either" : Str))=False)∧((("begins" : Str)=("long" : Str))=False)∧((("begins" : Str)=("least" : Str))=False)∧((("begins" : Str)=("often" : Str))=False)∧((("begins" : Str)=("apart" : Str))=False)∧((("begins" : Str)=("without" : Str))=False)∧((("begins" : Str)=("ends" : Str))=False)∧((("begins" : Str)=("not" : Str))=False)∧((("begins" : Str)=("both" : Str))=False)∧((("begins" : Str)=("either" : Str))=False)∧((("ends" : Str)=("long" : Str))=False)∧((("ends" : Str)=("least" : Str))=False)∧((("ends" : Str)=("often" : Str))=False)∧((("ends" : Str)=("apart" : Str))=False)∧((("ends" : Str)=("without" : Str))=False)∧((("ends" : Str)=("begins" : Str))=False)∧((("ends" : Str)=("not" : Str))=False)∧((("ends" : Str)=("both" : Str))=False)∧((("ends" : Str)=("either" : Str))=False)∧((("not" : Str)=("long" : Str))=False)∧((("not" : Str)=("least" : Str))=False)∧((("not" : Str)=("often" : Str))=False)∧((("not" : Str)=("apart" : Str))=False)∧((("not" : Str)=("without" : Str))=False)∧((("not" : Str)=("begins" : Str))=False)∧((("not" : Str)=("ends" : Str))=False)∧((("not" : Str)=("both" : Str))=False)∧((("not" : Str)=("either" : Str))=False)∧((("both" : Str)=("long" : Str))=False)∧((("both" : Str)=("least" : Str))=False)∧((("both" : Str)=("often" : Str))=False)∧((("both" : Str)=("apart" : Str))=False)∧((("both" : Str)=("without" : Str))=False)∧((("both" : Str)=("begins" : Str))=False)∧((("both" : Str)=("ends" : Str))=False)∧((("both" : Str)=("not" : Str))=False)∧((("both" : Str)=("either" : Str))=False)∧((("either" : Str)=("long" : Str))=False)∧((("either" : Str)=("least" : Str))=False)∧((("either" : Str)=("often" : Str))=False)∧((("either" : Str)=("apart" : Str))=False)∧((("either" : Str)=("without" : Str))=False)∧((("either" : Str)=("begins" : Str))=False)∧((("either" : Str)=("ends" : Str))=False)∧((("either" : Str)=("not" : Str))=False)∧((("either" : Str)=("both" : Str))=False):=by
 refine ⟨?_,?_,?_,?_,?_,?_,?_,?_,?_,?_,?_,?_,?_,?_,?_,?_,?_,?_,?_,?_,?_,?_,?_,?_,?_,?_,?_,?_,?_,?_,?_,?_,?_,?_,?_,?_,?_,?_,?_,?_,?_,?_,?_,?_,?_,?_,?_,?_,?_,?_,?_,?_,?_,?_,?_,?_,?_,?_,?_,?_,?_,?_,?_,?_,?_,?_,?_,?_,?_,?_,?_,?_,?_,?_,?_,?_,?_,?_,?_,?_,?_,?_,?_,?_,?_,?_,?_,?_,?_,?_⟩ <;> exact eq_false (by decide +kernel)
end Tg
end L2
namespace L2
namespace Tg
open PySem L2 Pen3
abbrev rv (z:Str):Str:=⟨z.cps.toList.reverse.toArray⟩
end Tg
end L2
set_option maxHeartbeats 4000000
namespace L2
open PySem PySem.Spec PyProof.Rows
structure Fly (h:Heap) (a T C:Addr):Prop where
 x:∃ oe vs a0,h.get? a=some oe∧oe.cls=.ref C∧oe.data=.fields vs∧vs[0]?=some a0∧vs[1]?=some (.ref T)
 t:∃ oT ts,h.get? T=some oT∧oT.data=.fields ts∧ts[3]?=some .none
 ne:T≠a
def CXr (P:Program) (w:World):CXT:=fun outer H s E e s'=>∃ (a T C:Addr) (H':Hp),e=.ref a∧E (.ref C) none H'∧s'.os=s.os∧AllBare s'.gens∧Un (frs outer) [] H H' s.heap s'.heap∧HOk P w H' s'.heap ∧
 H' a=none∧H' T=none∧s.heap.get? a=none∧s.heap.get? T=none∧Fly s'.heap a T C
def iZ (h:Heap) (l:List Addr):Heap:=jo h fun b=>if b∈l then some (.own 0) else none
theorem gQ {h:Heap} {l:List Addr} {b:Addr} {o:Obj} (e:h.get? b=some o) (n:b ∉ l):(iZ h l).get? b=some o:=qZ e (if_neg n)
theorem lP {h:Heap} {l:List Addr} {b:Addr} {o:Obj} (e:(iZ h l).get? b=some o):h.get? b=some o∧b ∉ l:=by
 obtain ⟨e1,e2⟩:=sF e
 refine ⟨e1,fun z=>?_⟩
 rw [if_pos z] at e2
 cases e2
theorem dU {h:Heap} {l:List Addr} {b:Addr} (hb:b∈l):(iZ h l).get? b=none:=by
 cases q:(iZ h l).get? b with
 | none=>rfl
 | some o=>exact absurd hb (lP q).2
theorem jh {h base base':Heap}:∀ {l:List Env},h.FunFrames base l→(∀ b∈frs l,base'.get? b=none)→h.FunFrames base' l
 | [],_,_=>trivial
 | env :: r,hl,hb=>by
  obtain ⟨hk,⟨L,o,hf,hn,ho,hd⟩,hr⟩:=hl
  refine ⟨hk,⟨L,o,hf,hb L ?_,ho,hd⟩,jh hr fun b z=>hb b ?_⟩
  ·unfold frs; rw [List.filterMap_cons,hf]; exact List.mem_cons_self
  ·unfold frs; rw [List.filterMap_cons,hf]; exact List.mem_cons_of_mem _ z
theorem dW {h base:Heap}:∀ {l:List Env},h.FunFrames base l→∀ b∈frs l,∃ o,h.get? b=some o∧∀ vs,o.data≠.fields vs
 | [],_,b,hb=>by cases hb
 | env :: r,hl,b,hb=>by
  obtain ⟨hk,⟨L,o,hf,hn,ho,hd⟩,hr⟩:=hl
  unfold frs at hb
  rw [List.filterMap_cons,hf] at hb
  rcases List.mem_cons.mp hb with rfl | hb
  ·exact ⟨o,ho,hd⟩
  ·exact dW hr b hb
theorem pC {h h' base:Heap} (k:∀ b o,h.get? b=some o→(∀ vs,o.data≠.fields vs)→∃ sl,h'.get? b=some { o with slots:=sl }):∀ {l:List Env},h.FunFrames base l→h'.FunFrames base l
 | [],_=>trivial
 | env :: r,hl=>by
  obtain ⟨hk,⟨L,o,hf,hn,ho,hd⟩,hr⟩:=hl
  obtain ⟨sl,e⟩:=k L o ho hd
  exact ⟨hk,⟨L,_,hf,hn,e,hd⟩,pC k hr⟩
theorem HOk.tracked {P:Program} {w:World} {H:Hp} {h h':Heap} (x:HOk P w H h) (k:∀ b u,H b≠none→h.get? b=some u→h'.get? b=some u):HOk P w H h':=fun a o e =>
 (x a o e).stay (fun b u hb q=>k b u (by
  rcases hb with rfl | hb
  ·rw [e]; simp
  ·rw [hb]; simp) q) (fun _ q=>q) fun _ _ q=>q
theorem Un.behind {fs:List Addr} {H H1:Hp} {h h1 h2:Heap} (u:Un fs [] H H1 h h1) (k:∀ b o',h.get? b=some o'→∀ o,h1.get? b=some o→b ∉ fs→h2.get? b=some o)
  (sl:∀ b o',h.get? b=some o'→∀ o,h1.get? b=some o→b∈fs→∃ sl,h2.get? b=some { o with slots:=sl }):Un fs [] H H1 h h2 where
 keep:=fun b o q n hb hx=>k b o q o (u.keep b o q n hb hx) hb
 slot:=fun b o q n hb hx=>by
  obtain ⟨s1,e1⟩:=u.slot b o q n hb hx
  obtain ⟨s2,e2⟩:=sl b o q _ e1 hb
  exact ⟨s2,e2⟩
 free:=u.free
 there:=fun b o q hx=>by
  obtain ⟨o',e⟩:=u.there b o q hx
  by_cases hb:b∈fs
  ·obtain ⟨s2,e2⟩:=sl b o q _ e hb
   exact ⟨_,e2⟩
  ·exact ⟨_,k b o q _ e hb⟩
 tups:=u.tups
 frzs:=u.frzs
 tbls:=u.tbls
theorem ObjOk.get {P:Program} {w:World} {H:Hp} {h:Heap} {a:Addr} {o:HO} (x:ObjOk P w H h a o):∃ ob,h.get? a=some ob:=by
 cases o with
 | lst xs=>obtain ⟨_,_,_,_,e⟩:=x; exact ⟨_,e⟩
 | tup xs=>obtain ⟨_,_,_,o,e,_⟩:=x; exact ⟨_,e⟩
 | dK kvs=>obtain ⟨_,_,_,_,o,_,_,e,_⟩:=x; exact ⟨_,e⟩
 | dT kvs=>obtain ⟨_,_,_,_,o,_,_,e,_⟩:=x; exact ⟨_,e⟩
 | set S n=>obtain ⟨o,_,_,_,e,_⟩:=x; exact ⟨_,e⟩
 | ins C dx fs=>obtain ⟨_,_,_,e,_⟩:=x; exact ⟨_,e⟩
 | own y=>exact x
 | xd fs=>obtain ⟨_,⟨_,_,_,e,_⟩,_⟩:=x; exact ⟨_,e⟩
 | rng lo hi=>obtain ⟨_,_,_,e⟩:=x; exact ⟨_,e⟩
 | frz ob u=>obtain ⟨e,_⟩:=x; exact ⟨_,e⟩
 | tbl ps=>exact ⟨_,(show h.get? a=some _ from x)⟩
 | met f y=>exact ⟨_,(show h.get? a=some _ from x)⟩
 | ext φ=>obtain ⟨_,e,_⟩:=x; exact e
theorem HOk.none {P:Program} {w:World} {H:Hp} {h:Heap} {a:Addr} (x:HOk P w H h) (e:h.get? a=none):H a=none:=by
 cases q:H a with
 | none=>rfl
 | some o =>
  obtain ⟨ob,z⟩:=(x a o q).get
  rw [e] at z
  cases z
section
variable {X:Cx} {pins:List (Addr × Obj)} {σ:St} {H:Hp} {s:Shared} {E:XK}
theorem Inv.frn (I:Inv X pins σ H s) (hx:X.ex=[]):∀ b∈frs X.stack,H b=none:=fun b hb=>by
 rcases List.mem_cons.mp (I.stkSub b hb) with rfl | hb
 ·exact I.free
 ·obtain ⟨o,ho,_⟩:=dW I.ok.funs b hb
  exact I.base.free b o ho (I.ok.frf b hb) (by rw [hx]; simp)
structure Rsx (X:Cx) (E:XK):Prop where
 xe:X.xe=fun e s'=>wpAny (model X.prog X.w) X.A (leaving X.env e) (fun _ s''=>CXr X.prog X.w X.outer X.H₀ X.s₀ E e s'') (fun e' s''=>CXr X.prog X.w X.outer X.H₀ X.s₀ E e' s'') s'
 stk:X.stack=X.env :: X.outer
 fr:X.env.frame=some X.env.locals
 ex:X.ex=[]
 calm:X.calm=true
theorem qB (R:Rsx X E) (I:Inv X pins σ H s) {h':Heap} {e C:Addr} {args:List Value} (m:s.heap.MadeExcOf h' e (.ref C) args) (hE:E (.ref C) none H) :
  X.xe (.ref e) { heap:=h',gens:=s.gens,drawn:=s.drawn,toks:=s.toks,os:=s.os }:=by
 rw [R.xe]
 obtain ⟨t,he,ht1,ht2⟩:=m.there
 have fs:=I.stack
 have fh:h'.FunFrames X.base X.stack:=pC (fun b o q _=>⟨o.slots,m.keeps b o q⟩) fs
 have fB:h'.FunFrames (iZ h' (frs X.stack++[e])) X.stack:=jh fh fun b hb=>dU (List.mem_append_left _ hb)
 have un:=I.base
 rw [R.ex] at un
 refine wpAny_leaving_firstW (base:=iZ h' (frs X.stack++[e])) (env:=X.env) (outer:=X.outer) (by rw [← R.stk]; exact I.ok.frames) (by rw [← R.stk]; exact fB) R.fr he (fun b o q=>(lP q).1) (dU (by simp)) rfl rfl rfl fun h2 ⟨stays,f2,⟨oe,vs,T,oT,ts,q1,⟨q2,q3⟩,q4,q5,q6,q7,q8,q9,q10⟩,nonf⟩=>?_
 have tn:h'.get? T=none:=by
  cases q:h'.get? T with
  | none=>rfl
  | some o =>
   have hT:T∈frs X.stack++[e]:=Decidable.byContradiction fun hn=>by
    rw [gQ q hn] at q6
    cases q6
   rcases List.mem_append.mp hT with hT | hT
   ·obtain ⟨o2,g1,g2⟩:=dW fh T hT
    obtain ⟨sl,g3⟩:=nonf T o2 g1 g2
    rw [q8] at g3
    cases g3
    exact absurd q9 (g2 ts)
   ·exact absurd (by simpa using hT) q7
 have sn:s.heap.get? T=none:=by
  cases q:s.heap.get? T with
  | none=>rfl
  | some o=>rw [m.keeps T o q] at tn; cases tn
 have old:∀ b o,s.heap.get? b=some o→b ∉ frs X.stack→h2.get? b=some o:=fun b o q hb=>stays b o (gQ (m.keeps b o q) fun z=>by
  rcases List.mem_append.mp z with z | z
  ·exact hb z
  ·have z':b=e:=by simpa using z
   subst z'
   rw [m.new] at q
   cases q)
 have nos:∀ b,s.heap.get? b=none→X.s₀.heap.get? b=none:=fun b q=>by
  cases q2:X.s₀.heap.get? b with
  | none=>rfl
  | some o =>
   obtain ⟨o',z⟩:=un.there b o q2 (by simp)
   rw [q] at z
   cases z
 refine ⟨e,T,C,H,rfl,hE,I.os,I.bare,un.behind (fun b o' q0 o q hb=>old b o q fun z=>?_) (fun b o' q0 o q hb=>?_),I.hok.tracked fun b u hb q=>old b u q fun z=>hb (I.frn R.ex b z),I.hok.none m.new,I.hok.none sn,nos e m.new,nos T sn,⟨⟨oe,vs,_,q1,q2,q4,q3,q5⟩,⟨oT,ts,q8,q9,q10⟩,q7⟩⟩
 ·rcases List.mem_cons.mp (I.stkSub b z) with rfl | z
  ·exact absurd (Heap.lt_size q0) (Nat.not_lt_of_le I.ok.above)
  ·exact hb z
 ·obtain ⟨o2,g1,g2⟩:=dW fs b (by rw [R.stk]; unfold frs; rw [List.filterMap_cons,R.fr]; exact List.mem_cons_of_mem _ hb)
  rw [q] at g1
  cases g1
  exact nonf b o (m.keeps b o q) g2
end
end L2
namespace L2
open PySem PySem.Spec PyProof.Rows
theorem mO {K:PySem.W.Frag} {C:Addr} {bmB:List Value} {newId:String} (hx:PySem.W.excIn K C bmB newId=true) :
  ∃ nm q N bs bm hdct sn sub ab col dd k0 k1 k2 k3 k5,K.lookup C=some (excClassObj nm q C N bs bm hdct sn sub ab col dd k0 k1 k2 k3 k5 newId)∧PySem.W.tailIn K bmB bm=true∧PySem.W.nsOkIn K N=true∧PySem.W.nsIn K N (Str.ofString "__init__")=some none:=by
 unfold PySem.W.excIn at hx
 split at hx
 ·next dict cd sl hl =>
  split at hx
  ·next C' bm h0 h1 h2 h3 n h5 e1 e2 =>
   simp only [Bool.and_eq_true,beq_iff_eq,Bool.not_eq_true'] at hx
   obtain ⟨⟨⟨⟨⟨a1,a2⟩,a3⟩,a4⟩,a5⟩,a6⟩:=hx
   subst a1 a2
   obtain ⟨nm,bases,mro,ns,qn,hd,sn,sub,ab,col,hdel⟩:=cd
   simp only at e1 a3 a5 a6
   subst e1 a3
   have e3:sl=#[h0,h1,h2,h3,some (Value.builtin n),h5]:=Array.toList_inj.mp e2
   subst e3
   exact ⟨nm,qn,ns,bases,bm,hd,sn,sub,ab,col,dict,h0,h1,h2,h3,h5,hl,a4,a5,a6⟩
  ·cases hx
 ·cases hx
theorem qr {h:Heap} {bmB bm:List Value} {v:Value} (t:OwnTail h bmB bm) (c:bmB.contains v=true):bm.contains v=true:=by
 induction t with
 | base=>exact c
 | own _ _ _ _ ih =>
  rw [List.contains_cons,ih]
  simp
section
variable {X:Cx} {E:XK} {C:Addr} {bmB:List Value} {B newId initId:String} {x:Str} {np cpos pos:Pos} {a:Expr} {t:TA}
def Gu (E:XK) (C:Addr) (t:TA):TS:=fun _ σ H=>t σ H fun vs H1=>vs.length≤sizeLine∧E (.ref C) none H1
theorem wa (R:Rsx X E) (hb:ExcBaseFacts B newId initId bmB) (hx:PySem.W.excIn X.K C bmB newId=true) (hg:Gl X x) (hm:X.mg x=some (.ref C)) (ha:PA X [a] t)
  (hdb:(x == ("__debug__" : Str))=false:=by decide) (hst:starEach [a] X.env=(false,eval a X.env) :: starEach [] X.env:=by rfl) :
  PS X (.Raise (some (.Call (.Name x np) [a] [] cpos)) none pos) (Gu E C t):=by
 intro pins s σ H D I h
 obtain ⟨nm,q,N,bs,bm,hdct,sn,sub,ab,col,dd,k0,k1,k2,k3,k5,l1,l2,l3,l4⟩:=mO hx
 have kb:=I.mod.kin
 have tb:=PySem.W.tail_of_in kb l2
 refine wpAny_Raise_call_subT (nm:=nm) (q:=q) (C:=C) (N:=N) (bs:=bs) (bm:=bm) (hdct:=hdct) (sn:=sn) (sub:=sub) (ab:=ab) (col:=col) (dd:=dd) (k0:=k0) (k1:=k1) (k2:=k2) (k3:=k3) (k5:=k5) (mN:=X.base.nsMap N) hb (qr tb hb.hasBase) (I.ok.hd R.calm) ?_ (PySem.W.nsMap_none_of_in kb l3 l4) (jK I hg hm ⟨rfl,?_⟩ hdb)
 ·rw [hst]; rfl
 ·refine evalArgs_kw2 (kws:=[]) rfl (thn (ha cpos pins s σ H _ I h) fun us s2 ⟨vs,H2,I2,rv,hl,hE⟩=>?_) hst
  refine wpAny_pure ⟨rfl,by show us.length≤sizeLine; rw [← rv.length]; exact hl,I2.kIn C _ l1,(Heap.Ns.of_isNs (PySem.W.isNs_of_in kb l3)).keeps I2.bk,PySem.W.tail_of_in I2.kIn l2,fun h' e m=>qB R I2 m hE⟩
end
end L2
namespace L2
open PySem PySem.Spec PyProof.Rows
theorem sw {M:Model} {A:Around} {E:Value→Shared→Prop} {nm q:Str} {C N:Addr} {bs bm:List Value} {hdct:Bool} {sn:List Str} {sub:List Value} {ab:Bool} {col:Option Bool} {dd:Option Addr} {k0 k1 k2 k3 k5:Option Value}
  {newId:String} {h:Heap} {g:Array GenState} {d:Drawn} {t:Nat} {os:OsState} {v:Value} {Q:Bool→Shared→Prop}
  (h1:h.get? C=some (excClassObj nm q C N bs bm hdct sn sub ab col dd k0 k1 k2 k3 k5 newId)) (h6:bm.contains v=true)
  (k:Q true { heap:=h,gens:=g,drawn:=d,toks:=t,os:=os }):wpAny M A (isSubtype (.ref C) v) Q E { heap:=h,gens:=g,drawn:=d,toks:=t,os:=os }:=by
 unfold isSubtype
 wp_walk using wpAny_load h1
 have e:(Value.ref C :: bm).contains v=true:=by
  rw [List.contains_cons,h6]
  simp
 show Q ((Value.ref C :: bm).contains v) _
 rw [e]
 exact k
theorem oP {M:Model} {A:Around} {E:Value→Shared→Prop} {nm q nm' q':Str} {C N C' N':Addr} {bs bm bs' bm':List Value} {hdct hdct':Bool} {sn sn':List Str} {sub sub':List Value} {ab ab':Bool} {col col':Option Bool} {dd dd':Option Addr} {k0 k1 k2 k3 k5 j0 j1 j2 j3 j5:Option Value}
  {newId newId':String} {h:Heap} {g:Array GenState} {d:Drawn} {t:Nat} {os:OsState} {e:Addr} {oe:Obj} {Q:Bool→Shared→Prop}
  (h1:h.get? C=some (excClassObj nm q C N bs bm hdct sn sub ab col dd k0 k1 k2 k3 k5 newId)) (h2:h.get? C'=some (excClassObj nm' q' C' N' bs' bm' hdct' sn' sub' ab' col' dd' j0 j1 j2 j3 j5 newId'))
  (h3:h.get? e=some oe) (h4:oe.cls=.ref C) (h5:bm'.contains (Value.type "BaseException")=true) (h6:bm.contains (Value.ref C')=true)
  (k:Q true { heap:=h,gens:=g,drawn:=d,toks:=t,os:=os }):wpAny M A (excMatches (.ref e) (.ref C')) Q E { heap:=h,gens:=g,drawn:=d,toks:=t,os:=os }:=by
 unfold excMatches
 have f1:isSubtype (Value.type "type") (Value.type "tuple")=pure false:=by unfold isSubtype; kernel_rfl
 wp_walk using wpAny_load h1,wpAny_load h2,wpAny_load h3
 refine sw h2 h5 ?_
 wp_walk using wpAny_load h1,wpAny_load h2,wpAny_load h3
 rw [h4]
 refine sw h1 h6 ?_
 wp_walk
 exact k
section
variable {X:Cx} {pins:List (Addr × Obj)} {σ:St} {H H1 H':Hp} {s s1 s':Shared} {E:XK} {D:Ends}
structure Dfx (X:Cx):Prop where
 stk:X.stack=X.env :: X.outer
 fr:X.env.frame=some X.env.locals
 ex:X.ex=[]
theorem jq {h h' base:Heap}:∀ {l:List Env},(∀ b∈frs l,∀ o,h.get? b=some o→∃ sl,h'.get? b=some { o with slots:=sl })→h.FunFrames base l→h'.FunFrames base l
 | [],_,_=>trivial
 | env :: r,k,hl=>by
  obtain ⟨hk,⟨L,o,hf,hn,ho,hd⟩,hr⟩:=hl
  obtain ⟨sl,e⟩:=k L (by unfold frs; rw [List.filterMap_cons,hf]; exact List.mem_cons_self) o ho
  exact ⟨hk,⟨L,_,hf,hn,e,hd⟩,jq (fun b hb=>k b (by unfold frs; rw [List.filterMap_cons,hf]; exact List.mem_cons_of_mem _ hb)) hr⟩
theorem j4 (I:Inv X pins σ H1 s1) (ex:X.ex=[]) (os:s'.os=s1.os) (bare:AllBare s'.gens) (un:Un (frs X.stack) [] H1 H' s1.heap s'.heap) (hok:HOk X.prog X.w H' s'.heap) {a T:Addr} (ha:H' a=none) (hT:H' T=none) (na:s1.heap.get? a=none) (nT:s1.heap.get? T=none)
  {h:Heap} {tk:Nat} (hk:∀ b o,s'.heap.get? b=some o→b ∉ frs X.stack→b≠a→b≠T→h.get? b=some o) (hf:∀ b∈frs X.stack,∀ o,s'.heap.get? b=some o→∃ sl,h.get? b=some { o with slots:=sl }) :
  Inv X pins σ H' { heap:=h,gens:=s'.gens,drawn:=s'.drawn,toks:=tk,os:=s'.os }:=by
 have fn:∀ b∈frs X.stack,H' b=none:=fun b hb=>by
  obtain ⟨o,ho,_⟩:=dW I.stack b hb
  exact un.free b o ho (I.frn ex b hb) (by simp)
 have ne:∀ b o,s1.heap.get? b=some o→b≠a∧b≠T:=fun b o q=>⟨fun z=>(by rw [z,na] at q; cases q),fun z=>(by rw [z,nT] at q; cases q)⟩
 have u2:Un (frs X.stack) [] H1 H' s1.heap h:=un.behind (fun b o' q0 o q hb=>hk b o q hb (ne b o' q0).1 (ne b o' q0).2) fun b o' q0 o q hb=>hf b hb o q
 have ho:HOk X.prog X.w H' h:=hok.tracked fun b u hb q=>hk b u q (fun z=>hb (fn b z)) (fun z=>hb (by rw [z]; exact ha)) fun z=>hb (by rw [z]; exact hT)
 rw [os]
 exact I.call (ch:=[]) u2 ho bare fun _ z=>by cases z
abbrev Cx.suite (X:Cx) (v:Value) (xe:Value→Shared→Prop):Cx:={ X with A:=X.A.mark (some v),calm:=false,xe:=xe }
theorem Inv.suite (I:Inv X pins σ H s) (v:Value) (xe:Value→Shared→Prop):Inv (X.suite v xe) pins σ H s :=
 ⟨⟨I.ok.mod,I.ok.kind,I.ok.glob,I.ok.blt,I.ok.above,I.ok.inj,I.ok.has,I.ok.cab,fun z=>(nomatch z),I.ok.frames,I.ok.stk,I.ok.exf,I.ok.bs,I.ok.bsz,I.ok.noex,I.ok.exfs,I.ok.funs,I.ok.frf⟩,I.os,I.bare,I.base,I.loc,I.cell,I.free,I.freeC,I.pin,I.hok,I.len⟩
theorem Inv.unsuite {v:Value} {xe:Value→Shared→Prop} (hd:X.calm=true→X.A.handled=none) (I:Inv (X.suite v xe) pins σ H s):Inv X pins σ H s :=
 ⟨⟨I.ok.mod,I.ok.kind,I.ok.glob,I.ok.blt,I.ok.above,I.ok.inj,I.ok.has,I.ok.cab,hd,I.ok.frames,I.ok.stk,I.ok.exf,I.ok.bs,I.ok.bsz,I.ok.noex,I.ok.exfs,I.ok.funs,I.ok.frf⟩,I.os,I.bare,I.base,I.loc,I.cell,I.free,I.freeC,I.pin,I.hok,I.len⟩
end
end L2
namespace L2
open PySem PySem.Spec PyProof.Rows
def m9 (K:PySem.W.Frag) (C C':Addr):Bool:=match K.lookup C with
 | some o=>match o.data with
  | .cls cd=>cd.mro.tail.contains (.ref C')
  | _=>false
 | none=>false
section
variable {X:Cx} {pins:List (Addr × Obj)} {σ:St} {H H1 H':Hp} {s s1 s':Shared} {E:XK} {D:Ends}
end
end L2
namespace L2
open PySem PySem.Spec PyProof.Rows
abbrev MX:=En→Option Unit
structure Reach (H:Hp) (R:Nat→AS) (H':Hp):Prop where
 keep:∀ a o,H a=some o→(∀ i,¬ R i a)→H' a=some o
 dom:∀ a o,H a=some o→∃ o',H' a=some o'
section
variable {X:Cx} {K:PySem.W.Frag} {p:Bool} {J:Jd} {ds ds0 ds1 ds' dps:List Nat} {H H' H'':Hp} {σ σ':St} {Dn:Ends} {R R':Nat→AS} {Ox F:AS} {en en':En} {m:MX} {Z:Hp→Prop} {f:MS} {cm:MT} {st:Stmt} {sts body els:List Stmt} {c:Expr} {pos np cpos p2:Pos} {E:XK}
theorem Reach.post (P:Post K p ds' Ox σ H en R en' H' R' F) (r:Reach H' R' H''):Reach H R H'' :=
 ⟨fun a o q n=>r.keep a o (P.keep a o q n) fun i z=>(P.own a (.inr ⟨i,z⟩)).elim (fun ⟨j,w⟩=>n j w) fun w=>(by rw [q] at w; cases w),fun a o q=>let ⟨o',q'⟩:=P.dom a o q; r.dom a o' q'⟩
end
section
variable {P:Program} {w:World} {K:PySem.W.Frag} {mg:Str→Option Value} {base:Heap}
def KnX (P:Program) (w:World) (K:PySem.W.Frag) (mg:Str→Option Value) (base:Heap) (k:Nat) (x:Str) (ps:List Str) (sp:Sp):Prop :=
 ∃ f fd,FnOk P w K mg base (CXr P w) k f fd ps sp∧mg x=some (.ref f)∧PySem.W.keepIn K (.ref f)=true∧Binds K fd ps []
theorem KnX.mono {j k:Nat} {x:Str} {ps:List Str} {sp:Sp} (G:KnX P w K mg base j x ps sp) (h:j≤k):KnX P w K mg base k x ps sp :=
 let ⟨f,fd,a,b,c,d⟩:=G
 ⟨f,fd,a.mono h,b,c,d⟩
theorem uD {N:List Str} {qual:Str} {scope:Scope} {f:Addr} {cd:Value} {A:Around} {outer:List Env} {s:Shared} {H:Hp} {E:XK}:Rsx (i7 (CXr P w) P w K mg base N qual scope f cd A outer s H E) E:=⟨rfl,rfl,rfl,rfl,rfl⟩
end
end L2
namespace L2
open PySem PySem.Spec PyProof.Rows
section
variable {X:Cx} {K:PySem.W.Frag} {J:Jd} {ds ds1 ds' dps:List Nat} {sh:Sh} {fa:MA} {F:List D→Option (D × En)} {Rz:List D→Option Unit} {C C':Addr} {bmB:List Value} {newId newId':String} {fx x y:Str} {ps:List Str} {e:Expr} {es:List Expr} {xp fp cp ap yp hp np2 xp2 ap2 pos:Pos} {i j k:Nat}
theorem JI {pins:List (Addr × Obj)} {σ:St} {H:Hp} {s:Shared} {Q:VK} {E:XK} {sp:Sp} {t:TA} (GX:KnX X.prog X.w X.K X.mg X.base k fx ps sp) (hr:Room k X.A) (hg:Gl X fx) (ha:PA X (e :: es) t) (hdb:(fx == ("__debug__" : Str))=false) (he:aZ e=true) (hpl:es.all aZ=true)
  (I:Inv X pins σ H s) (h:t σ H fun vs H1=>sp (vs++[]) H1 Q E) (hx:∀ H1 s1 ev s',Inv X pins σ H1 s1→CXr X.prog X.w X.stack H1 s1 E ev s'→X.xe ev s') :
  wpAny (model X.prog X.w) X.A (eval (.Call (.Name fx fp) (e :: es) [] cp) X.env) (EP X pins σ Q) X.xe s:=by
 obtain ⟨f,fd,Ff,hm,hk,hb⟩:=GX
 refine wpAny_Call_Name_kw (jK I hg hm ?_ hdb)
 refine PySem.W.callWith_K (h₀:=X.base) I.ok.mod.kin hk (thn (ha cp pins s σ H _ I h) fun us s1 ⟨vs,H1,I1,r,q⟩=>⟨I1.kIn,?_⟩) (bH he) (fc hpl)
 have r2:Vals (vs++[]) (us++[]):=r.append .nil
 have hl:(us++[]).length=ps.length:=by rw [← r2.length]; exact Ff.len _ _ _ _ q
 refine wpAny_call (codeAny_mono (Ff.run X.A X.stack s1 H1 ⟨us,[]⟩ (us++[]) (vs++[]) Q E hr I1.env0 (hb s1 us I1.kIn hl) r2 q) fun r s' hq=>?_)
 cases r with
 | error ev=>exact hx H1 s1 ev s' I1 hq
 | ok fl =>
  cases fl with
  | ret u=>exact I1.after hq
  | next=>exact False.elim hq
  | brk=>exact False.elim hq
  | cont=>exact False.elim hq
def qo (X:Cx) (pins:List (Addr × Obj)) (Dn:Ends) (hs:List ExceptHandler):Value→Shared→Prop:=fun ev s' =>
 wpAny (model X.prog X.w) X.A (noteFrame ev X.env) (fun _ s2=>wpAny (model X.prog X.w) X.A (setFlight ev none) (fun _ s3=>wpAny (model X.prog X.w) X.A (handleBy ev X.env hs) (SP X pins Dn) X.xe s3) X.xe s2) X.xe s'
end
def vE:List Value:=[.type "ValueError",.type "Exception",.type "BaseException",.type "object"]
theorem Dd:vE.contains (Value.type "BaseException")=true:=by decide
section
variable {P:Program} {w:World} {K:PySem.W.Frag} {mg:Str→Option Value} {base h:Heap} {k dr:Nat} {x:Str} {ps:List Str} {dps:List Nat} {f:Addr} {st:Stmt} {sp:Sp}
theorem Df.knX (d:Df K x st f) (X:K.In h) (G:h.Ns mainGlobals mg) (b:∀ (kV doc pm:Value) (an:Option Addr) (cdv ct:Value) (us:List Value),us.length=ps.length→bindArgs (PySem.W.fnOf x x (eJ st) (da st) (av st) .none kV doc pm an cdv ct) ⟨us,[]⟩=pure (ps.zip us))
  (ok:∀ fd,Fun K x x st f fd→FnOk P w K mg base (CXr P w) k f fd ps sp):KnX P w K mg base k x ps sp:=by
 obtain ⟨_,_,_,_,_,_,_,_,_,l,c⟩:=d.l
 have F:=nL (st:=st) l c d.k
 exact ⟨_,_,ok _ F,PySem.W.mg_of X G d.a,d.k,F.binds b⟩
end
end L2
namespace L2
open PySem PySem.Spec PyProof.Rows
section
variable {M:Model} {A:Around} {E:Value→Shared→Prop} {s:Shared}
theorem uc {es:Array DictEntry} {i:Nat} (hi:i < es.size) (x:Str) (hx:(es[i]).key.isStr x=false):((es.eraseIdx i hi).find? fun e=>e.key.isStr x)=es.find? fun e=>e.key.isStr x:=by
 obtain ⟨l⟩:=es
 have key:∀ (l:List DictEntry) (i:Nat) (h:i < l.length),(l[i]).key.isStr x=false→((l.eraseIdx i).find? fun e=>e.key.isStr x)=l.find? fun e=>e.key.isStr x:=by
  intro l
  induction l with
  | nil=>intro i h; simp at h
  | cons a l ih =>
   intro i h hx
   cases i with
   | zero =>
    have hx':a.key.isStr x=false:=hx
    rw [List.eraseIdx_zero,List.tail_cons,List.find?_cons,hx']
   | succ i =>
    rw [List.eraseIdx_cons_succ,List.find?_cons,List.find?_cons,ih i (by simpa using h) hx]
 have:=key l i (by simpa using hi) (by simpa using hx)
 simpa using this
theorem uP {a:Addr} {m:Str→Option Value} {name:Str} {Q:Bool→Shared→Prop} (hn:s.heap.Ns a m) (hs:(m name).isSome=true)
  (hQ:∀ h' m',h'.Ns a m'→(∀ x,x≠name→m' x=m x)→Heap.SameBut a s.heap h'→Q true { s with heap:=h' }):wpAny M A (nsDel a name) Q E s:=by
 obtain ⟨o,es,ep,ho,hd,hk,hm⟩:=id hn
 have hany:es.any (·.refKey)=false:=by
  rw [Array.any_eq_false']; intro e he; obtain ⟨n,t,h⟩:=hk e he; simp [DictEntry.refKey,h]
 have hf:(es.any fun e=>e.key.isStr name)=true:=by
  rw [← hm name] at hs
  simp only [nsFind,findBy,Option.isSome_map] at hs
  rw [Array.find?_isSome] at hs
  obtain ⟨x,hx,hp⟩:=hs
  obtain ⟨i,hi,rfl⟩:=Array.mem_iff_getElem.mp hx
  exact Array.any_eq_true.mpr ⟨i,hi,hp⟩
 have hhas:nsHas name o=pure true:=by
  rw [nsHas_eq]; unfold nsHasByArray; rw [hd]
  show (if (es.any fun x=>x.key.isStr name)=true then _ else _)=_
  rw [if_pos hf]
 unfold nsDel
 refine wpAny_bind (wpAny_loadPart ho ?_)
 rw [hhas]
 refine wpAny_bind (wpAny_pure ?_)
 refine wpAny_bind (wpAny_updatePart ho (wpAny_pure ?_))
 obtain ⟨cl,d,dt,sl⟩:=o
 subst hd
 cases hi:es.findIdx? (·.key.isStr name) with
 | none =>
  exfalso
  rw [Array.findIdx?_eq_none_iff] at hi
  obtain ⟨i,h,hp⟩:=Array.any_eq_true.mp hf
  have:=hi _ (Array.getElem_mem h)
  rw [hp] at this
  cases this
 | some i =>
  obtain ⟨hlt,hp,_⟩:=Array.findIdx?_eq_some_iff_getElem.mp hi
  refine hQ _ (fun x=>findBy (fun k v=>v.isStr k) (es.eraseIdxIfInBounds i) x) ⟨_,es.eraseIdxIfInBounds i,ep+1,Heap.get?_update_self _ ho (by simp only [Obj.dropName_eq,Obj.dropNameByArray,hi] <;> rfl),(by simp only [Obj.dropName_eq,Obj.dropNameByArray,hi] <;> rfl),hk.erase i,fun _=>rfl⟩ (fun x hx=>?_) (Heap.SameBut.update ..)
  rw [← hm x]
  show _=findBy (fun k v=>v.isStr k) es x
  unfold findBy
  have hne:(es[i]).key.isStr x=false:=by
   obtain ⟨n,t,hkey⟩:=hk _ (Array.getElem_mem hlt)
   rw [hkey] at hp ⊢
   have e1:n=name:=by simpa [Value.isStr] using hp
   have:n≠x:=fun z=>hx (by rw [← z,e1])
   simpa [Value.isStr] using this
  have e2:es.eraseIdxIfInBounds i=es.eraseIdx i hlt:=by
   unfold Array.eraseIdxIfInBounds
   rw [dif_pos hlt]
  rw [e2,uc hlt x hne]
end
section
variable {X:Cx} {pins:List (Addr × Obj)} {σ σ':St} {H:Hp} {s:Shared}
theorem DE {h':Heap} {m':Str→Option Value} {t:Nat} (I:Inv X pins σ H s) (hs:Heap.SameBut X.env.locals s.heap h') (hn:h'.Ns X.env.locals m') (hl:σ'.length=X.N.length)
  (k:∀ (j:Nat) (y:Str) (v:V),X.N[j]?=some y→σ'[j]?=some (some v)→Vis X.env.scope y→∃ u,RelV v u∧ID X.env h' m' y u):Inv X pins σ' H { s with heap:=h',toks:=t }:=by
 obtain ⟨m,hn0,hl0⟩:=id I.loc
 obtain ⟨oL,_,_,hoL,_⟩:=id hn0
 have hok:HOk X.prog X.w H h':=fun b ob e=>by
  refine (I.hok b ob e).stay (fun c w' hc q=>(hs.2 c ?_).trans q) (fun _ q=>q) fun _ _ q=>q
  rintro rfl
  rcases hc with z | hc
  ·subst z; rw [I.free] at e; cases e
  ·rw [I.free] at hc; cases hc
 refine ⟨I.ok,I.os,I.bare,⟨fun b o e n hb hx=>?_,fun b o e n hb hx=>?_,I.base.free,fun b o e hx=>?_,I.base.tups,I.base.frzs,I.base.tbls⟩,⟨_,hn,k⟩,fun y c e=>?_,I.free,I.freeC,fun p hp=>?_,hok,hl⟩
 ·exact (hs.2 b (Nat.ne_of_lt (Nat.lt_of_lt_of_le (Heap.lt_size e) I.ok.above))).trans (I.base.keep b o e n hb hx)
 ·obtain ⟨sl,e1⟩:=I.base.slot b o e n hb hx
  exact ⟨sl,(hs.2 b (Nat.ne_of_lt (Nat.lt_of_lt_of_le (Heap.lt_size e) I.ok.above))).trans e1⟩
 ·obtain ⟨o',e1⟩:=I.base.there b o e hx
  exact ⟨o',(hs.2 b (Nat.ne_of_lt (Nat.lt_of_lt_of_le (Heap.lt_size e) I.ok.above))).trans e1⟩
 ·obtain ⟨w',z⟩:=I.cell y c e
  exact ⟨w',z.sameBut hs (I.cne y c e)⟩
 ·obtain ⟨e,n,ne,nf,d⟩:=I.pin p hp
  exact ⟨(hs.2 p.1 ne).trans e,n,ne,nf,d⟩
theorem uS {M:Model} {A:Around} {E:Value→Shared→Prop} {i:Nat} {n:Str} {pos:Pos} {Q:Unit→Shared→Prop} (I:Inv X pins σ H s) (hN:X.N.Nodup) (hi:X.N[i]?=some n) (hk:X.env.kindOf n=some .local)
  (h:∀ s',Inv X pins (σ.set i none) H s'→Q () s'):wpAny M A (do bindName X.env n .none; unbindBehindTheSuite X.env n pos) Q E s:=by
 obtain ⟨m,hn,hl⟩:=id I.loc
 have hp:(X.env.scope.kind == .class || (X.env.scope.kind == .module && X.env.locals != X.env.globals))=false:=by rw [I.ok.kind]; rfl
 refine wpAny_bind (wpAny_bindName (wpAny_storeName_local hk hn (fun h₁ hn₁ hs₁=>?_) hp))
 unfold unbindBehindTheSuite
 refine wpAny_onRaise ?_
 unfold unbindName
 refine wpAny_bind (wpAny_point (wpAny_bind ?_))
 unfold deleteName
 simp only [hk,hp]
 rw [if_neg (by decide)]
 refine wpAny_bind (uP hn₁ (by simp) fun h₂ m₂ hn₂ hm₂ hs₂=>?_)
 simp only [if_true,Bool.not_true,Bool.false_eq_true,if_false]
 refine wpAny_pure (wpAny_point (h _ ?_))
 refine DE I (hs₁.trans hs₂) hn₂ (by rw [List.length_set]; exact I.len) fun j y v e1 e2 e3=>?_
 have hiσ:i < σ.length:=by rw [I.len]; exact (List.getElem?_eq_some_iff.mp hi).1
 by_cases hj:j=i
 ·subst hj
  rw [List.getElem?_set_self hiσ] at e2
  cases e2
 ·rw [List.getElem?_set_ne (Ne.symm hj)] at e2
  obtain ⟨u',r',q⟩:=hl j y v e1 e2 e3
  refine ⟨u',r',?_⟩
  rcases q with ⟨kk,e⟩ | ⟨kk,c,e,z⟩
  ·refine .inl ⟨kk,?_⟩
   have ne:y≠n:=fun e=>hj (mJ hN e1 (e ▸ hi))
   rw [hm₂ y ne]
   simp [ne,e]
  ·exact .inr ⟨kk,c,e,(z.sameBut hs₁ (I.cne y c e)).sameBut hs₂ (I.cne y c e)⟩
end
end L2
namespace L2
open PySem PySem.Spec PyProof.Rows
section
variable {X:Cx} {pins:List (Addr × Obj)} {σ:St} {H H1 H':Hp} {s s1 s':Shared} {E:XK}
structure XOut (X:Cx) (E:XK):Prop where
 out:∀ {pins σ H1 s1 ev s'},Inv X pins σ H1 s1→CXr X.prog X.w X.stack H1 s1 E ev s'→X.xe ev s'
def nY (X:Cx) (pins:List (Addr × Obj)) (σ:St) (E:XK):Prop:=∀ H1 s1 ev s',Inv X pins σ H1 s1→CXr X.prog X.w X.stack H1 s1 E ev s'→X.xe ev s'
theorem XOut.at (O:XOut X E):nY X pins σ E:=fun _ _ _ _ I hc=>O.out I hc
theorem XOut.of (R:Rsx X E) (hfs:X.fs=frs X.outer):XOut X E:=⟨fun {pins σ H1 s1 ev s'} I hc=>by
 obtain ⟨a,T,C,H',rfl,hE,os,bare,un,hok,ha,hT,na,nT,⟨oe,vs,a0,q1,q2,q3,q4,q5⟩,⟨oT,ts,q6,q7,q8⟩,hne⟩:=hc
 rw [R.xe]
 have fh:s'.heap.FunFrames X.base X.stack:=jq (fun b hb o ho=>un.any ho (I.frn R.ex b hb) (by simp)) I.stack
 have fB:s'.heap.FunFrames (iZ s'.heap (frs X.stack++[a,T])) X.stack:=jh fh fun b hb=>dU (List.mem_append_left _ hb)
 have frames:X.A.frames=some (X.env :: X.outer):=by rw [← R.stk]; exact I.ok.frames
 refine wpAny_leaving_nextW (base:=iZ s'.heap (frs X.stack++[a,T])) (cls:=.ref C) (a0:=a0) frames (by rw [← R.stk]; exact fB) R.fr ⟨oe,vs,T,oT,ts,q1,⟨q2,q4⟩,q3,q5,dU (by simp),hne,q6,q7,q8⟩ (fun b o q=>(lP q).1) (dU (by simp)) fun h2 ⟨st2,f2,⟨oe3,vs3,T3,oT3,ts3,g1,⟨g2,g3⟩,g4,g5,g6,g7,g8,g9,g10⟩,nf2⟩=>?_
 have old:∀ b o,s'.heap.get? b=some o→b ∉ frs X.stack→b≠a→b≠T→h2.get? b=some o:=fun b o q z1 z2 z3=>st2 b o (gQ q fun z=>by
  rcases List.mem_append.mp z with z | z
  ·exact z1 z
  ·have z':b=a∨b=T:=by simpa using z
   exact z'.elim z2 z3)
 have I2:Inv X pins σ H' { heap:=h2,gens:=s'.gens,drawn:=s'.drawn,toks:=s'.toks,os:=s'.os }:=j4 I R.ex os bare un hok ha hT na nT old fun b hb o q=>by
  obtain ⟨o2,z1,z2⟩:=dW fh b hb
  rw [q] at z1
  cases z1
  exact nf2 b o q z2
 have un2:=I2.base
 rw [R.ex,hfs] at un2
 have un1:=I.base
 rw [R.ex] at un1
 have back:∀ b,s1.heap.get? b=none→X.s₀.heap.get? b=none:=fun b q=>by
  cases q2:X.s₀.heap.get? b with
  | none=>rfl
  | some o =>
   obtain ⟨o',z⟩:=un1.there b o q2 (by simp)
   rw [q] at z
   cases z
 have hT3:H' T3=none∧X.s₀.heap.get? T3=none:=by
  by_cases e:T3=T
  ·rw [e]; exact ⟨hT,back T nT⟩
  ·have n3:s'.heap.get? T3=none:=by
    cases q:s'.heap.get? T3 with
    | none=>rfl
    | some o =>
     have hm:T3∈frs X.stack++[a,T]:=Decidable.byContradiction fun hn=>by
      rw [gQ q hn] at g6
      cases g6
     rcases List.mem_append.mp hm with z | z
     ·obtain ⟨o2,z1,z2⟩:=dW fh T3 z
      rw [q] at z1
      cases z1
      obtain ⟨sl,z3⟩:=nf2 T3 o q z2
      rw [g8] at z3
      cases z3
      exact absurd g9 (z2 ts3)
     ·have z':T3=a∨T3=T:=by simpa using z
      exact absurd (z'.resolve_right e) g7
   refine ⟨hok.none n3,back T3 ?_⟩
   cases q:s1.heap.get? T3 with
   | none=>rfl
   | some o =>
    obtain ⟨o',z⟩:=un.there T3 o q (by simp)
    rw [n3] at z
    cases z
 exact ⟨a,T3,C,H',rfl,hE,I2.os,bare,un2,I2.hok,ha,hT3.1,back a na,hT3.2,⟨⟨oe3,vs3,a0,g1,g2,g4,g3,g5⟩,⟨oT3,ts3,g8,g9,g10⟩,g7⟩⟩⟩
end
abbrev MN:=En→Option Str
def tX (K:PySem.W.Frag) (ds:List Nat) (m:MN) (cl:Str→Addr) (E:XK):TS:=fun _ σ H=>∃ Ox en R x,EnvOk K ds Ox H σ en R∧m en=some x∧∀ H',Reach H R H'→E (.ref (cl x)) none H'
def He (x:Str):MN:=fun _=>some x
def nNo:MN:=fun _=>none
def nIf (c:MT) (m1 m2:MN):MN:=fun en=>(c en).bind fun r=>if r.1 then m1 r.2 else m2 r.2
def ia (Rz:List D→Option Str) (fa:MA):MN:=fun en=>(fa en).bind fun r=>(dO r.1 r.2).bind Rz
def fnN (n:Nat) (b:MN):List D→Option Str:=fun ts=>b (ts.map some++List.replicate n none)
def rzN (dps:List Nat) (Rz:List D→Option Str):List D→Option (D × En):=fun ts=>(Rz ts).map fun x=>(.str x,dps.map fun _=>none)
def spN (K:PySem.W.Frag) (dps:List Nat) (cl:Str→Addr) (Rz:List D→Option Str):Sp:=fun vs H _ E=>spF K dps 3 (rzN dps Rz) vs H (fun v H'=>∃ x,v=.str x∧E (.ref (cl x)) none H') E
section
variable {X:Cx} {K:PySem.W.Frag} {p:Bool} {J:Jd} {ds ds0 ds1 ds' dps:List Nat} {H H' H'':Hp} {σ σ':St} {Dn:Ends} {R R':Nat→AS} {Ox F:AS} {en en':En} {m m1 m2:MN} {f:MS} {cm:MT} {st:Stmt} {sts body els:List Stmt} {c:Expr} {pos np cpos p2 fp cp ap xp:Pos} {E:XK} {cl:Str→Addr} {sh:Sh} {fa:MA} {Rz:List D→Option Str} {e:Expr} {es:List Expr} {fx x:Str} {ps:List Str} {k:Nat}
theorem wX {x z:Str} {j:Nat} {bmB:List Value} {B newId initId:String} (R:Rsx X E) (hb:ExcBaseFacts B newId initId bmB) (hx:PySem.W.excIn X.K (cl x) bmB newId=true) (hg:Gl X x) (hm:X.mg x=some (.ref (cl x))) (hdb:(x == ("__debug__" : Str))=false) :
  QS X (.Raise (some (.Call (.Name x np) [.Constant (.str z) j p2] [] cpos)) none pos) (tX K ds (He x) cl E) :=
 ⟨fun pins s σ H D I ⟨Ox,en,R0,y,e,hy,k⟩=>by
  cases hy
  exact wa R hb hx hg hm (cV pe_str pa_nil) hdb rfl pins s σ H D I ⟨by show 1≤sizeLine; decide,k H ⟨fun _ _ q _=>q,fun _ o q=>⟨o,q⟩⟩⟩⟩
theorem Ji:QSs X sts (tX K ds nNo cl E):=⟨fun pins s σ H D I ⟨Ox,en,R,y,e,hy,k⟩=>by cases hy⟩
theorem Jj (hc:QT X.nox c (tFT K p ds ds1 cm)) (ha:QSs X body (tX K ds1 m1 cl E)) (hb:QSs X els (tX K ds1 m2 cl E)):QS X (.If c body els pos) (tX K ds (nIf cm m1 m2) cl E) :=
 ⟨fun pins s σ H D I ⟨Ox,en,R,y,e,hm,k⟩=>CL hc.h.nox ha.h hb.h pins s σ H D I (by
  unfold nIf at hm
  obtain ⟨⟨b,en1⟩,h1,h2⟩:=Option.bind_eq_some_iff.mp hm
  cases b with
  | false=>exact ⟨Ox,en,R,false,en1,e,h1,fun H' R' P=>⟨Ox,en1,R',y,P.env0,h2,fun H'' r=>k H'' (r.post P)⟩⟩
  | true=>exact ⟨Ox,en,R,true,en1,e,h1,fun H' R' P=>⟨Ox,en1,R',y,P.env0,h2,fun H'' r=>k H'' (r.post P)⟩⟩)⟩
theorem nO (h:QS X st (tX K ds m cl E)):QSs X (st :: sts) (tX K ds m cl E) :=
 ⟨fun pins s σ H D I q=>qD h.h uF pins s σ H D I q⟩
theorem mi {pins:List (Addr × Obj)} {s:Shared} (O:nY X pins σ E) (GX:KnX X.prog X.w X.K X.mg X.base k fx ps (spN K dps cl Rz)) (hr:Room k X.A) (hgf:Gl X fx) (ha:QA X (e :: es) (tFA K true ds ds1 sh fa)) (hcd:fJ ds1 sh dps=true) (hdf:(fx == ("__debug__" : Str))=false) (he:aZ e=true) (hpl:es.all aZ=true)
  (I:Inv X pins σ H s) (h:tX K ds (ia Rz fa) cl E Dn σ H):wpAny (model X.prog X.w) X.A (eval (.Call (.Name fx fp) (e :: es) [] cp) X.env) (EP X pins σ fun _ _=>False) X.xe s:=by
 obtain ⟨Ox,en,R,y,ee,hm,kk⟩:=h
 unfold ia at hm
 obtain ⟨⟨as,en1⟩,h1,hm⟩:=Option.bind_eq_some_iff.mp hm
 obtain ⟨ts,h2,hR⟩:=Option.bind_eq_some_iff.mp hm
 have hz:ay (rzN dps Rz) fa en=some (.str y,wb as (dps.map fun _=>none) en1):=by
  unfold ay rzN
  rw [h1]
  show (dO as en1).bind _=_
  rw [h2]
  show ((Rz ts).map _).map _=_
  rw [hR]
  rfl
 have tf:tF K (true && iV sh) ds ds1 3 (ay (rzN dps Rz) fa) σ H (fun v H'=>∃ x,v=.str x∧E (.ref (cl x)) none H'):=⟨Ox,en,R,_,_,ee,hz,fun v H' R' Fz P o=>⟨y,o,kk H' ⟨P.keep,P.dom⟩⟩⟩
 exact JI (Q:=fun _ _=>False) (E:=E) GX hr hgf ha.h hdf he hpl I (xj (E:=E) hcd tf) fun H1 s1 ev s' I1 hc=>O H1 s1 ev s' I1 hc
theorem rj (O:XOut X E) (GX:KnX X.prog X.w X.K X.mg X.base k fx ps (spN K dps cl Rz)) (hr:Room k X.A) (hgf:Gl X fx) (ha:QA X (e :: es) (tFA K true ds ds1 sh fa)) (hcd:fJ ds1 sh dps=true) (hdf:(fx == ("__debug__" : Str))=false) (he:aZ e=true) (hpl:es.all aZ=true) :
  QS X (.Expr (.Call (.Name fx fp) (e :: es) [] cp) ap) (tX K ds (ia Rz fa) cl E) :=
 ⟨fun pins s σ H D I h=>wpAny_Expr (thn (mi O.at GX hr hgf ha hcd hdf he hpl I h) fun v s1 ⟨_,_,_,_,z⟩=>False.elim z) I.quiet⟩
end
section
variable {K:PySem.W.Frag} {dps:List Nat} {cl:Str→Addr} {H:Hp} {Dn:Ends} {E:XK} {P:Program} {w:World} {mg:Str→Option Value} {base:Heap}
theorem Dw {N:List Str} {vs:List V} {n:Nat} {b:MN} {Q:VK} (hn:N.length - dps.length=n) (h:spN K dps cl (fnN n b) vs H Q E):tX K (dps++List.replicate n 0) b cl E Dn (dE N vs) H:=by
 obtain ⟨Ox,ts,R,r,outs,e,hf,k⟩:=h
 have lv:dps.length=vs.length:=by have:=e.l2; rw [List.length_map] at this; exact this
 have lt:ts.length=vs.length:=by have:=e.l1; rw [List.length_map,List.length_map] at this; exact this
 have hs:dE N vs=vs.map some++List.replicate n none:=by unfold dE; rw [← lv,hn]
 obtain ⟨u,h1,hf⟩:=Option.map_eq_some_iff.mp hf
 cases hf
 have get0:∀ {α:Type} (xs:List α) (i:Nat) (u:α),(xs.map some++List.replicate n none)[i]?=some (some u)→(xs.map some)[i]?=some (some u)∧i < xs.length:=fun xs i u z=>by
  by_cases hi:i < xs.length
  ·rw [List.getElem?_append_left (by rw [List.length_map]; exact hi)] at z
   exact ⟨z,hi⟩
  ·rw [List.getElem?_append_right (by rw [List.length_map]; omega),List.getElem?_replicate] at z
   split at z
   ·cases z
   ·cases z
 have kk:∀ H',Reach H R H'→E (.ref (cl u)) none H':=fun H' r=>by
  have w:∃ x,V.str u=V.str x∧E (.ref (cl x)) none H':=by
   refine k (.str u) H' (fun _=>NoA) NoA ⟨⟨fun i u hu=>?_,fun _ _ _ z=>z.elim,fun _ _ z=>z.elim,fun a z=>?_,by simp [lv],by simp [lv]⟩,fun _ z=>z.elim,r.keep,fun a z=>?_,r.dom,fun z=>nomatch z⟩ rfl
   ·rw [List.getElem?_map] at hu
    cases q:dps[i]? with
    | none=>rw [q] at hu; cases hu
    | some d=>rw [q] at hu; cases hu
   ·rcases z with ⟨_,z⟩ | z | z
    ·exact z.elim
    ·exact z.elim
    ·obtain ⟨o,q⟩:=e.dom a (.inr z)
     exact r.dom a o q
   ·rcases z with z | ⟨_,z⟩
    ·exact z.elim
    ·exact z.elim
  obtain ⟨x,e1,e2⟩:=w
  cases e1
  exact e2
 refine ⟨Ox,ts.map some++List.replicate n none,R,u,?_,h1,kk⟩
 rw [hs]
 refine ⟨fun i u hu=>?_,e.dj,e.dx,e.dom,by simp [lt],by simp [lv]⟩
 obtain ⟨hu',hi⟩:=get0 ts i u hu
 obtain ⟨v,d,g1,g2,g3⟩:=e.at_ i u hu'
 refine ⟨v,d,?_,?_,g3⟩
 ·rw [List.getElem?_append_left (by rw [List.length_map]; omega)]; exact g1
 ·rw [List.getElem?_append_left (by omega)]; exact g2
theorem Fun.okN {x qual:Str} {st:Stmt} {f:Addr} {fd:FuncData} {N ps:List Str} {k n:Nat} {ds0:List Nat} {b:MN} (F:Fun K x qual st f fd) (S:FnScope N ps (av st)) (hl:dps.length=ps.length) (hn:N.length - dps.length=n) (hd:ds0=dps++List.replicate n 0)
  (hb:∀ (cdv:Value) (A:Around) (outer:List Env) (s:Shared) (H:Hp) (E:XK),Room k (A.deeper (envOfC qual (av st) s.heap.objs.size f cdv))→Rsx (i7 (CXr P w) P w K mg base N qual (av st) f cdv A outer s H E) E→XOut (i7 (CXr P w) P w K mg base N qual (av st) f cdv A outer s H E) E →
   QSs (i7 (CXr P w) P w K mg base N qual (av st) f cdv A outer s H E) (da st) (tX K ds0 b cl E)):FnOk P w K mg base (CXr P w) (k+1) f fd ps (spN K dps cl (fnN n b)):=by
 subst hd
 obtain ⟨oc,od,kV,doc,pm,an,cdv,ct,osl,rfl,lk,hcd⟩:=F.ex
 refine C3 lk hcd S (fun vs H Q E h=>sx hl h) fun A outer s H vs Q E hr hsp=>?_
 exact ⟨_,(hb cdv A outer s H E hr uD (XOut.of uD rfl)).h,Dw hn hsp⟩
end
end L2
namespace L2
open PySem PySem.Spec PyProof.Rows
def oQ (x:Str):D:=.dict [(.none,.str x)]
section
variable {fs ex:List Addr} {H H1 H':Hp} {h h1 h2:Heap} {a C:Addr} {o:HO} {P:Program} {w:World}
theorem Un.more (u:Un fs ex H1 H' h1 h2) (na:h1.get? a=none) (ha:H' a=none):Un fs ex H1 (upd H' a o) h1 h2 where
 keep:=u.keep
 slot:=u.slot
 free:=fun b ob q n hx=>by
  rw [bj (fun z=>by rw [z,na] at q; cases q)]
  exact u.free b ob q n hx
 there:=u.there
 tups:=fun b xs q=>by
  have e:=u.tups b xs q
  rw [bj (fun z=>by rw [z,ha] at e; cases e)]
  exact e
 frzs:=fun b ob y q=>by
  have e:=u.frzs b ob y q
  rw [bj (fun z=>by rw [z,ha] at e; cases e)]
  exact e
 tbls:=fun b ps q=>by
  obtain ⟨more,e⟩:=u.tbls b ps q
  refine ⟨more,?_⟩
  rw [bj (fun z=>by rw [z,ha] at e; cases e)]
  exact e
theorem HOk.more (x:HOk P w H' h) (ha:H' a=Option.none) (hx:gB a C h):HOk P w (upd H' a (.ext (gB a C))) h:=fun b ob e=>by
 by_cases hb:b=a
 ·subst hb
  rw [bC] at e
  cases e
  refine ⟨hx,hx.elim fun o z=>⟨o,z.1⟩,fun g1 g2 hg k=>?_⟩
  obtain ⟨o,z1,z2⟩:=hg
  exact ⟨o,k o z1,z2⟩
 ·rw [bj hb] at e
  refine (x b ob e).stay (fun _ _ _ q=>q) (fun c q=>?_) fun c xs q=>?_
  ·rw [bj (fun z=>by rw [z,ha] at q; cases q)]; exact q
  ·rw [bj (fun z=>by rw [z,ha] at q; cases q)]; exact q
end
section
variable {X:Cx} {pins:List (Addr × Obj)} {σ:St} {H H1 H':Hp} {s s1 s':Shared} {E:XK} {D:Ends}
theorem uk {G:Str→Hp→Prop} {cl:Str→Addr} {kn:List Str} {C':Addr} {bmB:List Value} {newId newId':String} {y n:Str} {j:Nat} {yp hp:Pos} {b₀:Stmt} {suite:List Stmt} {tb:TS} {ev:Value} (Df:Dfx X) (I:Inv X pins σ H1 s1)
  (hc:CXr X.prog X.w X.stack H1 s1 (fun c _ H'=>∃ x,c=.ref (cl x)∧x∈kn∧G x H') ev s') (hx:∀ x∈kn,PySem.W.excIn X.K (cl x) bmB newId=true∧m9 X.K (cl x) C'=true) (hx':PySem.W.excIn X.K C' bmB newId'=true) (hbase:bmB.contains (Value.type "BaseException")=true)
  (hg:Gl X y) (hm:X.mg y=some (.ref C')) (hdb:(y == ("__debug__" : Str))=false) (hN:X.N.Nodup) (hj:X.N[j]?=some n) (ln:Loc X.env.scope n) (kn0:X.env.scope.names.lookup n=some .local) (kn':X.env.kindOf n=some .local)
  (hsu:∀ v xe,PSs (X.suite v xe) (b₀ :: suite) tb)
  (k:∀ a x H',x∈kn→G x H'→H' a=none→tb ⟨fun σ' H2=>D.nx (σ'.set j none) H2,fun _ _=>False,fun _ _=>False,fun _ _=>False⟩ (σ.set j (some (.ref a))) (upd H' a (.ext (gB a (cl x))))) :
  qo X pins D [.ExceptHandler (some (.Name y yp)) (some n) (b₀ :: suite) hp] ev s':=by
 obtain ⟨a,T,C0,H',rfl,⟨x,eC,hkn,hG⟩,os,bare,un,hok,ha,hT,na,nT,⟨oe,vs,a0,q1,q2,q3,q4,q5⟩,⟨oT,ts,q6,q7,q8⟩,hne⟩:=hc
 have eC':C0=cl x:=by injection eC
 subst eC'
 obtain ⟨hx,hs⟩:=hx x hkn
 unfold qo
 have fh:s'.heap.FunFrames X.base X.stack:=jq (fun b hb o ho=>un.any ho (I.frn Df.ex b hb) (by simp)) I.stack
 have fB:s'.heap.FunFrames (iZ s'.heap (frs X.stack++[a,T])) X.stack:=jh fh fun b hb=>dU (List.mem_append_left _ hb)
 have frames:X.A.frames=some (X.env :: X.outer):=by rw [← Df.stk]; exact I.ok.frames
 refine wpAny_noteFrame_onW (base:=iZ s'.heap (frs X.stack++[a,T])) (cls:=.ref (cl x)) (a0:=a0) frames (by rw [← Df.stk]; exact fB) Df.fr ⟨oe,vs,T,oT,ts,q1,⟨q2,q4⟩,q3,q5,dU (by simp),hne,q6,q7,q8⟩ (fun b o q=>(lP q).1) (dU (by simp)) fun h2 ⟨st2,f2,tr2,nf2⟩=>?_
 refine wpAny_setFlight_noneW (base:=iZ s'.heap (frs X.stack++[a,T])) (l:=X.env :: X.outer) st2 f2 tr2 fun h3 st3 f3 ⟨oe3,vs3,T3,oT3,ts3,g1,⟨g2,g3⟩,g4,g5,g6,g7,g8,g9,g10⟩ nf3=>?_
 have nf4:∀ b∈frs X.stack,∀ o,s'.heap.get? b=some o→∃ sl,h3.get? b=some { o with slots:=sl }∧∀ vs,o.data≠.fields vs:=fun b hb o q=>by
  obtain ⟨o2,z1,z2⟩:=dW fh b hb
  rw [q] at z1
  cases z1
  obtain ⟨sl,z3⟩:=nf2 b o q z2
  exact ⟨sl,nf3 b _ z3 z2,z2⟩
 have old:∀ b o,s'.heap.get? b=some o→b ∉ frs X.stack→b≠a→b≠T→h3.get? b=some o:=fun b o q z1 z2 z3=>st3 b o (gQ q fun z=>by
  rcases List.mem_append.mp z with z | z
  ·exact z1 z
  ·have z':b=a∨b=T:=by simpa using z
   exact z'.elim z2 z3)
 have I3:Inv X pins σ H' { heap:=h3,gens:=s'.gens,drawn:=s'.drawn,toks:=s'.toks,os:=s'.os }:=j4 I Df.ex os bare un hok ha hT na nT old fun b hb o q=>let ⟨sl,z,_⟩:=nf4 b hb o q; ⟨sl,z⟩
 obtain ⟨nm,q,N,bs,bm,hdct,sn,sub,ab,col,dd,k0,k1,k2,k3,k5,l1,l2,_,_⟩:=mO hx
 obtain ⟨nm',q',N',bs',bm',hdct',sn',sub',ab',col',dd',j0,j1,j2,j3,j5,m1,m2,_,_⟩:=mO hx'
 have hsub:bm.contains (Value.ref C')=true:=by
  unfold m9 at hs
  rw [l1] at hs
  exact hs
 refine wpAny_handleBy_cons (codeAny_handlers_test (jK (X:=X.suite (.ref a) fun _ _=>False) (I3.suite _ _) hg hm ?_ hdb)) (fun z=>nomatch z)
 refine oP (I3.kIn (cl x) _ l1) (I3.kIn C' _ m1) g1 g2 (qr (PySem.W.tail_of_in I3.mod.kin m2) hbase) hsub ?_
 have sz3:3 < ts3.size:=by
  rw [Array.getElem?_eq_some_iff] at g10
  exact g10.1
 refine codeAny_handlers_suite_as (wpAny_setFlight_none g1 g4 g5 g8 g9 sz3 ?_)
 have hold:∀ b o,s'.heap.get? b=some o→b ∉ frs X.stack→b≠a→b≠T→(h3.update T3 (Obj.mapFields fun x=>x.setIfInBounds 3 Value.none)).get? b=some o:=fun b o q z1 z2 z3=>by
  rw [Heap.get?_update_ne]
  ·exact old b o q z1 z2 z3
  ·rintro rfl
   have:b∈frs X.stack++[a,T]:=Decidable.byContradiction fun hn=>by
    rw [gQ q hn] at g6
    cases g6
   rcases List.mem_append.mp this with z | z
   ·exact z1 z
   ·have z':b=a∨b=T:=by simpa using z
    exact z'.elim z2 z3
 have hfr:∀ b∈frs X.stack,∀ o,s'.heap.get? b=some o→∃ sl,(h3.update T3 (Obj.mapFields fun x=>x.setIfInBounds 3 Value.none)).get? b=some { o with slots:=sl }:=fun b hb o q=>by
  obtain ⟨sl,z,z2⟩:=nf4 b hb o q
  refine ⟨sl,?_⟩
  rw [Heap.get?_update_ne]
  ·exact z
  ·rintro rfl
   rw [g8] at z
   cases z
   exact z2 ts3 g9
 have I4:Inv X pins σ H' { heap:=h3.update T3 (Obj.mapFields fun x=>x.setIfInBounds 3 Value.none),gens:=s'.gens,drawn:=s'.drawn,toks:=s'.toks,os:=s'.os }:=j4 I Df.ex os bare un hok ha hT na nT hold hfr
 have hxa:gB a (cl x) (h3.update T3 (Obj.mapFields fun x=>x.setIfInBounds 3 Value.none)):=by
  refine ⟨oe3,?_,g2,fun c z=>by rw [g4] at z; cases z⟩
  rw [Heap.get?_update_ne]
  ·exact g1
  ·exact Ne.symm g7
 have hok2:=I4.hok.more ha hxa
 have ne1:∀ b o,s1.heap.get? b=some o→b≠a∧b≠T:=fun b o q=>⟨fun z=>(by rw [z,na] at q; cases q),fun z=>(by rw [z,nT] at q; cases q)⟩
 have u2:Un (frs X.stack) [] H1 H' s1.heap (h3.update T3 (Obj.mapFields fun x=>x.setIfInBounds 3 Value.none)):=un.behind (fun b o' q0 o q hb=>hold b o q hb (ne1 b o' q0).1 (ne1 b o' q0).2) fun b o' q0 o q hb=>hfr b hb o q
 have I5:Inv X pins σ (upd H' a (.ext (gB a (cl x)))) { heap:=h3.update T3 (Obj.mapFields fun x=>x.setIfInBounds 3 Value.none),gens:=s'.gens,drawn:=s'.drawn,toks:=s'.toks,os:=s'.os }:=by
  rw [os]
  exact I.call (ch:=[]) (u2.more na ha) hok2 bare fun _ z=>by cases z
 refine kS (X:=X) I5 hN hj ln (v:=.ref a) rfl (fun s2 I6 _=>?_) (.inr kn0)
 refine wpAny_mono (hsu (.ref a) _ pins s2 _ _ _ (I6.suite _ _) (k a x H' hkn hG ha)) (fun f s4 z=>?_) fun e s4 z=>z
 cases f with
 | next =>
  obtain ⟨σ',H2,I7,z⟩:=z
  exact uS (I7.unsuite I.ok.hd) hN hj kn' fun s5 I8=>⟨_,_,I8,z⟩
 | ret u=>obtain ⟨_,_,_,_,_,z⟩:=z; exact z.elim
 | brk=>obtain ⟨_,_,_,z⟩:=z; exact z.elim
 | cont=>obtain ⟨_,_,_,z⟩:=z; exact z.elim
end
def hidE (kp:List Nat) (en:En):En:=en.zipIdx.map fun p=>if p.2∈kp then none else p.1
theorem wP (kp:List Nat) (en:En) (i:Nat):(hidE kp en)[i]?=(en[i]?).map fun o=>if i∈kp then none else o:=by
 unfold hidE
 rw [List.getElem?_map,List.getElem?_zipIdx]
 cases en[i]? <;> simp
section
variable {K:PySem.W.Frag} {ds:List Nat} {Ox:AS} {H H':Hp} {σ:St} {en:En} {R:Nat→AS} {kp:List Nat}
theorem EnvOk.hidE (e:EnvOk K ds Ox H σ en R) (kp:List Nat):EnvOk K ds (fun a=>Ox a∨∃ i∈kp,R i a) H σ (L2.hidE kp en) (fun i a=>i ∉ kp∧R i a):=by
 have eq:Own (fun i a=>i ∉ kp∧R i a) (fun a=>Ox a∨∃ i∈kp,R i a)=Own R Ox:=ib fun a=>by
  constructor
  ·rintro (⟨i,_,z⟩ | z | ⟨i,_,z⟩)
   ·exact .inl ⟨i,z⟩
   ·exact .inr z
   ·exact .inl ⟨i,z⟩
  ·rintro (⟨i,z⟩ | z)
   ·by_cases hi:i∈kp
    ·exact .inr (.inr ⟨i,hi,z⟩)
    ·exact .inl ⟨i,hi,z⟩
   ·exact .inr (.inl z)
 refine ⟨fun i t q=>?_,fun i j a z1 z2=>e.dj i j a z1.2 z2.2,fun i a z z2=>?_,fun a z=>e.dom a (eq ▸ z),?_,e.l2⟩
 ·rw [wP] at q
  obtain ⟨o,q1,q2⟩:=Option.map_eq_some_iff.mp q
  by_cases hi:i∈kp
  ·rw [if_pos hi] at q2; cases q2
  ·rw [if_neg hi] at q2
   subst q2
   obtain ⟨v,d,h1,h2,h3⟩:=e.at_ i t q1
   refine ⟨v,d,h1,h2,?_⟩
   rw [eq]
   exact Ow.grow (fun _ z=>z) t (fun b z=>⟨hi,z⟩) h3
 ·rcases z2 with z2 | ⟨j,hj,z2⟩
  ·exact e.dx i a z.2 z2
  ·have:=e.dj i j a z.2 z2
   subst this
   exact z.1 hj
 ·show (L2.hidE kp en).length=_
  unfold L2.hidE
  rw [List.length_map,List.length_zipIdx]
  exact e.l1
theorem EnvOk.raised (e:EnvOk K ds Ox H σ en R) (r:Reach H (fun i a=>i ∉ kp∧R i a) H') (hd:∀ (i:Nat) d,ds[i]?=some d→d=0∨i∈kp):EnvOk K ds Ox H' σ en (fun i a=>i∈kp∧R i a):=by
 refine ⟨fun i t q=>?_,fun i j a z1 z2=>e.dj i j a z1.2 z2.2,fun i a z=>e.dx i a z.2,fun a z=>?_,e.l1,e.l2⟩
 ·obtain ⟨v,d,h1,h2,h3⟩:=e.at_ i t q
  refine ⟨v,d,h1,h2,?_⟩
  rcases hd i d h2 with h0 | hi
  ·subst h0
   refine Ow.mv (O:=Own R Ox) (H:=H) (G:=fun _=>False) ⟨fun a o q z=>r.keep a o q fun j zj=>(z.resolve_right id) (.inl ⟨j,zj.2⟩),fun a z=>.inl (z.imp (fun ⟨j,z⟩=>⟨j,z.2⟩) id)⟩ t (F:=fun _=>False) (fun _ z=>z) (Ow.any0 t h3) |> Ow.any0 t
  ·refine Ow.mv (O:=Own R Ox) (H:=H) (G:=R i) ⟨fun a o q z=>r.keep a o q fun j zj=>?_,fun a z=>.inl (z.imp (fun ⟨j,z⟩=>⟨j,z.2⟩) id)⟩ t (F:=fun a=>i∈kp∧R i a) (fun _ z=>z.2) (Ow.grow (fun _ z=>z) t (fun b z=>⟨hi,z⟩) h3)
   rcases z with z | z
   ·exact z (.inl ⟨j,zj.2⟩)
   ·have:=e.dj j i a zj.2 z
    subst this
    exact zj.1 hi
 ·obtain ⟨o,q⟩:=e.dom a (z.imp (fun ⟨i,z⟩=>⟨i,z.2⟩) id)
  exact r.dom a o q
end
end L2
namespace L2
open PySem PySem.Spec PyProof.Rows
def PXs (X:Cx) (pins:List (Addr × Obj)) (σ:St) (E:XK) (K:PySem.W.Frag) (ds:List Nat) (m:MN) (cl:Str→Addr) (sts:List Stmt):Prop :=
 ∀ s H,Inv X pins σ H s→(∀ D,tX K ds m cl E D σ H)→wpAny (model X.prog X.w) X.A (execs sts X.env) (fun _ _=>False) X.xe s
section
variable {X:Cx} {pins:List (Addr × Obj)} {σ:St} {K:PySem.W.Frag} {p:Bool} {ds ds1 dps:List Nat} {m m1 m2:MN} {cm:MT} {body els:List Stmt} {c:Expr} {pos fp cp ap xp:Pos} {E:XK} {cl:Str→Addr} {sh:Sh} {fa:MA} {Rz:List D→Option Str} {e:Expr} {es:List Expr} {fx x:Str} {ps:List Str} {k:Nat}
theorem qC (O:nY X pins σ E) (GX:KnX X.prog X.w X.K X.mg X.base k fx ps (spN K dps cl Rz)) (hr:Room k X.A) (hgf:Gl X fx) (ha:QA X (e :: es) (tFA K true ds ds1 sh fa)) (hcd:fJ ds1 sh dps=true) (hdf:(fx == ("__debug__" : Str))=false) (he:aZ e=true) (hpl:es.all aZ=true) :
  PXs X pins σ E K ds (ia Rz fa) cl [.Expr (.Call (.Name fx fp) (e :: es) [] cp) ap]:=fun s H I h =>
 wpAny_execs_cons (wpAny_Expr (thn (mi O GX hr hgf ha hcd hdf he hpl I (h ⟨fun _ _=>True,fun _ _=>True,fun _ _=>True,fun _ _=>True⟩)) fun v s1 ⟨_,_,_,_,z⟩=>False.elim z) I.quiet)
theorem IQ (hc:QT X.nox c (tFT K p ds ds1 cm)) (ha:PXs X pins σ E K ds1 m1 cl body) (hb:PXs X pins σ E K ds1 m2 cl els):PXs X pins σ E K ds (nIf cm m1 m2) cl [.If c body els pos]:=fun s H I h=>by
 obtain ⟨Ox,en,R,y,e,hm,k⟩:=h ⟨fun _ _=>True,fun _ _=>True,fun _ _=>True,fun _ _=>True⟩
 unfold nIf at hm
 obtain ⟨⟨b,en1⟩,h1,h2⟩:=Option.bind_eq_some_iff.mp hm
 refine wpAny_execs_cons (wpAny_If (thn (hc.h.nox pins s σ H (fun b' H'=>b'=b∧∃ R',EnvOk K ds1 Ox H' σ en1 R'∧∀ H'',Reach H' R' H''→Reach H R H'') I ⟨Ox,en,R,b,en1,e,h1,fun H' R' P=>⟨rfl,R',P.env0,fun H'' r=>r.post P⟩⟩) fun d s1 ⟨H1,I1,q1,R1,q2,q3⟩=>?_))
 subst q1
 cases d with
 | true=>exact wpAny_mono (ha s1 H1 I1 fun D=>⟨Ox,en1,R1,y,q2,h2,fun H'' r=>k H'' (q3 H'' r)⟩) (fun _ _ z=>z.elim) fun _ _ z=>z
 | false=>exact wpAny_mono (hb s1 H1 I1 fun D=>⟨Ox,en1,R1,y,q2,h2,fun H'' r=>k H'' (q3 H'' r)⟩) (fun _ _ z=>z.elim) fun _ _ z=>z
end
def nc (kn:List Str) (kp:List Nat) (j:Nat) (b:MS) (m:MN) (hs:MS):MS:=fun en=>match b en with
 | some (.nx e)=>some (.nx e)
 | some _=>none
 | none=>(m (hidE kp en)).bind fun x=>if x∈kn then (hs (en.set j (some (oQ x)))).bind fun fl=>match fl with
  | .nx e=>some (.nx (e.set j none))
  | _=>none else none
def wz (ds kp:List Nat):Bool:=ds.zipIdx.all fun p=>p.1 == 0 || kp.contains p.2
theorem wy {ds kp:List Nat} (h:wz ds kp=true) (i d:Nat) (q:ds[i]?=some d):d=0∨i∈kp:=by
 unfold wz at h
 have:=List.all_eq_true.mp h (d,i) (List.mem_of_getElem? (i:=i) (by rw [List.getElem?_zipIdx,q]; simp))
 simpa using this
section
variable {X:Cx} {K:PySem.W.Frag} {J:Jd} {ds ds1 ds':List Nat} {b hs:MS} {m:MN} {cl:Str→Addr} {kn:List Str} {kp:List Nat} {C':Addr} {bmB:List Value} {newId newId':String} {y n:Str} {j:Nat} {yp hp pos:Pos} {b₀:Stmt} {suite body:List Stmt}
theorem wV (hK:X.K=K) (Df:Dfx X) (hb:∀ xe,QSs (X.wish xe) body (tFS K J ds ds' b)) (hm:∀ xe pins σ E,nY (X.wish xe) pins σ E→PXs (X.wish xe) pins σ E K ds m cl body) (hsu:∀ v xe,QSs (X.suite v xe) (b₀ :: suite) (tFS K J ds ds' hs))
  (hcl:∀ x∈kn,PySem.W.nsIn K mainGlobals x=some (some (.ref (cl x)))) (hx:∀ x∈kn,PySem.W.excIn X.K (cl x) bmB newId=true∧m9 X.K (cl x) C'=true) (hx':PySem.W.excIn X.K C' bmB newId'=true) (hbase:bmB.contains (Value.type "BaseException")=true)
  (hg:Gl X y) (hmy:X.mg y=some (.ref C')) (hdb:(y == ("__debug__" : Str))=false) (hN:X.N.Nodup) (hj:X.N[j]?=some n) (ln:Loc X.env.scope n) (kn0:X.env.scope.names.lookup n=some .local) (kn':X.env.kindOf n=some .local)
  (hkp:wz ds kp=true) (hjl:j ∉ J.lk) (hjd:ds[j]?=some 0) (hjd':ds'[j]?=some 0) (hjk:j ∉ kp) :
  QS X (.Try body [.ExceptHandler (some (.Name y yp)) (some n) (b₀ :: suite) hp] [] [] pos) (tFS K J ds ds' (nc kn kp j b m hs)):=by
 subst hK
 refine ⟨fun pins s σ H Dn I h=>?_⟩
 obtain ⟨Ox,en,R,fl,env,hf,k⟩:=h
 refine wpAny_Try_except ?_
 show wpAny (model X.prog X.w) X.A (execs body X.env) _ (qo X pins Dn [.ExceptHandler (some (.Name y yp)) (some n) (b₀ :: suite) hp]) s
 unfold nc at hf
 cases hB:b en with
 | some f1 =>
  rw [hB] at hf
  cases f1 with
  | nx e1 =>
   cases hf
   refine wpAny_mono ((hb (qo X pins Dn [.ExceptHandler (some (.Name y yp)) (some n) (b₀ :: suite) hp])).h pins s σ H Dn (I.wish _) ⟨Ox,en,R,_,env,hB,k⟩) (fun f s1 z=>?_) fun ev s1 z=>z
   have z:=z.unwish
   cases f with
   | next=>exact wpAny_execs_nil z
   | ret v=>exact z
   | brk=>exact z
   | cont=>exact z
  | rt t e1=>cases hf
  | ct e1=>cases hf
 | none =>
  rw [hB] at hf
  obtain ⟨x,hx1,hf⟩:=Option.bind_eq_some_iff.mp hf
  by_cases hkn:x∈kn
  case neg=>rw [if_neg hkn] at hf; cases hf
  rw [if_pos hkn] at hf
  obtain ⟨fl2,hx2,hf⟩:=Option.bind_eq_some_iff.mp hf
  cases fl2 with
  | rt t e1=>cases hf
  | ct e1=>cases hf
  | nx e2 =>
  cases hf
  have hjl2:j < σ.length:=by rw [← env.l2]; exact (List.getElem?_eq_some_iff.mp hjd).1
  have O:nY (X.wish (qo X pins Dn [.ExceptHandler (some (.Name y yp)) (some n) (b₀ :: suite) hp])) pins σ (fun c _ H'=>∃ z,c=.ref (cl z)∧z∈kn∧(z=x∧Reach H (fun i a=>i ∉ kp∧R i a) H')):=fun H1 s1 ev s' I1 hc=>by
   refine uk (G:=fun z H'=>z=x∧Reach H (fun i a=>i ∉ kp∧R i a) H') Df I1.unwish hc hx hx' hbase hg hmy hdb hN hj ln kn0 kn' (fun v xe=>(hsu v xe).h) ?_
   rintro a z H' _ ⟨ez,r⟩ ha
   rw [ez]
   have e1:=env.raised r (wy hkp)
   have hnew:∀ b o,H' b=some o→(upd H' a (.ext (gB a (cl x)))) b=some o:=fun b o q=>by rw [bj (fun z=>by rw [z,ha] at q; cases q)]; exact q
   have na:¬ Own (fun i a=>i∈kp∧R i a) Ox a:=fun z=>by
    obtain ⟨o,q⟩:=e1.dom a z
    rw [ha] at q
    cases q
   have e2':EnvOk X.K ds Ox (upd H' a (.ext (gB a (cl x)))) (σ.set j (some (.ref a))) (en.set j (some (oQ x))) (fun i a=>i∈kp∧R i a):=by
    refine ⟨fun i t q=>?_,e1.dj,e1.dx,fun b z=>let ⟨o,q⟩:=e1.dom b z; ⟨o,hnew b o q⟩,by rw [List.length_set,List.length_set]; exact e1.l1,by rw [List.length_set]; exact e1.l2⟩
    by_cases hij:i=j
    ·subst hij
     have hl:i < en.length:=by rw [env.l1]; exact hjl2
     rw [List.getElem?_set_self hl] at q
     cases q
     exact ⟨.ref a,0,by rw [List.getElem?_set_self hjl2],hjd,a,[],rfl,.inr (.inr ⟨rfl,.inr ⟨x,cl x,rfl,hcl x hkn,bC,na⟩⟩)⟩
    ·rw [List.getElem?_set_ne (Ne.symm hij)] at q
     obtain ⟨v,d,g1,g2,g3⟩:=e1.at_ i t q
     exact ⟨v,d,by rw [List.getElem?_set_ne (Ne.symm hij)]; exact g1,g2,Ow.mv (G:=fun a=>i∈kp∧R i a) ⟨fun b o q _=>hnew b o q,fun b z=>.inl z⟩ t (fun _ z=>z) g3⟩
   refine ⟨Ox,en.set j (some (oQ x)),_,_,e2',hx2,fun σ' H2 R2 P=>?_⟩
   refine k (σ'.set j none) H2 R2 ⟨?_,P.fx,fun b o q nn=>?_,fun b z=>?_,fun b o q=>?_,fun i hi=>?_⟩
   ·refine ⟨fun i t q=>?_,P.env.dj,P.env.dx,P.env.dom,by rw [List.length_set,List.length_set]; exact P.env.l1,by rw [List.length_set]; exact P.env.l2⟩
    by_cases hij:i=j
    ·subst hij
     by_cases hl:i < e2.length
     ·rw [List.getElem?_set_self hl] at q; cases q
     ·rw [List.getElem?_eq_none (by rw [List.length_set]; omega)] at q; cases q
    ·rw [List.getElem?_set_ne (Ne.symm hij)] at q
     obtain ⟨v,d,g1,g2,g3⟩:=P.env.at_ i t q
     exact ⟨v,d,by rw [List.getElem?_set_ne (Ne.symm hij)]; exact g1,g2,g3⟩
   ·exact P.keep b o (hnew b o (r.keep b o q fun i z=>nn i z.2)) fun i z=>nn i z.2
   ·rcases P.own b z with ⟨i,z⟩ | z
    ·exact .inl ⟨i,z.2⟩
    ·by_cases q:∃ i,R i b
     ·exact .inl q
     ·refine .inr ?_
      cases qb:H b with
      | none=>rfl
      | some o =>
       have:=hnew b o (r.keep b o qb fun i z=>q ⟨i,z.2⟩)
       rw [z] at this
       cases this
   ·obtain ⟨o',q'⟩:=r.dom b o q
    exact P.dom b o' (hnew b o' q')
   ·have:=P.lk i hi
    have hij:j≠i:=fun z=>hjl (z ▸ hi)
    rw [List.getElem?_set_ne hij,this,List.getElem?_set_ne hij]
  exact wpAny_mono (hm _ pins σ _ O s H (I.wish _) fun D=>⟨_,hidE kp en,_,x,env.hidE kp,hx1,fun H' r=>⟨x,rfl,hkn,rfl,r⟩⟩) (fun _ _ z=>z.elim) fun _ _ z=>z
end
end L2
namespace L2
open PySem PySem.Spec PyProof.Rows Builtin Builtin.ObjectAttr Builtin.Getset_descriptor
def j7:Value:=.builtin "object.__class__"
def re:Value:=.builtin "getset_descriptor.__get__"
def gGa:Value:=.builtin "BaseException.__getattribute__"
def okX (K:PySem.W.Frag) (C:Addr):Bool:=((PySem.W.findIn K (.ref C) "__getattribute__" == some (some gGa)) && (PySem.W.findIn K (.ref C) "__getattr__" == some none) && (PySem.W.mroIn K C (.type "BaseException") == some true)) && (PySem.W.clsIn K C).isSome && (PySem.W.findIn K (.ref C) "__class__" == some (some j7)) && (PySem.W.specialIn K j7 "__get__" == some (some re)) && (PySem.W.takesIn K j7 == some true) && (PySem.W.mroIn K C (.type "object") == some true) && (PySem.W.kitCls K (.ref C) (.ref C)).isSome
section
variable {prog:Program} {w:World} {A:Around} {E:Value→Shared→Prop} {s:Shared} {K:PySem.W.Frag} {a C:Addr}
theorem vy {M:Model} {h:Heap} (p:gB a C h):PySem.W.Looks M h (typeOf (.ref a)) (.ref C):=by
 obtain ⟨o,h1,h2,_⟩:=p
 exact h2 ▸ (PySem.W.Looks.ld h1).andThen .now
theorem Ed {M:Model} {nv:Value} {Q:Unit→Shared→Prop} (t0:PySem.W.Looks M s.heap (typeOf (.ref a)) (.ref C)) (t6:PySem.W.Looks M s.heap (isSubtype (.ref C) (.type "BaseException")) true) (hq:Q () s):wpAny M A (checkBuiltinCall "BaseException.__getattribute__" ⟨[.ref a,nv],[]⟩) Q E s:=by
 have hb:builtinKind "BaseException.__getattribute__"=some .slot:=by decide +kernel
 have hp:splitId "BaseException.__getattribute__"=some ("BaseException", "__getattribute__"):=by decide +kernel
 have ha:=PySem.F.args_bexc_ga (.ref a) nv
 obtain ⟨hh,g,d,t,os⟩:=s
 simp only [checkBuiltinCall,hb,hp]
 refine wpAny_bind ?_
 unfold isInstance
 refine wpAny_bind (t0.at (t6.at ?_))
 simp only [Bool.not_true,Bool.false_eq_true,if_false]
 cases hs:Manifest.signature? "BaseException.__getattribute__" with
 | none=>exact wpAny_pure hq
 | some sg =>
  simp only [argsOk,hs] at ha
  have h2:Bind.checkArgs "BaseException.__getattribute__" sg ⟨[.ref a,nv],[]⟩=pure ():=ha
  show wpAny M A (Bind.checkArgs "BaseException.__getattribute__" sg ⟨[.ref a,nv],[]⟩) Q E _
  rw [h2]
  exact wpAny_pure hq
theorem vz {Q:Option Value→Shared→Prop} (hk:okX K C=true) (X:K.In s.heap) (p:gB a C s.heap) (h:Q (some (.ref C)) { s with toks:=s.toks+1 }):wpAny (model prog w) A (getAttr? (.ref a) "__class__") Q E s:=by
 unfold okX at hk
 simp only [Bool.and_eq_true,beq_iff_eq] at hk
 obtain ⟨⟨⟨⟨⟨⟨⟨⟨k0,k1⟩,k7⟩,k2⟩,k3⟩,k4⟩,k5⟩,k6⟩,_⟩:=hk
 obtain ⟨hh,g,d,t,os⟩:=s
 have t0:=vy (M:=model prog w) p
 have t1:=PySem.W.looks_findIn (M:=model prog w) X k0
 have t2:=PySem.W.looks_findIn (M:=model prog w) X k1
 have t6:=PySem.W.looks_mroIn (M:=model prog w) X k7
 have bs:∀ self,bindSpecial gGa self=pure (gGa,[self]):=PySem.F.attr_ValueError.ga.bind
 have ng:(onTheHeap (Value.ref C) && gGa == Value.builtin "object.__getattribute__")=false:=by rw [show (gGa == Value.builtin "object.__getattribute__")=false by decide +kernel]; rfl
 have t3:PySem.W.Looks (model prog w) hh (Builtin.ObjectAttr.dataDescriptor? (some j7) (some re)) (some (re,j7)):=(PySem.W.looks_takesIn X k5).andThen .now
 have t4:PySem.W.Looks (model prog w) hh (Builtin.ObjectAttr.find (.ref a) (.ref C) "__class__") (.bind re j7):=(PySem.W.looks_findIn X k3).andThen ((PySem.W.looks_specialIn X k4).andThen (t3.andThen (PySem.W.Looks.tag .now)))
 have t5:=PySem.W.looks_mroIn (M:=model prog w) X k6
 unfold getAttr? getAttrBy? getAttrBy
 refine wpAny_bind (wpAny_mkText (wpAny_bind (wpAny_attempt (wpAny_holding (wpAny_bind (t0.at (wpAny_bind (t1.at ?_))))))))
 dsimp only
 rw [ng]
 show wpAny _ _ (getAttrByItsOwn _ _ _ _ _ _) _ _ _
 unfold getAttrByItsOwn
 refine wpAny_bind (t2.at (wpAny_bind (wpAny_attempt (wpAny_holding ?_))))
 show wpAny _ _ (boundAndCalled gGa _ _) _ _ _
 unfold boundAndCalled
 rw [bs]
 refine wpAny_bind (wpAny_pure (wpAny_call ?_))
 refine codeAny_call_builtin PySem.F.attr_ValueError.ga.plain PySem.F.entry_bexc_ga (Ed t0 t6 ?_)
 unfold Builtin.«object.__getattribute__»
 refine wpAny_bind ?_
 show wpAny _ _ (pure (Value.ref a,[Value.str "__class__" t])) _ _ _
 refine wpAny_pure ?_
 refine wpAny_bind (wpAny_pure (wpAny_bind (t0.at (wpAny_bind (t4.at ?_)))))
 show wpAny _ _ (holding [j7] (call re [j7,.ref a,.ref C]) >>= ret) _ _ _
 refine wpAny_bind (wpAny_holding (wpAny_call ?_))
 refine codeAny_call_builtin PySem.W.KF.slot_gs.plain PySem.W.KF.entry_gs (PySem.W.KF.slot_gs.check _ _ _ _ _ _ _ _ PySem.W.KF.type_class (PySem.W.KF.args_gs _ _ _) ?_)
 unfold Builtin.«getset_descriptor.__get__» descrGet
 rw [show j7=Value.builtin "object.__class__" from rfl,PySem.W.dga_obj]
 refine wpAny_bind (wpAny_pure ?_)
 unfold descrGetter descrCheckInstance
 unfold descrNameAndClass
 unfold isInstance
 simp only [PySem.W.KF.owner_class]
 repeat lk
 refine ⟨Code.quiet_builtin _ (by decide +kernel),codeAny_builtin PySem.W.KF.entry_class ?_⟩
 unfold Builtin.«object.__class__»
 unfold shownTypeOf
 repeat lk
 exact h
theorem wA (hk:okX K C=true):PySem.W.KitX K (.ref a) (.ref C) (gB a C) where
 ty:=fun _ _ _ p=>vy p
 it:=fun M h X _=>by
  unfold okX at hk
  simp only [Bool.and_eq_true] at hk
  obtain ⟨v,hv⟩:=Option.isSome_iff_exists.mp hk.2
  exact (PySem.W.kit_cls X hv).2.1
 ne:=fun h tp dd its n sl X htp=>by
  unfold okX at hk
  simp only [Bool.and_eq_true] at hk
  have k2:=hk.1.1.1.1.1.2
  refine Bool.eq_false_iff.mpr fun q=>?_
  have e:C=tp:=by simpa using q
  subst e
  unfold PySem.W.clsIn at k2
  split at k2
  ·next ho =>
   have z:=(X _ _ ho).symm.trans htp
   cases z
  ·cases k2
 ca:=fun X p h=>vz hk X p h
end
def cP (kn xs:List Str):D→Option D
 | .dict [(.none,.str x)]=>if x∈kn then some (.bool (xs.contains x)) else none
 | _=>none
def bV (K:PySem.W.Frag) (kn xs:List Str) (cv:Value):Bool:=kn.all fun x=>match PySem.W.nsIn K mainGlobals x with
 | some (some (.ref C))=>okX K C && (PySem.W.kitOne K (.ref C) cv == some (xs.contains x))
 | _=>false
def GK (K:PySem.W.Frag) (kn xs:List Str) (c:V):List V→Hp→VK→Prop:=fun vs H Q=>∃ (x:V) (O:AS) (a:D) (b:Bool),vs=[x,c]∧Ow K O H a 0 x NoA∧cP kn xs a=some (.bool b)∧Q (.bl b) H
section
variable {X:Cx} {K:PySem.W.Frag} {p:Bool} {ds ds1:List Nat} {d1:Nat} {e:Expr} {f:ME} {kn xs:List Str}
theorem wN {a:D} {b:Bool} {O:AS} {H:Hp} {x:V} (h:cP kn xs a=some (.bool b)) (o:Ow K O H a 0 x NoA):∃ q y C,x=.ref q∧y∈kn∧b=xs.contains y∧PySem.W.nsIn K mainGlobals y=some (some (.ref C))∧H q=some (.ext (gB q C)):=by
 unfold cP at h
 split at h
 case h_2=>cases h
 next y =>
 by_cases hy:y∈kn
 case neg=>rw [if_neg hy] at h; cases h
 rw [if_pos hy] at h
 cases h
 obtain ⟨q,vs,rfl,⟨_,_,_,z⟩ | ⟨z,_⟩ | ⟨_,⟨kk,b,z,_⟩ | ⟨y',C,z,h1,h2,_⟩⟩⟩:=o
 ·obtain ⟨q',_,_,_,_,_,z,_⟩:=z
  cases q' <;> cases z
 ·exact absurd rfl z
 ·cases z
 ·cases z
  exact ⟨q,y,C,rfl,hy,rfl,h1,h2⟩
theorem rC {c:V} {cv:Value} (hc:∀ u,RelV c u→u=cv) (ht:bV X.K kn xs cv=true):CallR X (.builtin "isinstance") (GK X.K kn xs c):=by
 intro pins s σ H vs us Q I r h
 obtain ⟨x,O,a,b,rfl,oa,hb,q⟩:=h
 obtain ⟨u,u2,rfl,r1,r2⟩:=r.two
 have e2:=hc u2 r2
 subst e2
 obtain ⟨z,y,C,rfl,hy,rfl,h1,h2⟩:=wN hb oa
 cases r1
 have t:=List.all_eq_true.mp ht y hy
 rw [h1] at t
 simp only [Bool.and_eq_true,beq_iff_eq] at t
 obtain ⟨hx,_⟩:=(show ObjOk X.prog X.w H s.heap z (.ext (gB z C)) from I.hok z _ h2)
 exact PySem.W.kia_one (wA t.1) I.kIn hx t.2 (fun z=>nomatch z) fun tk=>⟨.bl _,H,I.tok tk,rfl,q⟩
theorem sM {c:V} {σ:St} {H:Hp} {Q:VK} (h:tF K p ds ds1 3 (e1 (cP kn xs) f) σ H Q):tCB (GK K kn xs c) (lM (tF K p ds ds1 d1 f) (lM (tC c) s0)) σ H Q:=by
 obtain ⟨Ox,en,R,t,en',e,hf,k⟩:=h
 unfold e1 at hf
 obtain ⟨⟨t1,en1⟩,h1,hf⟩:=Option.bind_eq_some_iff.mp hf
 obtain ⟨t',h3,hf⟩:=Option.map_eq_some_iff.mp hf
 cases hf
 obtain ⟨b,rfl⟩:∃ b,t=.bool b:=by
  unfold cP at h3
  split at h3
  ·split at h3
   ·cases h3; exact ⟨_,rfl⟩
   ·cases h3
  ·cases h3
 refine ⟨Ox,en,R,t1,en1,e,h1,fun v H' R' F P o=>?_⟩
 exact ⟨v,Own R' Ox,t1,b,rfl,Ow.letgo P (fun _ z=>z) o,h3,k _ H' R' NoA (P.less fun _ z=>z.elim) rfl⟩
theorem Ih {T:Str} {C':Addr} {px pt pos:Pos} (hK:X.K=K) (hg:Gl X "isinstance") (hm:X.mg "isinstance"=none) (hgT:Gl X T) (hmT:X.mg T=some (.ref C')) (ht:bV K kn xs (.ref C')=true) (he:PE X e (tF K p ds ds1 d1 f)) (hdT:(T == ("__debug__" : Str))=false)
  (hs1:starEach [e,.Name T pt] X.env=(false,eval e X.env) :: starEach [.Name T pt] X.env) (hs2:starEach [.Name T pt] X.env=(false,eval (.Name T pt) X.env) :: starEach [] X.env) (hpl:(backTo pos (starEach [.Name T pt] X.env)).any (·.1)=false) :
  PE X (.Call (.Name "isinstance" px) [e,.Name T pt] [] pos) (tF K p ds ds1 3 (e1 (cP kn xs) f)):=by
 subst hK
 exact (iT (rC (c:=.ref C') (fun u z=>z) ht) hg hm boot_isinstance (cV he (cV (sC (v:=.ref C') hgT hmT rfl hdT) pa_nil hs2) hs1) (by decide) (by decide) hs1 hpl).imp fun σ H Q h=>sM h
theorem Ii {T:Str} {n:String} {px pt pos:Pos} (hK:X.K=K) (hg:Gl X "isinstance") (hm:X.mg "isinstance"=none) (hgT:Gl X T) (hmT:X.mg T=none) (hbT:bootBuiltins T=some (.type n)) (ht:bV K kn xs (.type n)=true) (he:PE X e (tF K p ds ds1 d1 f)) (hnT:T≠"__name__") (hdT:(T == ("__debug__" : Str))=false)
  (hs1:starEach [e,.Name T pt] X.env=(false,eval e X.env) :: starEach [.Name T pt] X.env) (hs2:starEach [.Name T pt] X.env=(false,eval (.Name T pt) X.env) :: starEach [] X.env) (hpl:(backTo pos (starEach [.Name T pt] X.env)).any (·.1)=false) :
  PE X (.Call (.Name "isinstance" px) [e,.Name T pt] [] pos) (tF K p ds ds1 3 (e1 (cP kn xs) f)):=by
 subst hK
 exact (iT (rC (c:=.ty n) (fun u z=>z) ht) hg hm boot_isinstance (cV he (cV (sE (v:=.ty n) hgT hmT hbT rfl hnT hdT) pa_nil hs2) hs1) (by decide) (by decide) hs1 hpl).imp fun σ H Q h=>sM h
end
end L2
namespace L2
open PySem PySem.Spec PyProof.Rows
section
variable {X:Cx} {K:PySem.W.Frag} {O:AS} {H:Hp}
end
section
variable {X:Cx} {K:PySem.W.Frag} {p:Bool} {ds ds1:List Nat} {d1:Nat} {e:Expr} {f:ME} {kn xs:List Str}
theorem cF {T:Str} {C':Addr} {px pt pos:Pos} (hK:X.K=K) (hg:Gl X "isinstance") (hm:X.mg "isinstance"=none) (hgT:Gl X T) (hmT:X.mg T=some (.ref C')) (ht:bV K kn xs (.ref C')=true) (he:QE X e (tF K p ds ds1 d1 f)) (hdT:(T == ("__debug__" : Str))=false) (hs:aZ e=true) :
  QE X (.Call (.Name "isinstance" px) [e,.Name T pt] [] pos) (tF K p ds ds1 3 (e1 (cP kn xs) f)):=⟨Ih hK hg hm hgT hmT ht he.h hdT (bH hs) (bH rfl) (fc rfl)⟩
theorem xb {T:Str} {n:String} {px pt pos:Pos} (hK:X.K=K) (hg:Gl X "isinstance") (hm:X.mg "isinstance"=none) (hgT:Gl X T) (hmT:X.mg T=none) (hbT:bootBuiltins T=some (.type n)) (ht:bV K kn xs (.type n)=true) (he:QE X e (tF K p ds ds1 d1 f)) (hnT:T≠"__name__") (hdT:(T == ("__debug__" : Str))=false) (hs:aZ e=true) :
  QE X (.Call (.Name "isinstance" px) [e,.Name T pt] [] pos) (tF K p ds ds1 3 (e1 (cP kn xs) f)):=⟨Ii hK hg hm hgT hmT hbT ht he.h hnT hdT (bH hs) (bH rfl) (fc rfl)⟩
end
def clK (K:PySem.W.Frag) (x:Str):Addr:=match PySem.W.nsIn K mainGlobals x with
 | some (some (.ref C))=>C
 | _=>0
def C4 (K:PySem.W.Frag) (kn:List Str) (y:Str):Bool:=kn.all fun x=>(PySem.W.nsIn K mainGlobals x == some (some (.ref (clK K x)))) && PySem.W.excIn K (clK K x) vE "ValueError.__new__" && m9 K (clK K x) (clK K y)
structure ExcK (K:PySem.W.Frag) (mg:Str→Option Value) (kn:List Str) (y:Str):Prop where
 b:C4 K kn y=true
 m:mg y=some (.ref (clK K y))
 h:PySem.W.excIn K (clK K y) vE "ValueError.__new__"=true
theorem ExcK.cl {K:PySem.W.Frag} {mg:Str→Option Value} {kn:List Str} {y:Str} (E:ExcK K mg kn y):∀ x∈kn,PySem.W.nsIn K mainGlobals x=some (some (.ref (clK K x))):=fun x hx=>by
 have:=List.all_eq_true.mp E.b x hx
 simp only [Bool.and_eq_true,beq_iff_eq] at this
 exact this.1.1
theorem ExcK.hx {K:PySem.W.Frag} {mg:Str→Option Value} {kn:List Str} {y:Str} (E:ExcK K mg kn y):∀ x∈kn,PySem.W.excIn K (clK K x) vE "ValueError.__new__"=true∧m9 K (clK K x) (clK K y)=true:=fun x hx=>by
 have:=List.all_eq_true.mp E.b x hx
 simp only [Bool.and_eq_true,beq_iff_eq] at this
 exact ⟨this.1.2,this.2⟩
end L2
namespace L2
open PySem PySem.Spec PyProof.Rows
def iH:D→D→Option D
 | .list ts,b=>grd (aA b=true∧aE ts=true∧bt ts≤60) (.int (ts.countP fun t=>peq t b:Nat))
 | _,_=>none
def gP:D→D→Option D
 | .list ts,b=>if aA b=true∧aE ts=true∧bt ts≤60∧ts.length≤sizeLine then (ts.findIdx? fun t=>peq t b).map fun j=>.int (j:Nat) else none
 | _,_=>none
section
variable {X:Cx} {K:PySem.W.Frag} {p:Bool} {ds ds1 ds2:List Nat} {d d1 d2:Nat} {e:Expr} {f f1 f2:ME} {σ:St} {H:Hp} {Q Q':VK} {O:AS} {pins:List (Addr × Obj)} {s:Shared}
theorem vC (I:Inv X pins σ H s) {a:D}:∀ {ts:List D} {vs:List V} {us:List Value},aE ts=true→Ows X.K O H ts 0 vs NoA→Vals vs us→us.length=ts.length∧∀ (i:Nat) t u,ts[i]?=some t→us[i]?=some u→eqF X O H a u=peq t a
 | [],_,_,_,h,r=>by
  cases (show _=[] from h)
  cases r
  exact ⟨rfl,fun i t u z=>by simp at z⟩
 | t :: ts,_,_,hn,h,r=>by
  obtain ⟨v,q,F1,F2,e,_,_,_,h4,h5⟩:=h
  subst e
  have hn':aA t=true∧aE ts=true:=by simpa [aE] using hn
  cases r with
  | cons ru rr =>
   obtain ⟨l,g⟩:=vC I (a:=a) hn'.2 (Ows.any0 ts h5) rr
   refine ⟨by rw [List.length_cons,List.length_cons,l],fun i t' u' z1 z2=>?_⟩
   cases i with
   | zero =>
    cases z1
    cases z2
    exact nR I ru hn'.1 (Ow.any0 t h4)
   | succ i=>exact g i t' u' (by simpa using z1) (by simpa using z2)
theorem ub (hK:X.K=K) (hu:X.A.units+64 < cLine):OpR X (fun v u=>call (.builtin "list.count") [v,u]) (rF2 K iH 3):=by
 subst hK
 intro pins s σ H x y v u Q I rx ry ⟨O,a,b,t,oa,ob,hd,hg,k⟩
 have hu1:X.A.in1.units+60+1 < cLine:=by show X.A.units+1+60+1 < cLine; omega
 unfold iH at hg
 split at hg
 case h_2=>cases hg
 next ts =>
 obtain ⟨⟨c1,c2,c3⟩,rfl⟩:=cw hg
 obtain ⟨q,vs,rfl,fz,w⟩:=oa.lst0
 cases rx
 obtain ⟨its,r,⟨o,n,ho,hc,hdd,hda⟩,hz⟩:=I.list fz.sq
 obtain ⟨cls,dd,data,sl⟩:=o
 simp only at hc hda
 subst hc hda
 refine call_meets F.slot_list_count ⟨_,ho,rfl⟩ F.entry_list_count (F.args_list_count_2 _ _) (SeqAt.list_countAt q its.toArray n dd sl u (eqF X O H b)) ⟨ho,fun z hz=>jI I c1 ob ry hu1 c2 c3 w r z (by simpa using hz),?_⟩
 have e:List.countP (eqF X O H b) its.toArray.toList=ts.countP fun t=>peq t b:=pG I c2 w r
 rw [e]
 exact ⟨.int _,H,I.tok _,⟨_,rfl⟩,k _ H NoA .refl rfl⟩
theorem ua (hK:X.K=K) (hu:X.A.units+64 < cLine):OpR X (fun v u=>call (.builtin "list.index") [v,u]) (rF2 K gP 3):=by
 subst hK
 intro pins s σ H x y v u Q I rx ry ⟨O,a,b,t,oa,ob,hd,hg,k⟩
 have hu1:X.A.in1.units+60+1 < cLine:=by show X.A.units+1+60+1 < cLine; omega
 unfold gP at hg
 split at hg
 case h_2=>cases hg
 next ts =>
 by_cases hc:aA b=true∧aE ts=true∧bt ts≤60∧ts.length≤sizeLine
 case neg=>rw [if_neg hc] at hg; cases hg
 rw [if_pos hc] at hg
 obtain ⟨c1,c2,c3,c4⟩:=hc
 obtain ⟨j,hj,rfl⟩:=Option.map_eq_some_iff.mp hg
 obtain ⟨j1,j2,j3⟩:=List.findIdx?_eq_some_iff_getElem.mp hj
 obtain ⟨q,vs,rfl,fz,w⟩:=oa.lst0
 cases rx
 obtain ⟨its,r,⟨o,n,ho,hc,hdd,hda⟩,hz⟩:=I.list fz.sq
 obtain ⟨cls,dd,data,sl⟩:=o
 simp only at hc hda
 subst hc hda
 obtain ⟨l,g⟩:=vC I (a:=b) c2 w r
 have sl0:sizeLine=16777216:=by decide
 refine call_meets F.slot_list_index ⟨_,ho,rfl⟩ F.entry_list_index (F.args_list_index_2 _ _) (SeqAt.list_indexAt q its.toArray n dd sl u (eqF X O H b) j (by rw [List.size_toArray]; omega) (by omega) ?_ fun m hm hmj=>?_) ⟨ho,fun z hz=>jI I c1 ob ry hu1 c2 c3 w r z (by simpa using hz),?_⟩
 ·rw [g j ts[j] _ (List.getElem?_eq_getElem j1) (by simp [show j < its.length by omega])]
  exact j2
 ·rw [List.size_toArray] at hm
  rw [g m (ts[m]'(by omega)) _ (List.getElem?_eq_getElem (by omega)) (by simp [hm])]
  exact Bool.eq_false_iff.mpr (j3 m hmj)
 ·exact ⟨.int _,H,I.tok _,⟨_,rfl⟩,k _ H NoA .refl rfl⟩
theorem ue {o:Expr} {apos cpos:Pos} (hK:X.K=K) (hu:X.A.units+64 < cLine) (ho:QE X o (tF K p ds ds1 d1 f1)) (he:QE X e (tF K p ds1 ds2 d2 f2))
  (hbase:attributeBase o "count" X.env (eval o X.env)=eval o X.env)
  (hfew:((backTo cpos (starEach [e] X.env)).all (fun x=>!x.1) && (backToKw cpos (keywordEach [] X.env)).all (fun x=>x.1.isSome) && decide (([e]:List Expr).length+([]:List Keyword).length+(if ([]:List Keyword).isEmpty then 0 else 1) < 30))=true)
  (hline:(apos.endLine == cpos.line)=true) (hs:starEach [e] X.env=[(false,eval e X.env)]) (hplain:(backTo cpos (starEach [] X.env)).any (·.1)=false) :
  QE X (.Call (.Attribute o "count" apos) [e] [] cpos) (tF K p ds ds2 3 (e2 iH f1 f2)):=by
 subst hK
 refine ⟨rl (Ty:=TyL X.K) F.plainAttrs_list F.slot_list_count F.type_list_count (fun a b t O x H F hg o=>?_) (fun pins s σ H x v I r ty=>?_) (ub rfl hu) ho.h he.h hbase hfew hline hs hplain⟩
 ·unfold iH at hg
  split at hg
  ·exact qm o
  ·cases hg
 ·obtain ⟨a,vs,rfl,hs⟩:=ty
  cases r
  obtain ⟨its,rv,⟨o,n,ho,hc,hdd,hda⟩,_⟩:=I.list hs
  exact ⟨⟨o,ho,hc⟩,fun b e=>by cases e; exact ⟨o,ho,hdd⟩⟩
theorem ud {o:Expr} {apos cpos:Pos} (hK:X.K=K) (hu:X.A.units+64 < cLine) (ho:QE X o (tF K p ds ds1 d1 f1)) (he:QE X e (tF K p ds1 ds2 d2 f2))
  (hbase:attributeBase o "index" X.env (eval o X.env)=eval o X.env)
  (hfew:((backTo cpos (starEach [e] X.env)).all (fun x=>!x.1) && (backToKw cpos (keywordEach [] X.env)).all (fun x=>x.1.isSome) && decide (([e]:List Expr).length+([]:List Keyword).length+(if ([]:List Keyword).isEmpty then 0 else 1) < 30))=true)
  (hline:(apos.endLine == cpos.line)=true) (hs:starEach [e] X.env=[(false,eval e X.env)]) (hplain:(backTo cpos (starEach [] X.env)).any (·.1)=false) :
  QE X (.Call (.Attribute o "index" apos) [e] [] cpos) (tF K p ds ds2 3 (e2 gP f1 f2)):=by
 subst hK
 refine ⟨rl (Ty:=TyL X.K) F.plainAttrs_list F.slot_list_index F.type_list_index (fun a b t O x H F hg o=>?_) (fun pins s σ H x v I r ty=>?_) (ua rfl hu) ho.h he.h hbase hfew hline hs hplain⟩
 ·unfold gP at hg
  split at hg
  ·exact qm o
  ·cases hg
 ·obtain ⟨a,vs,rfl,hs⟩:=ty
  cases r
  obtain ⟨its,rv,⟨o,n,ho,hc,hdd,hda⟩,_⟩:=I.list hs
  exact ⟨⟨o,ho,hc⟩,fun b e=>by cases e; exact ⟨o,ho,hdd⟩⟩
end
end L2
namespace L2
open PySem PySem.Spec PyProof.Rows Builtin
def fC (l:List Nat):List Nat:=(p8 (l.map fun n:Nat=>(n:Int))).map Int.toNat
theorem G8 (l:List Nat):(l.map fun n:Nat=>(n:Int)).map Int.toNat=l:=by
 rw [List.map_map]
 exact (List.map_congr_left fun a _=>Int.toNat_natCast a).trans (List.map_id _)
theorem jS (l:List Nat):(fC l).Perm l:=by
 have:=(gw (l.map fun n:Nat=>(n:Int))).map Int.toNat
 rw [G8] at this
 exact this
theorem vW {l m:List Nat} (p:m.Perm l) (s:m.Pairwise (·≤·)):m=fC l:=by
 have e:=mz ((p.map fun n:Nat=>(n:Int)).trans (gw _).symm) (List.pairwise_map.mpr (s.imp fun {a b} h=>Int.ofNat_le.mpr h)) (gu _)
 have:=congrArg (List.map Int.toNat) e
 rw [G8] at this
 exact this
theorem tm {l m:List Nat} (p:m.Perm l):fC m=fC l:=by
 unfold fC
 rw [mz ((gw _).trans ((p.map fun n:Nat=>(n:Int)).trans (gw _).symm)) (gu _) (gu _)]
def qy:List D→Option D
 | [.str z]=>grd (z.cps.size < 64) (.list ((fC z.cps.toList).map fun c=>.str (mk1 c)))
 | _=>none
theorem qx:∀ {ss:List Str} {cs:List Nat},ss.Perm (cs.map mk1)→∃ ds:List Nat,ss=ds.map mk1∧ds.Perm cs:=fun {ss cs} p=>by
 refine ⟨ss.map fun x=>x.cps.toList.headD 0,?_,?_⟩
 ·rw [List.map_map]
  refine ((List.map_congr_left fun x hx=>?_).trans (List.map_id _)).symm
  obtain ⟨c,_,rfl⟩:=List.mem_map.mp (p.mem_iff.mp hx)
  rfl
 ·have:=p.map fun x:Str=>x.cps.toList.headD 0
  rw [List.map_map] at this
  refine this.trans (List.Perm.of_eq ?_)
  exact (List.map_congr_left fun a _=>rfl).trans (List.map_id _)
theorem pi:∀ (a:Nat) (l:List Nat),risingS (mk1 a) (l.map mk1)=true→(a :: l).Pairwise (·≤·)
 | a,[],_=>by simp
 | a,b :: l,h=>by
  have h':(!ltCps (mk1 b).cps.toList (mk1 a).cps.toList && risingS (mk1 b) (l.map mk1))=true:=h
  rw [Bool.and_eq_true,Bool.not_eq_true',ltCps_eq] at h'
  have ab:a≤b:=by
   have:=of_decide_eq_false h'.1
   rcases Nat.lt_or_ge b a with q | q
   ·exact absurd (List.Lex.rel q) this
   ·exact q
  have ih:=pi b l h'.2
  rw [List.pairwise_cons]
  refine ⟨fun x hx=>?_,ih⟩
  rcases List.mem_cons.mp hx with rfl | hx
  ·exact ab
  ·exact Nat.le_trans ab ((List.pairwise_cons.mp ih).1 x hx)
theorem uB:∀ {l:List Nat},sortedS (l.map mk1)=true→l.Pairwise (·≤·)
 | [],_=>.nil
 | a :: l,h=>pi a l h
section
variable {prog:Program} {w:World} {A:Around} {E:Value→Shared→Prop} {s:Shared}
theorem rA {z:Str} {t:Tok} {Q:Value→Shared→Prop} (hh:A.handled=none) (h64:z.cps.size < 64)
  (h:∀ (h1 h2:Heap) (tk:Nat) (out:Array Value) (e:Nat),(∀ b o,s.heap.get? b=some o→h1.get? b=some o)→(∀ b o,h1.get? b=some o→h2.get? b=some o)→h2.get? h1.objs.size=some (seqObj "list" out e)→StrsAre out.toList ((fC z.cps.toList).map mk1)→Q (.ref h1.objs.size) { s with heap:=h2,toks:=tk }) :
  wpAny (model prog w) A (call (.builtin "sorted") [.str z t]) Q E s:=by
 refine Calls.call_function_entry kind_sorted plain_sorted entry_sorted (args_sorted1 _) ?_
 unfold Builtin.«sorted»
 refine wpAny_bind (m:=checkCount "sorted" 1 1 _) (wpAny_pure ?_)
 refine wpAny_bind (wpAny_collect_str (A:=A.in1) hh z t (fun s' acc hk hg hd ho hacc=>?_) (Nat.le_of_lt (kT (by omega))))
 have hl:acc.toList.length=z.cps.size:=by rw [Array.length_toList,hacc.1]
 refine wpAny_bind (wpAny_newList ?_ (by rw [hl]; exact Nat.le_of_lt (kT (by omega))))
 have hS:StrsAre acc.toList (z.cps.toList.map mk1):=by
  refine jR (jm ?_ fun i x v a b=>?_)
  ·rw [List.length_map,List.length_map,Array.length_toList,Array.length_toList,hacc.1]
  ·obtain ⟨c,tk',hcv,rfl⟩:=hacc.2 i v (by simpa using b)
   rw [List.getElem?_map,List.getElem?_map] at a
   have e:z.cps.toList[i]?=some c:=by simpa using hcv
   rw [e] at a
   cases a
   exact ⟨_,rfl⟩
 have hoL:(s'.heap.push (seqObj "list" acc.toList.toArray 0)).get? s'.heap.objs.size=some (seqObj "list" acc.toList.toArray 0):=Heap.get?_push_size _ rfl
 refine wpAny_bind (wpAny_holding (wpAny_call_entry slot_list_sort ⟨_,hoL,rfl⟩ entry_list_sort (list_sort_treeK strKind_oneLt hoL hS.keysOf (fun v₁ v₂ rest e=>keyKind_strs (by rw [← e]; exact hS)) (by omega) fun st' a1 a2=>⟨_,rfl,?_⟩) (args_list_sort _)))
 refine wpAny_pure ⟨_,rfl,?_⟩
 obtain ⟨h1,g1,d1,t1,o1⟩:=s'
 have e1:g1=s.gens:=hg
 have e2:d1=s.drawn:=hd
 have e3:o1=s.os:=ho
 subst e1 e2 e3
 obtain ⟨ss,b1,b2,b3⟩:=sorted_out_str hS a1 a2
 obtain ⟨ds,rfl,b4⟩:=qx b2
 have b5:=vW b4 (uB b3)
 obtain ⟨e,he⟩:=sortedHeap_at (out:=(arrOf st').map (·.2)) hoL
 rw [b5] at b1
 refine h h1 _ t1 _ e hk (fun b o q=>?_) he b1
 have hb:=Heap.lt_size q
 show (sortedHeap (h1.push _) _ _ _).get? b=_
 rw [sortedHeap_old (Nat.ne_of_lt hb) (by rw [size_push']; exact Nat.lt_succ_of_lt hb)]
 exact Heap.get?_push_of_some _ q
end
section
variable {X:Cx} {K:PySem.W.Frag}
theorem oz {O:AS} {H:Hp}:∀ l:List Str,Ows K O H (l.map .str) 0 (l.map V.str) NoA
 | []=>rfl
 | x :: l=>⟨.str x,l.map V.str,NoA,NoA,rfl,fun _ z=>z,fun _ z=>z,fun _ z=>z.elim,rfl,oz l⟩
theorem pb:∀ {ys:List Str} {us:List Value},StrsAre us ys→Vals (ys.map V.str) us
 | _,_,.nil=>.nil
 | _,_,.cons x t h=>.cons ⟨t,rfl⟩ (pb h)
theorem j9 (hK:X.K=K) (hc:X.calm=true):CallR X (.builtin "sorted") (rFn K qy 1):=by
 subst hK
 intro pins s σ H xs us Q I r ⟨O,as,t,oa,hd,hr,k⟩
 match as,hr with
 | [.str z],hr =>
  obtain ⟨c,rfl⟩:=cw hr
  obtain ⟨v,rfl,o⟩:=oa.one
  have ev:v=.str z:=o
  subst ev
  obtain ⟨u,rfl,tk,rfl⟩:=dm r
  refine rA (I.ok.hd hc) c fun h1 h2 tk out e k1 k2 ho hS=>?_
  have I1:=I.kept (t':=tk) k1
  have hl:(fC z.cps.toList).length=z.cps.size:=(jS _).length_eq.trans Array.length_toList
  have em:(fC z.cps.toList).map (fun c=>PyData.str (mk1 c))=((fC z.cps.toList).map mk1).map PyData.str:=by rw [List.map_map]; rfl
  rw [em] at k
  have rv:Vals (((fC z.cps.toList).map mk1).map V.str) out.toList:=pb hS
  have hp:H h1.objs.size=none:=I1.hok.fresh (Nat.le_refl _)
  refine ⟨.ref _,_,I1.laid (a:=h1.objs.size) (o:=.lst (((fC z.cps.toList).map mk1).map V.str)) (t':=tk) k2 (Nat.le_refl _) ?_,rfl,k _ _ _ (fF hp hd (oz (K:=X.K) _)).1 (fF hp hd (oz (K:=X.K) _)).2⟩
  refine ⟨by rw [List.length_map,List.length_map,hl]; exact Nat.le_of_lt (kT (by omega)),out.toList,e,rv,?_⟩
  rw [show out.toList.toArray=out from rfl]
  exact ho
def CJ:V→List V→Hp→VK→Prop:=fun x xs H Q=>∃ z y,x=.str z∧xs=[.str y]∧Q (.int (Txt.find z y)) H
theorem Dy:MtR X "str.find" CJ:=by
 intro pins s σ H x xs v us Q I rx rs h
 obtain ⟨z,y,rfl,rfl,q⟩:=h
 obtain ⟨t,rfl⟩:=rx
 obtain ⟨u,rfl,ru⟩:=dm rs
 obtain ⟨t2,rfl⟩:=ru
 exact SC.find ⟨.int (Txt.find z y),H,I.tok _,⟨_,rfl⟩,q⟩
def qf:Str→List D→Option D
 | z,[.str y]=>some (.int (Txt.find z y))
 | _,_=>none
theorem D4:MtF K CJ qf where
 h:=fun {O H z ts xs t Q} o hg q=>by
  unfold qf at hg
  split at hg
  ·next y =>
   cases hg
   exact ⟨z,y,rfl,qF o,q _ rfl⟩
  ·cases hg
end
section
variable {X:Cx} {K:PySem.W.Frag} {a b:Expr} {rest:List Expr} {pos:Pos} {ta tb:TE} {p p1 p2:Bool} {ds ds1:List Nat} {f1 f2:ME} {σ:St} {H:Hp} {Q:VK}
def Gv (ta tb:TE):TE:=fun σ H Q=>ta σ H fun x H1=>∃ z,x=.str z∧z.length≤sizeLine∧if z.length=0 then tb σ H1 Q else Q x H1
theorem G0 (ha:PE X a ta) (hb:PE X (.BoolOp .Or (b :: rest) pos) tb):PE X (.BoolOp .Or (a :: b :: rest) pos) (Gv ta tb):=by
 intro pins s σ H Q I h
 refine BoolOp_or (thn (ha pins s σ H _ I h) fun v s1 ⟨x,H1,I1,r1,q1⟩=>?_)
 obtain ⟨z,rfl,hz,q1⟩:=q1
 obtain ⟨t,rfl⟩:=r1
 have hs:sizeLine < 2 ^ 62:=by unfold sizeLine; decide
 refine PySem.P.truthy_str (by omega) ?_
 by_cases h0:z.length=0
 ·rw [if_pos h0] at q1
  have e:(((z.length:Nat):Int) != 0)=false:=by rw [h0]; rfl
  rw [e]
  exact hb pins _ σ H1 Q (I1.kept (t':=s1.toks+1+1) fun _ _ e=>e) q1
 ·rw [if_neg h0] at q1
  have e:(((z.length:Nat):Int) != 0)=true:=by rw [bne_iff_ne]; omega
  rw [e]
  exact ⟨.str z,H1,I1.kept (t':=s1.toks+1+1) fun _ _ e=>e,⟨t,rfl⟩,q1⟩
def lj (f g:ME):ME:=fun en=>(f en).bind fun r=>match r.1 with
 | .str z=>if z.length≤sizeLine then (if z.length=0 then g r.2 else some r) else none
 | _=>none
theorem Jv (h:tF K (p1 && p2) ds ds1 0 (lj f1 f2) σ H Q):Gv (tF K p1 ds ds1 0 f1) (tF K p2 ds1 ds1 0 f2) σ H Q:=by
 obtain ⟨Ox,en,R,t,en',e,hf,k⟩:=h
 unfold lj at hf
 obtain ⟨⟨t1,en1⟩,h1,hf⟩:=Option.bind_eq_some_iff.mp hf
 refine ⟨Ox,en,R,t1,en1,e,h1,fun v H1 R1 F1 P1 o1=>?_⟩
 cases t1 with
 | str z =>
  have hf:(if z.length≤sizeLine then (if z.length=0 then f2 en1 else some (.str z,en1)) else none)=some (t,en'):=hf
  by_cases hz:z.length≤sizeLine
  ·rw [if_pos hz] at hf
   refine ⟨z,o1,hz,?_⟩
   by_cases h0:z.length=0
   ·rw [if_pos h0] at hf ⊢
    exact ⟨Ox,en1,R1,t,en',P1.env0,hf,fun v2 H2 R2 F2 P2 o2=>k v2 H2 R2 F2 (P1.after P2) o2⟩
   ·rw [if_neg h0] at hf ⊢
    cases hf
    exact k _ H1 R1 F1 ⟨P1.env,P1.fx,P1.keep,P1.own,P1.dom,fun hp=>P1.pure (by cases p1 <;> simp_all)⟩ o1
  ·rw [if_neg hz] at hf
   cases hf
 | _=>cases hf
theorem HY (ha:PE X a (tF K p ds ds1 0 f1)) (hb:PE X (.BoolOp .Or (b :: rest) pos) (tF K p ds1 ds1 0 f2)):PE X (.BoolOp .Or (a :: b :: rest) pos) (tF K p ds ds1 0 (lj f1 f2)) :=
 (G0 ha hb).imp fun _ _ _ h=>Jv (by rw [Bool.and_self]; exact h)
theorem xa (ha:QE X a (tF K p ds ds1 0 f1)) (hb:QE X (.BoolOp .Or (b :: rest) pos) (tF K p ds1 ds1 0 f2)):QE X (.BoolOp .Or (a :: b :: rest) pos) (tF K p ds ds1 0 (lj f1 f2)):=⟨HY ha.h hb.h⟩
end
end L2
namespace W39
open PySem L2
def top (i:Nat):Stmt:=PySem.Challenge.pw_wordrules_k39_words_and_rules_exchanged.main.body.getD i (.Pass ⟨0,0,0,0⟩)
structure Bl (mg:Str→Option Value):Prop where
 ValueError0:mg "ValueError"=none
 all0:mg "all"=none
 int0:mg "int"=none
 isinstance0:mg "isinstance"=none
 len0:mg "len"=none
 list0:mg "list"=none
 max0:mg "max"=none
 ord0:mg "ord"=none
 range0:mg "range"=none
 set0:mg "set"=none
 sorted0:mg "sorted"=none
 str0:mg "str"=none
 sum0:mg "sum"=none
 tuple0:mg "tuple"=none
section
variable {P:Program} {w:World} {K:PySem.W.Frag} {mg:Str→Option Value} {base:Heap} {f:Addr} {fd:FuncData}
def kn0:List Str:=["NoTongue"]
def jD:List Str:=[]
def kP:List Str:=[]
def iO:List Str:=[]
def jC:List Str:=[]
def iN:List Str:=[]
def iM:List Str:=[]
def gt:List Str:=[]
def e8:List Str:=[]
def iL:List Str:=[]
def gq:List Str:=["NoTongue"]
def iK:List Str:=[]
def ig:List Str:=[]
def ie:List Str:=[]
def e7:List Str:=["NoTongue"]
abbrev mU:Stmt:=top 22
abbrev rH:List Str:=["sign", "code"]
theorem scis_sign:FnScope rH ["sign"] (av mU):=⟨rfl,rfl,rfl,by decide +kernel,rfl,by decide +kernel,by decide +kernel⟩
def gi:MS:=(au (aC 1 (eN qH (ad (ah 0) ak)))
 (aQ (ki (fV leI leI (eC (.int 33)) (ah 1) (eC (.int 126))) (e2 neD (ah 1) (eC (.int 37))))))
def dB:List D→Option (D × En):=fnF 1 [0] gi
theorem uK {k:Nat} (T:Bl mg) {oo:Tok} (pX:mg "LOWEST_CODE"=some (.int 33 oo)) {m7:Tok} (oN:mg "HIGHEST_CODE"=some (.int 126 m7)) {m6:Tok} (oM:mg "PERCENT_CODE"=some (.int 37 m6))  (F:Fun K "is_sign" "is_sign" mU f fd):FnOk P w K mg base CX0 (k+1) f fd ["sign"] (spF K [0] 3 dB):=by
 have nd:=scis_sign.nd
 refine F.okQ (N:=rH) (b:=gi) (J:=⟨[],[0,0],3,[]⟩) (ds0:=[0,0]) scis_sign rfl rfl rfl rfl fun cdv A outer s H E hr=>?_
 exact (aj (aq (i:=1) (d:=0) (ds':=[0,0]) nd rfl (.inl rfl) (am (d':=0) (aU HQ rfl T.ord0 (by decide +kernel) (aa (ac (i:=0) rfl (.inl rfl) rfl rfl rfl) ae rfl) rfl (by decide) rfl rfl rfl) (by decide)) rfl (by decide) (by decide) rfl (.inl rfl))
  (ao (aw (mM (uf jj jj (fI rfl pX rfl) (ac (i:=1) rfl (.inl rfl) rfl rfl rfl) (fI rfl oN rfl) (by with_unfolding_all rfl)) (kd (ei (ji (K:=K) rfl hr.units) (ac (i:=1) rfl (.inl rfl) rfl rfl rfl) (fI rfl oM rfl) (aP _)))) rfl)))
abbrev kt:Stmt:=top 23
abbrev mW:List Str:=["thing"]
theorem scis_kind:FnScope mW ["thing"] (av kt):=⟨rfl,rfl,rfl,by decide +kernel,rfl,by decide +kernel,by decide +kernel⟩
def kG:ME:=(ay dB (ad (ah 0) ak))
def gj:MS:=(au (sIf (bOr (eQ (tV (e1 (aN "str") (ah 0)))) (eQ (tV (fV leI leI (eC (.int 1)) (eN cu (ad (ah 0) ak)) (eC (.int 6)))))) (aQ (eC (.bool false))) br)
 (aQ (eN mT (ad (eLC true (cQ (ah 0)) (gN 0) cY kG [none]) ak))))
def bR:List D→Option (D × En):=fnF 0 [0] gj
theorem uL {k:Nat} (T:Bl mg) {je:Tok} (jp:mg "MOST_SIGNS_OF_A_KIND"=some (.int 6 je)) (xB:Kn P w K mg base k "is_sign" ["sign"] (spF K [0] 3 dB)) (F:Fun K "is_kind" "is_kind" kt f fd):FnOk P w K mg base CX0 (k+1) f fd ["thing"] (spF K [0] 3 bR):=by
 have nd:=scis_kind.nd
 refine F.okQ (N:=mW) (b:=gj) (J:=⟨[],[0],3,[]⟩) (ds0:=[0]) scis_kind rfl rfl rfl rfl fun cdv A outer s H E hr=>?_
 exact (aj (aI (ds2:=[0]) (qpt (dL (cx (ce (gf (K:=K) (n:="str") rfl rfl T.isinstance0 rfl T.str0 (by decide +kernel) (by decide) (ac (i:=0) rfl (.inl rfl) rfl rfl rfl) (by decide) rfl rfl rfl rfl) (fun _=>rfl))) (ef (cx (nM jj jj ai (aU (cL (K:=K) rfl) rfl T.len0 (by decide +kernel) (aa (ac (i:=0) rfl (.inl rfl) rfl rfl rfl) ae rfl) rfl (by decide) rfl rfl rfl) (fI rfl jp rfl) (by with_unfolding_all rfl)))))) (ao (aw cN rfl)) aH)
  (ao (aw (aU (vj (K:=K) rfl rfl) rfl T.all0 (by decide +kernel) (aa (am (d':=0) (c9 (cd:=3) (d:=3) (dsi:=[0]) (lk:=[]) (BlkOkC.of (ns:=["sign"]) (js:=[none]) (N0:=mW) (sc0:=av kt) rfl rfl (by decide +kernel)) rfl (bM (K:=K) rfl (ac (i:=0) rfl (.inl rfl) rfl rfl rfl)) (fun _ _ _ _ _=>(aV (i:=0) (ds':=[0]) (show (["sign"]:List Str).Nodup by decide +kernel) rfl (.inl rfl) rfl (by decide) (by decide) (.inr rfl))) (fun _ _ _ _ _=>cc) (fun _ _ _ _ _=>(aW xB hr rfl (aa (ac (i:=0) rfl (.inl rfl) rfl rfl rfl) ae rfl) rfl rfl rfl rfl rfl)) rfl rfl (by decide) rfl (fun _=>rfl)) (by decide)) ae rfl) rfl (by decide) rfl rfl rfl) rfl)))
abbrev ju:Stmt:=top 24
abbrev mj:List Str:=["signs"]
theorem scare_unlike:FnScope mj ["signs"] (av ju):=⟨rfl,rfl,rfl,by decide +kernel,rfl,by decide +kernel,by decide +kernel⟩
def ic:MS:=(aQ (e2 eqD (e1 nz (ah 0)) (eN cu (ad (ah 0) ak))))
def dC:List D→Option (D × En):=fnF 0 [0] ic
theorem qI {k:Nat} (T:Bl mg)   (F:Fun K "are_unlike" "are_unlike" ju f fd):FnOk P w K mg base CX0 (k+1) f fd ["signs"] (spF K [0] 3 dC):=by
 have nd:=scare_unlike.nd
 refine F.okQ (N:=mj) (b:=ic) (J:=⟨[],[0],3,[]⟩) (ds0:=[0]) scare_unlike rfl rfl rfl rfl fun cdv A outer s H E hr=>?_
 exact (ao (aw (ei (bX (K:=K) rfl hr.units) (se (K:=K) rfl rfl rfl T.len0 rfl T.set0 (by decide +kernel) (by decide +kernel) (ac (i:=0) rfl (.inl rfl) rfl rfl rfl) rfl) (aU (cL (K:=K) rfl) rfl T.len0 (by decide +kernel) (aa (ac (i:=0) rfl (.inl rfl) rfl rfl rfl) ae rfl) rfl (by decide) rfl rfl rfl) (aP _)) rfl))
abbrev lC:Stmt:=top 26
abbrev pQ:List Str:=["tongue"]
theorem scsigns_of:FnScope pQ ["tongue"] (av lC):=⟨rfl,rfl,rfl,by decide +kernel,rfl,by decide +kernel,by decide +kernel⟩
def im:MS:=(aQ (eM joinD (eC (.str "")) (ad (ah 0) ak)))
def cA:List D→Option (D × En):=fnF 0 [0] im
theorem tI {k:Nat} (T:Bl mg)   (F:Fun K "signs_of" "signs_of" lC f fd):FnOk P w K mg base CX0 (k+1) f fd ["tongue"] (spF K [0] 3 cA):=by
 have nd:=scsigns_of.nd
 refine F.okQ (N:=pQ) (b:=im) (J:=⟨[],[0],3,[]⟩) (ds0:=[0]) scsigns_of rfl rfl rfl rfl fun cdv A outer s H E hr=>?_
 exact (ao (aw (ci (K:=K) rfl PySem.F.slot_str_join PySem.F.type_str_join (dH rfl) dM az (aa (ac (i:=0) rfl (.inl rfl) rfl rfl rfl) ae rfl) rfl rfl rfl rfl rfl rfl) rfl))
abbrev iD:Stmt:=top 25
abbrev kC:List Str:=["thing", "signs"]
theorem scis_tongue:FnScope kC ["thing"] (av iD):=⟨rfl,rfl,rfl,by decide +kernel,rfl,by decide +kernel,by decide +kernel⟩
def fA:ME:=(ay bR (ad (ah 0) ak))
def cT:MS:=(au (sIf (bOr (eQ (tV (e1 (aN "tuple") (ah 0)))) (eQ (tV (fV leI leI (eC (.int 1)) (eN cu (ad (ah 0) ak)) (eC (.int 4)))))) (aQ (eC (.bool false))) br)
 (au (sIf (eQ (tV (eN mT (ad (eLC true (cQ (ah 0)) (gN 0) cY fA [none]) ak)))) (aQ (eC (.bool false))) br)
 (au (aC 1 (ay cA (ad (ah 0) ak)))
 (aQ (ki (e2 leI (eN cu (ad (ah 1) ak)) (eC (.int 12))) (ay dC (ad (ah 1) ak)))))))
def ba:List D→Option (D × En):=fnF 1 [0] cT
theorem rP {k:Nat} (T:Bl mg) {pT:Tok} (rb:mg "MOST_SIGNS"=some (.int 12 pT)) {pU:Tok} (rd:mg "MOST_KINDS"=some (.int 4 pU)) (ik:Kn P w K mg base k "signs_of" ["tongue"] (spF K [0] 3 cA)) (sk:Kn P w K mg base k "are_unlike" ["signs"] (spF K [0] 3 dC)) (xC:Kn P w K mg base k "is_kind" ["thing"] (spF K [0] 3 bR)) (F:Fun K "is_tongue" "is_tongue" iD f fd):FnOk P w K mg base CX0 (k+1) f fd ["thing"] (spF K [0] 3 ba):=by
 have nd:=scis_tongue.nd
 refine F.okQ (N:=kC) (b:=cT) (J:=⟨[],[0,0],3,[]⟩) (ds0:=[0,0]) scis_tongue rfl rfl rfl rfl fun cdv A outer s H E hr=>?_
 exact (aj (aI (ds2:=[0,0]) (qpt (dL (cx (ce (gf (K:=K) (n:="tuple") rfl rfl T.isinstance0 rfl T.tuple0 (by decide +kernel) (by decide) (ac (i:=0) rfl (.inl rfl) rfl rfl rfl) (by decide) rfl rfl rfl rfl) (fun _=>rfl))) (ef (cx (nM jj jj ai (aU (cL (K:=K) rfl) rfl T.len0 (by decide +kernel) (aa (ac (i:=0) rfl (.inl rfl) rfl rfl rfl) ae rfl) rfl (by decide) rfl rfl rfl) (fI rfl rd rfl) (by with_unfolding_all rfl)))))) (ao (aw cN rfl)) aH)
  (aj (aI (ds2:=[0,0]) (cx (ce (aU (vj (K:=K) rfl rfl) rfl T.all0 (by decide +kernel) (aa (am (d':=0) (c9 (cd:=3) (d:=3) (dsi:=[0]) (lk:=[]) (BlkOkC.of (ns:=["kind"]) (js:=[none]) (N0:=kC) (sc0:=av iD) rfl rfl (by decide +kernel)) rfl (bM (K:=K) rfl (ac (i:=0) rfl (.inl rfl) rfl rfl rfl)) (fun _ _ _ _ _=>(aV (i:=0) (ds':=[0]) (show (["kind"]:List Str).Nodup by decide +kernel) rfl (.inl rfl) rfl (by decide) (by decide) (.inr rfl))) (fun _ _ _ _ _=>cc) (fun _ _ _ _ _=>(aW xC hr rfl (aa (ac (i:=0) rfl (.inl rfl) rfl rfl rfl) ae rfl) rfl rfl rfl rfl rfl)) rfl rfl (by decide) rfl (fun _=>rfl)) (by decide)) ae rfl) rfl (by decide) rfl rfl rfl) (fun _=>rfl))) (ao (aw cN rfl)) aH)
  (aj (aq (i:=1) (d:=0) (ds':=[0,0]) nd rfl (.inl rfl) (am (d':=0) (aW ik hr rfl (aa (ac (i:=0) rfl (.inl rfl) rfl rfl rfl) ae rfl) rfl rfl rfl rfl rfl) (by decide)) rfl (by decide) (by decide) rfl (.inl rfl))
  (ao (aw (mM (ei jj (aU (cL (K:=K) rfl) rfl T.len0 (by decide +kernel) (aa (ac (i:=1) rfl (.inl rfl) rfl rfl rfl) ae rfl) rfl (by decide) rfl rfl rfl) (fI rfl rb rfl) (aP _)) (kd (aW sk hr rfl (aa (ac (i:=1) rfl (.inl rfl) rfl rfl rfl) ae rfl) rfl rfl rfl rfl rfl))) rfl)))))
abbrev lZ:Stmt:=top 27
abbrev oY:List Str:=["tongue", "word", "signs"]
theorem scrow_of:FnScope oY ["tongue", "word"] (av lZ):=⟨rfl,rfl,rfl,by decide +kernel,rfl,by decide +kernel,by decide +kernel⟩
def pS:ME:=(eM nJ (ah 1) (ad (ah 0) ak))
def oZ:MS:=(au (aC 2 (ay cA (ad (ah 0) ak)))
 (aQ (eLC true (cQ (ah 1)) (gN 0) cY pS [none,some 2])))
def iJ:List D→Option (D × En):=fnF 1 [0,0] oZ
theorem wl {k:Nat} (T:Bl mg)  (ik:Kn P w K mg base k "signs_of" ["tongue"] (spF K [0] 3 cA)) (F:Fun K "row_of" "row_of" lZ f fd):FnOk P w K mg base CX0 (k+1) f fd ["tongue", "word"] (spF K [0,0] 3 iJ):=by
 have nd:=scrow_of.nd
 refine F.okQ (N:=oY) (b:=oZ) (J:=⟨[],[0,0,0],3,[]⟩) (ds0:=[0,0,0]) scrow_of rfl rfl rfl rfl fun cdv A outer s H E hr=>?_
 exact (aj (aq (i:=2) (d:=0) (ds':=[0,0,0]) nd rfl (.inr rfl) (am (d':=0) (aW ik hr rfl (aa (ac (i:=0) rfl (.inl rfl) rfl rfl rfl) ae rfl) rfl rfl rfl rfl rfl) (by decide)) rfl (by decide) (by decide) rfl (.inl rfl))
  (ao (aw (c9 (cd:=3) (d:=3) (dsi:=[0,0]) (lk:=[1]) (BlkOkC.of (ns:=["sign", "signs"]) (js:=[none,some 2]) (N0:=oY) (sc0:=av lZ) rfl rfl (by decide +kernel)) rfl (bM (K:=K) rfl (ac (i:=1) rfl (.inl rfl) rfl rfl rfl)) (fun _ _ _ _ _=>(aV (i:=0) (ds':=[0,0]) (show (["sign", "signs"]:List Str).Nodup by decide +kernel) rfl (.inl rfl) rfl (by decide) (by decide) (.inr rfl))) (fun _ _ _ _ _=>cc) (fun _ _ _ _ _=>(ci (K:=K) rfl PySem.F.slot_str_index PySem.F.type_str_index wo wY (ac (i:=1) rfl (.inr (.inl rfl)) rfl rfl rfl) (aa (ac (i:=0) rfl (.inl rfl) rfl rfl rfl) ae rfl) rfl rfl rfl rfl rfl rfl)) rfl rfl (by decide) rfl (fun _=>rfl)) rfl)))
abbrev kq:Stmt:=top 28
abbrev mV:List Str:=["tongue", "row", "signs"]
theorem scword_of:FnScope mV ["tongue", "row"] (av kq):=⟨rfl,rfl,rfl,by decide +kernel,rfl,by decide +kernel,by decide +kernel⟩
def oi:ME:=(e2 ixT (ah 1) (ah 0))
def m4:MS:=(au (aC 2 (ay cA (ad (ah 0) ak)))
 (aQ (eM joinD (eC (.str "")) (ad (eLC true (cQ (ah 1)) (gN 0) cY oi [none,some 2]) ak))))
def hW:List D→Option (D × En):=fnF 1 [0,0] m4
theorem uJ {k:Nat} (T:Bl mg)  (ik:Kn P w K mg base k "signs_of" ["tongue"] (spF K [0] 3 cA)) (F:Fun K "word_of" "word_of" kq f fd):FnOk P w K mg base CX0 (k+1) f fd ["tongue", "row"] (spF K [0,0] 3 hW):=by
 have nd:=scword_of.nd
 refine F.okQ (N:=mV) (b:=m4) (J:=⟨[],[0,0,0],3,[]⟩) (ds0:=[0,0,0]) scword_of rfl rfl rfl rfl fun cdv A outer s H E hr=>?_
 exact (aj (aq (i:=2) (d:=0) (ds':=[0,0,0]) nd rfl (.inr rfl) (am (d':=0) (aW ik hr rfl (aa (ac (i:=0) rfl (.inl rfl) rfl rfl rfl) ae rfl) rfl rfl rfl rfl rfl) (by decide)) rfl (by decide) (by decide) rfl (.inl rfl))
  (ao (aw (ci (K:=K) rfl PySem.F.slot_str_join PySem.F.type_str_join (dH rfl) dM az (aa (am (d':=0) (c9 (cd:=3) (d:=3) (dsi:=[0,0]) (lk:=[1]) (BlkOkC.of (ns:=["number", "signs"]) (js:=[none,some 2]) (N0:=mV) (sc0:=av kq) rfl rfl (by decide +kernel)) rfl (bM (K:=K) rfl (ac (i:=1) rfl (.inl rfl) rfl rfl rfl)) (fun _ _ _ _ _=>(aV (i:=0) (ds':=[0,0]) (show (["number", "signs"]:List Str).Nodup by decide +kernel) rfl (.inl rfl) rfl (by decide) (by decide) (.inr rfl))) (fun _ _ _ _ _=>cc) (fun _ _ _ _ _=>(aJ eG (ac (i:=1) rfl (.inr (.inl rfl)) rfl rfl rfl) (ac (i:=0) rfl (.inl rfl) rfl rfl rfl) (fun _ _=>rfl))) rfl rfl (by decide) rfl (fun _=>rfl)) (by decide)) ae rfl) rfl rfl rfl rfl rfl rfl) rfl)))
abbrev gD:Stmt:=top 30
abbrev jl:List Str:=["head"]
theorem schow_many_parts:FnScope jl ["head"] (av gD):=⟨rfl,rfl,rfl,by decide +kernel,rfl,by decide +kernel,by decide +kernel⟩
def bi:MS:=(au (sIf (tV (e2 eqD (ah 0) (eC (.str "not")))) (aQ (eC (.int 1))) br)
 (au (sIf (bOr (tV (e2 eqD (ah 0) (eC (.str "both")))) (tV (e2 eqD (ah 0) (eC (.str "either"))))) (aQ (eC (.int 2))) br)
 (aQ (eC (.int 0)))))
def a8:List D→Option (D × En):=fnF 0 [0] bi
theorem mG {k:Nat} (T:Bl mg)   (F:Fun K "how_many_parts" "how_many_parts" gD f fd):FnOk P w K mg base CX0 (k+1) f fd ["head"] (spF K [0] 3 a8):=by
 have nd:=schow_many_parts.nd
 refine F.okQ (N:=jl) (b:=bi) (J:=⟨[],[0],3,[]⟩) (ds0:=[0]) schow_many_parts rfl rfl rfl rfl fun cdv A outer s H E hr=>?_
 exact (aj (aI (ds2:=[0]) (aB (bX (K:=K) rfl hr.units) (ac (i:=0) rfl (.inl rfl) rfl rfl rfl) az (aP _)) (ao (aw ai rfl)) aH)
  (aj (aI (ds2:=[0]) (qpt (dL (aB (bX (K:=K) rfl hr.units) (ac (i:=0) rfl (.inl rfl) rfl rfl rfl) az (aP _)) (ef (aB (bX (K:=K) rfl hr.units) (ac (i:=0) rfl (.inl rfl) rfl rfl rfl) az (aP _))))) (ao (aw ai rfl)) aH)
  (ao (aw ai rfl))))
abbrev bx:Stmt:=top 34
abbrev bP:List Str:=["tongue", "other"]
theorem screfuse_other_signs:FnScope bP ["tongue", "other"] (av bx):=⟨rfl,rfl,rfl,by decide +kernel,rfl,by decide +kernel,by decide +kernel⟩
def bq:ME:=(eN qy (ad (ah 0) ak))
def di:MS:=(sIf (bOr (eQ (tV (ay ba (ad (ah 1) ak)))) (tV (e2 neD (eLC true (cQ (ah 1)) (gN 0) cY bq [none]) (eLC true (cQ (ah 0)) (gN 0) cY bq [none])))) iS br)
def bd:List D→Option (D × En):=fnF 0 [0,0] di
theorem jW {k:Nat} (T:Bl mg)  (kE:Kn P w K mg base k "is_tongue" ["thing"] (spF K [0] 3 ba)) (F:Fun K "refuse_other_signs" "refuse_other_signs" bx f fd):FnOk P w K mg base CX0 (k+1) f fd ["tongue", "other"] (spF K [0,0] 3 bd):=by
 have nd:=screfuse_other_signs.nd
 refine F.okQ (N:=bP) (b:=di) (J:=⟨[],[0,0],3,[]⟩) (ds0:=[0,0]) screfuse_other_signs rfl rfl rfl rfl fun cdv A outer s H E hr=>?_
 exact (ao (aI (ds2:=[0,0]) (qpt (dL (cx (ce (aW kE hr rfl (aa (ac (i:=1) rfl (.inl rfl) rfl rfl rfl) ae rfl) rfl rfl rfl rfl rfl) (fun _=>rfl))) (ef (aB (ji (K:=K) rfl hr.units) (c9 (cd:=1) (d:=2) (dsi:=[0]) (lk:=[]) (BlkOkC.of (ns:=["kind"]) (js:=[none]) (N0:=bP) (sc0:=av bx) rfl rfl (by decide +kernel)) rfl (bM (K:=K) rfl (ac (i:=1) rfl (.inl rfl) rfl rfl rfl)) (fun _ _ _ _ _=>(aV (i:=0) (ds':=[0]) (show (["kind"]:List Str).Nodup by decide +kernel) rfl (.inl rfl) rfl (by decide) (by decide) (.inr rfl))) (fun _ _ _ _ _=>cc) (fun _ _ _ _ _=>(aU (j9 (K:=K) rfl rfl) rfl T.sorted0 (by decide +kernel) (aa (ac (i:=0) rfl (.inl rfl) rfl rfl rfl) ae rfl) rfl (by decide) rfl rfl rfl)) rfl rfl (by decide) rfl (fun _=>rfl)) (c9 (cd:=1) (d:=2) (dsi:=[0]) (lk:=[]) (BlkOkC.of (ns:=["kind"]) (js:=[none]) (N0:=bP) (sc0:=av bx) rfl rfl (by decide +kernel)) rfl (bM (K:=K) rfl (ac (i:=0) rfl (.inl rfl) rfl rfl rfl)) (fun _ _ _ _ _=>(aV (i:=0) (ds':=[0]) (show (["kind"]:List Str).Nodup by decide +kernel) rfl (.inl rfl) rfl (by decide) (by decide) (.inr rfl))) (fun _ _ _ _ _=>cc) (fun _ _ _ _ _=>(aU (j9 (K:=K) rfl rfl) rfl T.sorted0 (by decide +kernel) (aa (ac (i:=0) rfl (.inl rfl) rfl rfl rfl) ae rfl) rfl (by decide) rfl rfl rfl)) rfl rfl (by decide) rfl (fun _=>rfl)) (aP _))))) (ao sd) aH))
def cU:MN:=(nIf (bOr (eQ (tV (ay ba (ad (ah 1) ak)))) (tV (e2 neD (eLC true (cQ (ah 1)) (gN 0) cY bq [none]) (eLC true (cQ (ah 0)) (gN 0) cY bq [none])))) (He "NoTongue") nNo)
def bJ:List D→Option Str:=fnN 0 cU
theorem kh {k:Nat} (T:Bl mg)  (kE:Kn P w K mg base k "is_tongue" ["thing"] (spF K [0] 3 ba)) (m_NoTongue:mg "NoTongue"=some (.ref (clK K "NoTongue"))) (x_NoTongue:PySem.W.excIn K (clK K "NoTongue") vE "ValueError.__new__"=true) (F:Fun K "refuse_other_signs" "refuse_other_signs" bx f fd):FnOk P w K mg base (CXr P w) (k+1) f fd ["tongue", "other"] (spN K [0,0] (clK K) bJ):=by
 have nd:=screfuse_other_signs.nd
 refine F.okN (N:=bP) (b:=cU) (ds0:=[0,0]) screfuse_other_signs rfl rfl rfl fun cdv A outer s H E hr R O=>?_
 exact (nO (Jj (p:=false) (qpt (dL (cx (ce (aW kE hr rfl (aa (ac (i:=1) rfl (.inl rfl) rfl rfl rfl) ae rfl) rfl rfl rfl rfl rfl) (fun _=>rfl))) (ef (aB (ji (K:=K) rfl hr.units) (c9 (cd:=1) (d:=2) (dsi:=[0]) (lk:=[]) (BlkOkC.of (ns:=["kind"]) (js:=[none]) (N0:=bP) (sc0:=av bx) rfl rfl (by decide +kernel)) rfl (bM (K:=K) rfl (ac (i:=1) rfl (.inl rfl) rfl rfl rfl)) (fun _ _ _ _ _=>(aV (i:=0) (ds':=[0]) (show (["kind"]:List Str).Nodup by decide +kernel) rfl (.inl rfl) rfl (by decide) (by decide) (.inr rfl))) (fun _ _ _ _ _=>cc) (fun _ _ _ _ _=>(aU (j9 (K:=K) rfl rfl) rfl T.sorted0 (by decide +kernel) (aa (ac (i:=0) rfl (.inl rfl) rfl rfl rfl) ae rfl) rfl (by decide) rfl rfl rfl)) rfl rfl (by decide) rfl (fun _=>rfl)) (c9 (cd:=1) (d:=2) (dsi:=[0]) (lk:=[]) (BlkOkC.of (ns:=["kind"]) (js:=[none]) (N0:=bP) (sc0:=av bx) rfl rfl (by decide +kernel)) rfl (bM (K:=K) rfl (ac (i:=0) rfl (.inl rfl) rfl rfl rfl)) (fun _ _ _ _ _=>(aV (i:=0) (ds':=[0]) (show (["kind"]:List Str).Nodup by decide +kernel) rfl (.inl rfl) rfl (by decide) (by decide) (.inr rfl))) (fun _ _ _ _ _=>cc) (fun _ _ _ _ _=>(aU (j9 (K:=K) rfl rfl) rfl T.sorted0 (by decide +kernel) (aa (ac (i:=0) rfl (.inl rfl) rfl rfl rfl) ae rfl) rfl (by decide) rfl rfl rfl)) rfl rfl (by decide) rfl (fun _=>rfl)) (aP _))))) (nO (wX R PySem.F.excBase_ValueError x_NoTongue rfl m_NoTongue rfl)) Ji))
abbrev kw:Stmt:=top 35
abbrev nZ:List Str:=["tongue", "other", "text"]
theorem scexchanged:FnScope nZ ["tongue", "other", "text"] (av kw):=⟨rfl,rfl,rfl,by decide +kernel,rfl,by decide +kernel,by decide +kernel⟩
def kH:MS:=(aQ (ay hW (ad (ah 1) (ad (ay iJ (ad (ah 0) (ad (ah 2) ak))) ak))))
def cJ:List D→Option (D × En):=fnF 0 [0,0,0] kH
theorem rQ {k:Nat} (T:Bl mg)  (xA:Kn P w K mg base k "word_of" ["tongue", "row"] (spF K [0,0] 3 hW)) (Es:Kn P w K mg base k "row_of" ["tongue", "word"] (spF K [0,0] 3 iJ)) (F:Fun K "exchanged" "exchanged" kw f fd):FnOk P w K mg base CX0 (k+1) f fd ["tongue", "other", "text"] (spF K [0,0,0] 3 cJ):=by
 have nd:=scexchanged.nd
 refine F.okQ (N:=nZ) (b:=kH) (J:=⟨[],[0,0,0],3,[]⟩) (ds0:=[0,0,0]) scexchanged rfl rfl rfl rfl fun cdv A outer s H E hr=>?_
 exact (ao (aw (aW xA hr rfl (aa (ac (i:=1) rfl (.inl rfl) rfl rfl rfl) (aa (am (d':=0) (aW Es hr rfl (aa (ac (i:=0) rfl (.inl rfl) rfl rfl rfl) (aa (ac (i:=2) rfl (.inl rfl) rfl rfl rfl) ae rfl) rfl) rfl rfl rfl rfl rfl) (by decide)) ae rfl) rfl) rfl rfl rfl rfl rfl) rfl))
abbrev eV:Stmt:=top 32
abbrev gF:List Str:=["tongue", "other", "word"]
theorem scexchanged_word:FnScope gF ["tongue", "other", "word"] (av eV):=⟨rfl,rfl,rfl,by decide +kernel,rfl,by decide +kernel,by decide +kernel⟩
def gI:MS:=(au (dF (ay bd (ad (ah 0) (ad (ah 1) ak))))
 (aQ (ay cJ (ad (ah 0) (ad (ah 1) (ad (ah 2) ak))))))
def bF:List D→Option (D × En):=fnF 0 [0,0,0] gI
theorem mH {k:Nat} (T:Bl mg)  (cE:Kn P w K mg base k "refuse_other_signs" ["tongue", "other"] (spF K [0,0] 3 bd)) (gH:Kn P w K mg base k "exchanged" ["tongue", "other", "text"] (spF K [0,0,0] 3 cJ)) (F:Fun K "exchanged_word" "exchanged_word" eV f fd):FnOk P w K mg base CX0 (k+1) f fd ["tongue", "other", "word"] (spF K [0,0,0] 3 bF):=by
 have nd:=scexchanged_word.nd
 refine F.okQ (N:=gF) (b:=gI) (J:=⟨[],[0,0,0],3,[]⟩) (ds0:=[0,0,0]) scexchanged_word rfl rfl rfl rfl fun cdv A outer s H E hr=>?_
 exact (aj (cz (aW cE hr rfl (aa (ac (i:=0) rfl (.inl rfl) rfl rfl rfl) (aa (ac (i:=1) rfl (.inl rfl) rfl rfl rfl) ae rfl) rfl) rfl rfl rfl rfl rfl) rfl)
  (ao (aw (aW gH hr rfl (aa (ac (i:=0) rfl (.inl rfl) rfl rfl rfl) (aa (ac (i:=1) rfl (.inl rfl) rfl rfl rfl) (aa (ac (i:=2) rfl (.inl rfl) rfl rfl rfl) ae rfl) rfl) rfl) rfl rfl rfl rfl rfl) rfl)))
def eA:MN:=(ia bJ (ad (ah 0) (ad (ah 1) ak)))
def de:List D→Option Str:=fnN 0 eA
theorem mP {k:Nat} (T:Bl mg)  (cE:Kn P w K mg base k "refuse_other_signs" ["tongue", "other"] (spF K [0,0] 3 bd)) (gH:Kn P w K mg base k "exchanged" ["tongue", "other", "text"] (spF K [0,0,0] 3 cJ)) (GNrefuse_other_signs:KnX P w K mg base k "refuse_other_signs" ["tongue", "other"] (spN K [0,0] (clK K) bJ)) (F:Fun K "exchanged_word" "exchanged_word" eV f fd):FnOk P w K mg base (CXr P w) (k+1) f fd ["tongue", "other", "word"] (spN K [0,0,0] (clK K) de):=by
 have nd:=scexchanged_word.nd
 refine F.okN (N:=gF) (b:=eA) (ds0:=[0,0,0]) scexchanged_word rfl rfl rfl fun cdv A outer s H E hr R O=>?_
 exact (nO (rj O GNrefuse_other_signs hr rfl (aa (ac (i:=0) rfl (.inl rfl) rfl rfl rfl) (aa (ac (i:=1) rfl (.inl rfl) rfl rfl rfl) ae rfl) rfl) rfl rfl rfl rfl))
abbrev dg:Stmt:=top 36
abbrev eS:List Str:=["tongue", "other", "sentence", "head"]
theorem scexchanged_sentence:FnScope eS ["tongue", "other", "sentence"] (av dg):=⟨rfl,rfl,rfl,by decide +kernel,rfl,by decide +kernel,by decide +kernel⟩
def cO (self:List D→Option (D × En)):ME:=(ay self (ad (ah 1) (ad (ah 2) (ad (ah 0) ak))))
def aS (self:List D→Option (D × En)):MS:=(au (aC 3 (e2 ixA (ah 2) (eC (.int 0))))
 (au (sIf (tV (e2 gtI (ay a8 (ad (ah 3) ak)) (eC (.int 0)))) (aQ (eN iP (ad (e2 km (bO (ad (ah 3) ak)) (eLC true (cQ (eSl iq (ah 2) (bW (eC (.int 1))) cq)) (gN 0) cY (cO self) [none,some 0,some 1])) ak))) br)
 (au (sIf (tV (e2 eqD (ah 3) (eC (.str "often")))) (aQ (bw (ad (ah 3) (ad (ay cJ (ad (ah 0) (ad (ah 1) (ad (e2 ixA (ah 2) (eC (.int 1))) ak)))) (ad (e2 ixA (ah 2) (eC (.int 2))) ak))))) br)
 (au (sIf (bOr (tV (e2 eqD (ah 3) (eC (.str "without")))) (bOr (tV (e2 eqD (ah 3) (eC (.str "begins")))) (tV (e2 eqD (ah 3) (eC (.str "ends")))))) (aQ (bw (ad (ah 3) (ad (ay cJ (ad (ah 0) (ad (ah 1) (ad (e2 ixA (ah 2) (eC (.int 1))) ak)))) ak)))) br)
 (aQ (ah 2))))))
def aG:Nat→List D→Option (D × En)
 | 0=>fun _=>none
 | j+1=>fnF 1 [0,0,0] (aS (aG j))
theorem bU {k:Nat} (T:Bl mg)  {self:List D→Option (D × En)} (oh:Kn P w K mg base k "how_many_parts" ["head"] (spF K [0] 3 a8)) (gH:Kn P w K mg base k "exchanged" ["tongue", "other", "text"] (spF K [0,0,0] 3 cJ)) (dh:Kn P w K mg base k "exchanged_sentence" ["tongue", "other", "sentence"] (spF K [0,0,0] 0 self)) (F:Fun K "exchanged_sentence" "exchanged_sentence" dg f fd):FnOk P w K mg base CX0 (k+1) f fd ["tongue", "other", "sentence"] (spF K [0,0,0] 0 (fnF 1 [0,0,0] (aS self))):=by
 have nd:=scexchanged_sentence.nd
 refine F.okQ (N:=eS) (b:=aS self) (J:=⟨[],[0,0,0,0],0,[]⟩) (ds0:=[0,0,0,0]) scexchanged_sentence rfl rfl rfl rfl fun cdv A outer s H E hr=>?_
 exact (aj (aq (i:=3) (d:=0) (ds':=[0,0,0,0]) nd rfl (.inl rfl) (aJ (bA (K:=K) rfl) (ac (i:=2) rfl (.inl rfl) rfl rfl rfl) ai (fun _ _=>rfl)) rfl (by decide) (by decide) rfl (.inl rfl))
  (aj (aI (ds2:=[0,0,0,0]) (aB kc (aW oh hr rfl (aa (ac (i:=3) rfl (.inl rfl) rfl rfl rfl) ae rfl) rfl rfl rfl rfl rfl) ai (aP _)) (ao (aw (bY (gc (K:=K) rfl) rfl T.tuple0 (by decide +kernel) (aa (am (d':=0) (ar (iF (K:=K) rfl) (bc (d:=1) (c:=0) (aa (ac (i:=3) rfl (.inl rfl) rfl rfl rfl) ae rfl) rfl rfl (by decide)) (c9 (cd:=0) (d:=1) (dsi:=[0,0,0]) (lk:=[1,2]) (BlkOkC.of (ns:=["part", "tongue", "other"]) (js:=[none,some 0,some 1]) (N0:=eS) (sc0:=av dg) rfl rfl (by decide +kernel)) rfl (bM (K:=K) rfl (a9 (fU (K:=K) rfl) (ac (i:=2) rfl (.inl rfl) rfl rfl rfl) (be ai) bp)) (fun _ _ _ _ _=>(aV (i:=0) (ds':=[0,0,0]) (show (["part", "tongue", "other"]:List Str).Nodup by decide +kernel) rfl (.inl rfl) rfl (by decide) (by decide) (.inr rfl))) (fun _ _ _ _ _=>cc) (fun _ _ _ _ _=>(aW dh hr rfl (aa (ac (i:=1) rfl (.inr (.inl rfl)) rfl rfl rfl) (aa (ac (i:=2) rfl (.inr (.inl rfl)) rfl rfl rfl) (aa (ac (i:=0) rfl (.inl rfl) rfl rfl rfl) ae rfl) rfl) rfl) rfl rfl rfl rfl rfl)) rfl rfl (by decide) rfl (fun _=>rfl))) (by decide)) ae rfl) rfl (by decide) rfl rfl rfl) rfl)) aH)
  (aj (aI (ds2:=[0,0,0,0]) (aB (bX (K:=K) rfl hr.units) (ac (i:=3) rfl (.inl rfl) rfl rfl rfl) az (aP _)) (ao (aw (aO (d:=0) (c:=0) (aa (ac (i:=3) rfl (.inl rfl) rfl rfl rfl) (aa (aW gH hr rfl (aa (ac (i:=0) rfl (.inr (.inl rfl)) rfl rfl rfl) (aa (ac (i:=1) rfl (.inr (.inl rfl)) rfl rfl rfl) (aa (aJ (bA (K:=K) rfl) (ac (i:=2) rfl (.inl rfl) rfl rfl rfl) ai (fun _ _=>rfl)) ae rfl) rfl) rfl) rfl rfl rfl rfl rfl) (aa (aJ (bA (K:=K) rfl) (ac (i:=2) rfl (.inl rfl) rfl rfl rfl) ai (fun _ _=>rfl)) ae rfl) rfl) rfl) rfl rfl) rfl)) aH)
  (aj (aI (ds2:=[0,0,0,0]) (qpt (dL (aB (bX (K:=K) rfl hr.units) (ac (i:=3) rfl (.inl rfl) rfl rfl rfl) az (aP _)) (dL (aB (bX (K:=K) rfl hr.units) (ac (i:=3) rfl (.inl rfl) rfl rfl rfl) az (aP _)) (ef (aB (bX (K:=K) rfl hr.units) (ac (i:=3) rfl (.inl rfl) rfl rfl rfl) az (aP _)))))) (ao (aw (aO (d:=0) (c:=0) (aa (ac (i:=3) rfl (.inl rfl) rfl rfl rfl) (aa (aW gH hr rfl (aa (ac (i:=0) rfl (.inr (.inl rfl)) rfl rfl rfl) (aa (ac (i:=1) rfl (.inr (.inl rfl)) rfl rfl rfl) (aa (aJ (bA (K:=K) rfl) (ac (i:=2) rfl (.inl rfl) rfl rfl rfl) ai (fun _ _=>rfl)) ae rfl) rfl) rfl) rfl rfl rfl rfl rfl) ae rfl) rfl) rfl rfl) rfl)) aH)
  (ao (aw (ac (i:=2) rfl (.inl rfl) rfl rfl rfl) rfl))))))
abbrev dw:Stmt:=top 33
abbrev eW:List Str:=["rule", "other"]
theorem scexchanged_rule:FnScope eW ["rule", "other"] (av dw):=⟨rfl,rfl,rfl,by decide +kernel,rfl,by decide +kernel,by decide +kernel⟩
def iA:ME:=(ay (aG 6) (ad (e2 ixA (ah 1) (eC (.int 0))) (ad (ah 2) (ad (ah 0) ak))))
def gJ:MS:=(au (dF (ay bd (ad (e2 ixA (ah 0) (eC (.int 0))) (ad (ah 1) ak))))
 (aQ (bw (ad (e2 ixA (ah 0) (eC (.int 0))) (ad (eN iP (ad (eLC true (cQ (e2 ixA (ah 0) (eC (.int 1)))) (gN 0) cY iA [none,some 0,some 1]) ak)) ak)))))
def bG:List D→Option (D × En):=fnF 0 [0,0] gJ
theorem mI {k:Nat} (T:Bl mg)  (cE:Kn P w K mg base k "refuse_other_signs" ["tongue", "other"] (spF K [0,0] 3 bd)) (dh:Kn P w K mg base k "exchanged_sentence" ["tongue", "other", "sentence"] (spF K [0,0,0] 0 (aG 6))) (F:Fun K "exchanged_rule" "exchanged_rule" dw f fd):FnOk P w K mg base CX0 (k+1) f fd ["rule", "other"] (spF K [0,0] 0 bG):=by
 have nd:=scexchanged_rule.nd
 refine F.okQ (N:=eW) (b:=gJ) (J:=⟨[],[0,0],0,[]⟩) (ds0:=[0,0]) scexchanged_rule rfl rfl rfl rfl fun cdv A outer s H E hr=>?_
 exact (aj (cz (aW cE hr rfl (aa (aJ (bA (K:=K) rfl) (ac (i:=0) rfl (.inr (.inl rfl)) rfl rfl rfl) ai (fun _ _=>rfl)) (aa (ac (i:=1) rfl (.inr (.inl rfl)) rfl rfl rfl) ae rfl) rfl) rfl rfl rfl rfl rfl) rfl)
  (ao (aw (aO (d:=0) (c:=0) (aa (aJ (bA (K:=K) rfl) (ac (i:=0) rfl (.inr (.inl rfl)) rfl rfl rfl) ai (fun _ _=>rfl)) (aa (bY (gc (K:=K) rfl) rfl T.tuple0 (by decide +kernel) (aa (am (d':=0) (c9 (cd:=0) (d:=1) (dsi:=[0,0,0]) (lk:=[1,2]) (BlkOkC.of (ns:=["sentence", "rule", "other"]) (js:=[none,some 0,some 1]) (N0:=eW) (sc0:=av dw) rfl rfl (by decide +kernel)) rfl (bM (K:=K) rfl (aJ (bA (K:=K) rfl) (ac (i:=0) rfl (.inr (.inl rfl)) rfl rfl rfl) ai (fun _ _=>rfl))) (fun _ _ _ _ _=>(aV (i:=0) (ds':=[0,0,0]) (show (["sentence", "rule", "other"]:List Str).Nodup by decide +kernel) rfl (.inl rfl) rfl (by decide) (by decide) (.inr rfl))) (fun _ _ _ _ _=>cc) (fun _ _ _ _ _=>(aW dh hr rfl (aa (aJ (bA (K:=K) rfl) (ac (i:=1) rfl (.inr (.inl rfl)) rfl rfl rfl) ai (fun _ _=>rfl)) (aa (ac (i:=2) rfl (.inr (.inl rfl)) rfl rfl rfl) (aa (ac (i:=0) rfl (.inl rfl) rfl rfl rfl) ae rfl) rfl) rfl) rfl rfl rfl rfl rfl)) rfl rfl (by decide) rfl (fun _=>rfl)) (by decide)) ae rfl) rfl (by decide) rfl rfl rfl) ae rfl) rfl) rfl rfl) rfl)))
def eD:MN:=(ia bJ (ad (e2 ixA (ah 0) (eC (.int 0))) (ad (ah 1) ak)))
def df:List D→Option Str:=fnN 0 eD
theorem mQ {k:Nat} (T:Bl mg)  (cE:Kn P w K mg base k "refuse_other_signs" ["tongue", "other"] (spF K [0,0] 3 bd)) (dh:Kn P w K mg base k "exchanged_sentence" ["tongue", "other", "sentence"] (spF K [0,0,0] 0 (aG 6))) (GNrefuse_other_signs:KnX P w K mg base k "refuse_other_signs" ["tongue", "other"] (spN K [0,0] (clK K) bJ)) (F:Fun K "exchanged_rule" "exchanged_rule" dw f fd):FnOk P w K mg base (CXr P w) (k+1) f fd ["rule", "other"] (spN K [0,0] (clK K) df):=by
 have nd:=scexchanged_rule.nd
 refine F.okN (N:=eW) (b:=eD) (ds0:=[0,0]) scexchanged_rule rfl rfl rfl fun cdv A outer s H E hr R O=>?_
 exact (nO (rj O GNrefuse_other_signs hr rfl (aa (aJ (bA (K:=K) rfl) (ac (i:=0) rfl (.inr (.inl rfl)) rfl rfl rfl) ai (fun _ _=>rfl)) (aa (ac (i:=1) rfl (.inr (.inl rfl)) rfl rfl rfl) ae rfl) rfl) rfl rfl rfl rfl))
abbrev lF:Stmt:=top 38
abbrev pR:List Str:=["_law_script", "_law_k", "_law_cell"]
theorem sc_law_pen:FnScope pR ["_law_script", "_law_k"] (av lF):=⟨rfl,rfl,rfl,by decide +kernel,rfl,by decide +kernel,by decide +kernel⟩
def dy:MS:=(au (aC 2 (e2 bg (e2 cr (eC (.int 6151)) (ah 1)) (eC (.int 3))))
 (au (sIf (tV (e2 ltI (ah 1) (eN cu (ad (ah 0) ak)))) (aC 2 (e2 ixA (ah 0) (ah 1))) (sIf (tV (e2 gtI (eN cu (ad (ah 0) ak)) (eC (.int 0)))) (aC 2 (e2 bg (e2 cB (e2 ixA (ah 0) (e2 cB (ah 1) (eN cu (ad (ah 0) ak)))) (eC (.int 2147483629))) (e2 cr (eC (.int 40503)) (ah 1)))) br))
 (au (sIf (tV (e2 geI (ah 2) (e2 mC (eC (.int 10)) (eC (.int 18))))) (aQ (bO (ad (e2 io (ah 2) (e2 mC (eC (.int 10)) (eC (.int 18)))) (ad (e2 cB (ah 2) (eC (.int 2147483587))) (ad (eC (.int 0)) ak))))) br)
 (aQ (bO (ad (eC (.int 0)) (ad (e2 cB (ah 2) (eC (.int 2147483587))) (ad (eC (.int 0)) ak))))))))
def F_law_pen:List D→Option (D × En):=fnF 1 [0,0] dy
theorem tJ {k:Nat} (T:Bl mg)   (F:Fun K "_law_pen" "_law_pen" lF f fd):FnOk P w K mg base CX0 (k+1) f fd ["_law_script", "_law_k"] (spF K [0,0] 3 F_law_pen):=by
 have nd:=sc_law_pen.nd
 refine F.okQ (N:=pR) (b:=dy) (J:=⟨[],[0,0,0],3,[]⟩) (ds0:=[0,0,0]) sc_law_pen rfl rfl rfl rfl fun cdv A outer s H E hr=>?_
 exact (aj (aq (i:=2) (d:=0) (ds':=[0,0,0]) nd rfl (.inl rfl) (am (d':=0) (ar bh (ar fS ai (ac (i:=1) rfl (.inl rfl) rfl rfl rfl)) ai) (by decide)) rfl (by decide) (by decide) rfl (.inl rfl))
  (aj (aI (ds2:=[0,0,0]) (aB C1 (ac (i:=1) rfl (.inl rfl) rfl rfl rfl) (aU (cL (K:=K) rfl) rfl T.len0 (by decide +kernel) (aa (ac (i:=0) rfl (.inl rfl) rfl rfl rfl) ae rfl) rfl (by decide) rfl rfl rfl) (aP _)) (ao (aq (i:=2) (d:=0) (ds':=[0,0,0]) nd rfl (.inl rfl) (aJ (bA (K:=K) rfl) (ac (i:=0) rfl (.inl rfl) rfl rfl rfl) (ac (i:=1) rfl (.inl rfl) rfl rfl rfl) (fun _ _=>rfl)) rfl (by decide) (by decide) rfl (.inl rfl))) (ao (aI (ds2:=[0,0,0]) (aB kc (aU (cL (K:=K) rfl) rfl T.len0 (by decide +kernel) (aa (ac (i:=0) rfl (.inl rfl) rfl rfl rfl) ae rfl) rfl (by decide) rfl rfl rfl) ai (aP _)) (ao (aq (i:=2) (d:=0) (ds':=[0,0,0]) nd rfl (.inl rfl) (am (d':=0) (ar bh (ar fT (aJ (bA (K:=K) rfl) (ac (i:=0) rfl (.inl rfl) rfl rfl rfl) (ar fT (ac (i:=1) rfl (.inl rfl) rfl rfl rfl) (aU (cL (K:=K) rfl) rfl T.len0 (by decide +kernel) (aa (ac (i:=0) rfl (.inl rfl) rfl rfl rfl) ae rfl) rfl (by decide) rfl rfl rfl)) (fun _ _=>rfl)) ai) (ar fS ai (ac (i:=1) rfl (.inl rfl) rfl rfl rfl))) (by decide)) rfl (by decide) (by decide) rfl (.inl rfl))) aH)))
  (aj (aI (ds2:=[0,0,0]) (aB Jh (ac (i:=2) rfl (.inl rfl) rfl rfl rfl) (ar rh ai ai) (aP _)) (ao (aw (bc (d:=3) (c:=3) (aa (ar i5 (ac (i:=2) rfl (.inl rfl) rfl rfl rfl) (ar rh ai ai)) (aa (ar fT (ac (i:=2) rfl (.inl rfl) rfl rfl rfl) ai) (aa ai ae rfl) rfl) rfl) rfl rfl (by decide)) rfl)) aH)
  (ao (aw (bc (d:=3) (c:=3) (aa ai (aa (ar fT (ac (i:=2) rfl (.inl rfl) rfl rfl rfl) ai) (aa ai ae rfl) rfl) rfl) rfl rfl (by decide)) rfl)))))
abbrev kA:Stmt:=top 39
abbrev og:List Str:=["_law_pen_here", "_law_many", "_law_drawn", "_law_number"]
theorem sc_law_draw:FnScope og ["_law_pen_here", "_law_many"] (av kA):=⟨rfl,rfl,rfl,by decide +kernel,rfl,by decide +kernel,by decide +kernel⟩
def dz:MS:=(au (gx 0 (eC (.int 2)) (e2 bg (dN 0 (eC (.int 2))) (eC (.int 1))))
 (au (sIf (tV (e2 gtI (dN 0 (eC (.int 0))) (eC (.int 0)))) (au (aC 2 (e2 cB (dN 0 (eC (.int 0))) (ah 1)))
 (au (gx 0 (eC (.int 0)) (e2 gA (dN 0 (eC (.int 0))) (ah 1)))
 (aQ (ah 2)))) br)
 (au (aC 3 (e2 cB (e2 bg (e2 bg (dN 0 (eC (.int 1))) (e2 cr (eC (.int 69621)) (dN 0 (eC (.int 2))))) (eC (.int 13))) (eC (.int 2147483629))))
 (au (aC 3 (e2 bg (e2 cB (e2 cr (ah 3) (ah 3)) (eC (.int 2147483587))) (e2 cr (eC (.int 6151)) (dN 0 (eC (.int 2))))))
 (au (aC 3 (e2 cB (e2 cr (ah 3) (ah 3)) (eC (.int 2147483629))))
 (aQ (e2 cB (e2 gA (ah 3) (eC (.int 64))) (ah 1))))))))
def F_law_draw:List D→Option (D × En):=fnF 2 [1,0] dz
theorem rV {k:Nat} (T:Bl mg)   (F:Fun K "_law_draw" "_law_draw" kA f fd):FnOk P w K mg base CX0 (k+1) f fd ["_law_pen_here", "_law_many"] (spF K [1,0] 0 F_law_draw):=by
 have nd:=sc_law_draw.nd
 refine F.okQ (N:=og) (b:=dz) (J:=⟨[0],[1,0,0,0],0,[]⟩) (ds0:=[1,0,0,0]) sc_law_draw rfl rfl rfl rfl fun cdv A outer s H E hr=>?_
 exact (aj (j8 (i:=0) (d:=1) (c:=0) rfl (.inl rfl) (am (d':=0) (ar bh (ge (K:=K) (i:=0) rfl rfl (.inl rfl) rfl ai (fun _ _=>rfl) rfl rfl) ai) (by decide)) ai rfl (by decide) rfl rfl rfl (fun _=>rfl) rfl rfl rfl)
  (aj (aI (ds2:=[1,0,0,0]) (aB kc (ge (K:=K) (i:=0) rfl rfl (.inl rfl) rfl ai (fun _ _=>rfl) rfl rfl) ai (aP _)) (aj (aq (i:=2) (d:=0) (ds':=[1,0,0,0]) nd rfl (.inl rfl) (am (d':=0) (ar fT (ge (K:=K) (i:=0) rfl rfl (.inl rfl) rfl ai (fun _ _=>rfl) rfl rfl) (ac (i:=1) rfl (.inl rfl) rfl rfl rfl)) (by decide)) rfl (by decide) (by decide) rfl (.inl rfl))
  (aj (j8 (i:=0) (d:=1) (c:=0) rfl (.inl rfl) (am (d':=0) (ar sQ (ge (K:=K) (i:=0) rfl rfl (.inl rfl) rfl ai (fun _ _=>rfl) rfl rfl) (ac (i:=1) rfl (.inl rfl) rfl rfl rfl)) (by decide)) ai rfl (by decide) rfl rfl rfl (fun _=>rfl) rfl rfl rfl)
  (ao (aw (ac (i:=2) rfl (.inl rfl) rfl rfl rfl) rfl)))) aH)
  (aj (aq (i:=3) (d:=0) (ds':=[1,0,0,0]) nd rfl (.inl rfl) (am (d':=0) (ar fT (ar bh (ar bh (ge (K:=K) (i:=0) rfl rfl (.inl rfl) rfl ai (fun _ _=>rfl) rfl rfl) (ar fS ai (ge (K:=K) (i:=0) rfl rfl (.inl rfl) rfl ai (fun _ _=>rfl) rfl rfl))) ai) ai) (by decide)) rfl (by decide) (by decide) rfl (.inl rfl))
  (aj (aq (i:=3) (d:=0) (ds':=[1,0,0,0]) nd rfl (.inl rfl) (am (d':=0) (ar bh (ar fT (ar fS (ac (i:=3) rfl (.inl rfl) rfl rfl rfl) (ac (i:=3) rfl (.inl rfl) rfl rfl rfl)) ai) (ar fS ai (ge (K:=K) (i:=0) rfl rfl (.inl rfl) rfl ai (fun _ _=>rfl) rfl rfl))) (by decide)) rfl (by decide) (by decide) rfl (.inl rfl))
  (aj (aq (i:=3) (d:=0) (ds':=[1,0,0,0]) nd rfl (.inl rfl) (am (d':=0) (ar fT (ar fS (ac (i:=3) rfl (.inl rfl) rfl rfl rfl) (ac (i:=3) rfl (.inl rfl) rfl rfl rfl)) ai) (by decide)) rfl (by decide) (by decide) rfl (.inl rfl))
  (ao (aw (am (d':=0) (ar fT (ar sQ (ac (i:=3) rfl (.inl rfl) rfl rfl rfl) ai) (ac (i:=1) rfl (.inl rfl) rfl rfl rfl)) (by decide)) rfl)))))))
abbrev gE:Stmt:=top 40
abbrev ja:List Str:=["_law_pen_here", "_law_most", "_law_signs", "_law_amount", "_law_sizes", "_law_kinds", "_law_size", "_law_kind", "_law_k", "_law_at"]
theorem sc_law_tongue:FnScope ja ["_law_pen_here", "_law_most"] (av gE):=⟨rfl,rfl,rfl,by decide +kernel,rfl,by decide +kernel,by decide +kernel⟩
def hZ:ME:=(e2 bg (eC (.int 1)) (ay F_law_draw (bf 1 (ad (ah 2) ak))))
def fL:MS:=(gx 4 (e2 iY (ah 4) (eN p9 (ad (ah 4) ak))) (e2 io (eN p9 (ad (ah 4) ak)) (eC (.int 1))))
def dP:MT:=(tV (e2 gtI (eN oq (ad (ah 4) ak)) (eC (.int 12))))
def hV:MS:=(au (aC 9 (ay F_law_draw (bf 0 (ad (eN cu (ad (ah 2) ak)) ak))))
 (au (aC 7 (e2 bg (ah 7) (e2 ixT (ah 2) (ah 9))))
 (aC 2 (e2 bg (eSl gW (ah 2) cq (bW (ah 9))) (eSl gW (ah 2) (bW (e2 bg (ah 9) (eC (.int 1)))) cq)))))
def fK:MS:=(au (aC 7 (eC (.str "")))
 (au (eP (eF (ad (ah 6) ak)) (gN 8) hV)
 (dF (gg 5 (ah 7)))))
noncomputable def jc:MS:=(au (aC 2 (eC (.str "!\"#$&'()*+,-./0123456789:;<=>?@ABCDEFGHIJKLMNOPQRSTUVWXYZ[\\]^_`abcdefghijklmnopqrstuvwxyz{|}~")))
 (au (aC 3 (e2 bg (eC (.int 1)) (ay F_law_draw (bf 0 (ad (eC (.int 4)) ak)))))
 (au (aC 4 (eLC false (eF (ad (ah 3) ak)) (gN 0) cY hZ [none,some 0,some 1]))
 (au (sIf (iw (tV (e2 eqD (ah 1) (eC (.int 6)))) (tV (e2 eqD (ay F_law_draw (bf 0 (ad (eC (.int 6)) ak))) (eC (.int 0))))) (aC 4 (e2 ixA (bO (ad (bO (ad (eC (.int 6)) (ad (eC (.int 6)) ak))) (ad (bO (ad (eC (.int 4)) (ad (eC (.int 4)) (ad (eC (.int 4)) ak)))) (ad (bO (ad (eC (.int 3)) (ad (eC (.int 3)) (ad (eC (.int 3)) (ad (eC (.int 3)) ak))))) (ad (bO (ad (eC (.int 6)) (ad (eC (.int 1)) (ad (eC (.int 5)) ak)))) ak))))) (ay F_law_draw (bf 0 (ad (eC (.int 4)) ak))))) br)
 (au (du dP fL)
 (au (aC 5 (bO ak))
 (au (eP (cQ (ah 4)) (gN 6) fK)
 (aQ (eN iP (ad (ah 5) ak))))))))))
noncomputable def dS:List D→Option (D × En):=fnF 8 [1,0] jc
theorem pW {k:Nat} (T:Bl mg)  (aL:Kn P w K mg base k "_law_draw" ["_law_pen_here", "_law_many"] (spF K [1,0] 0 F_law_draw)) (F:Fun K "_law_tongue" "_law_tongue" gE f fd):FnOk P w K mg base CX0 (k+1) f fd ["_law_pen_here", "_law_most"] (spF K [1,0] 0 dS):=by
 have nd:=sc_law_tongue.nd
 refine F.okQ (N:=ja) (b:=jc) (J:=⟨[0],[1,0,0,0,0,0,0,0,0,0],0,[]⟩) (ds0:=[1,0,0,0,0,0,0,0,0,0]) sc_law_tongue rfl rfl rfl rfl fun cdv A outer s H E hr=>?_
 exact (aj (aq (i:=2) (d:=0) (ds':=[1,0,0,0,0,0,0,0,0,0]) nd rfl (.inl rfl) (am (d':=0) az (by decide)) rfl (by decide) (by decide) rfl (.inl rfl))
  (aj (aq (i:=3) (d:=0) (ds':=[1,0,0,0,0,0,0,0,0,0]) nd rfl (.inl rfl) (am (d':=0) (ar bh ai (aT aL hr rfl (aF (i:=0) rfl (.inr (.inl rfl)) (aa (am (d':=0) ai (by decide)) ae rfl) rfl rfl) rfl rfl rfl rfl)) (by decide)) rfl (by decide) (by decide) rfl (.inl rfl))
  (aj (vd (ds1:=[1,0,0,0,1,0,0,0,0,0]) (r9 (i:=4) (ds':=[1,0,0,0,3,0,0,0,0,0]) (cd:=3) (d:=3) (dsi:=[0,1,0]) (lk:=[1,2]) nd rfl rfl (BlkOkC.of (ns:=["_law_k", "_law_pen_here", "_law_most"]) (js:=[none,some 0,some 1]) (N0:=ja) (sc0:=av gE) rfl rfl (by decide +kernel)) rfl (dX rfl T.range0 (aa (ac (i:=3) rfl (.inl rfl) rfl rfl rfl) ae rfl) rfl) (fun _ _ _ _ _=>(aV (i:=0) (ds':=[0,1,0]) (show (["_law_k", "_law_pen_here", "_law_most"]:List Str).Nodup by decide +kernel) rfl (.inl rfl) rfl (by decide) (by decide) (.inr rfl))) (fun _ _ _ _ _=>cc) (fun _ _ _ _ _=>(ar bh ai (aT aL hr rfl (aF (i:=1) rfl (.inr (.inl rfl)) (aa (ac (i:=2) rfl (.inr (.inl rfl)) rfl rfl rfl) ae rfl) rfl rfl) rfl rfl rfl rfl))) rfl rfl rfl (by decide) rfl (by decide) (by decide) rfl (fun _=>rfl)) rfl)
  (aj (aI (ds2:=[1,0,0,0,1,0,0,0,0,0]) (qpt (rf (aB (bX (K:=K) rfl hr.units) (ac (i:=1) rfl (.inr (.inl rfl)) rfl rfl rfl) ai (aP _)) (pA (aB (bX (K:=K) rfl hr.units) (aT aL hr rfl (aF (i:=0) rfl (.inr (.inl rfl)) (aa (am (d':=0) ai (by decide)) ae rfl) rfl rfl) rfl rfl rfl rfl) ai (aP _))))) (ao (aq (i:=4) (d:=1) (ds':=[1,0,0,0,1,0,0,0,0,0]) nd rfl (.inl rfl) (am (d':=1) (gU (K:=K) rfl (bc (d:=3) (c:=3) (aa (bc (d:=3) (c:=3) (aa ai (aa ai ae rfl) rfl) rfl rfl (by decide)) (aa (bc (d:=3) (c:=3) (aa ai (aa ai (aa ai ae rfl) rfl) rfl) rfl rfl (by decide)) (aa (bc (d:=3) (c:=3) (aa ai (aa ai (aa ai (aa ai ae rfl) rfl) rfl) rfl) rfl rfl (by decide)) (aa (bc (d:=3) (c:=3) (aa ai (aa ai (aa ai ae rfl) rfl) rfl) rfl rfl (by decide)) ae rfl) rfl) rfl) rfl) rfl rfl (by decide)) (aT aL hr rfl (aF (i:=0) rfl (.inr (.inl rfl)) (aa (am (d':=0) ai (by decide)) ae rfl) rfl rfl) rfl rfl rfl rfl) (fun _ _=>rfl) (by decide)) (by decide)) rfl (by decide) (by decide) rfl (.inl rfl))) aH)
  (aj (rZ (ds:=[1,0,0,0,1,0,0,0,0,0]) (pB (ds0:=[1,0,0,0,0,0,0,0,0,0]) (aB kc (aU (HP (K:=K) rfl rfl) rfl T.sum0 (by decide +kernel) (aa (ac (i:=4) rfl (.inl rfl) rfl rfl rfl) ae rfl) rfl (by decide) rfl rfl rfl) ai (aP _)) rfl) (ao (j8 (i:=4) (d:=1) (c:=0) rfl (.inl rfl) (am (d':=0) (ke (ds0:=[1,0,0,0,0,0,0,0,0,0]) (ar i5 (aU (sO (K:=K) rfl rfl) rfl T.max0 (by decide +kernel) (aa (ac (i:=4) rfl (.inl rfl) rfl rfl rfl) ae rfl) rfl (by decide) rfl rfl rfl) ai) rfl) (by decide)) (ke (ds0:=[1,0,0,0,0,0,0,0,0,0]) (sf (K:=K) rfl (ac (i:=4) rfl (.inl rfl) rfl rfl rfl) (aU (sO (K:=K) rfl rfl) rfl T.max0 (by decide +kernel) (aa (ac (i:=4) rfl (.inl rfl) rfl rfl rfl) ae rfl) rfl (by decide) rfl rfl rfl) rfl rfl rfl rfl rfl) rfl) rfl (by decide) rfl rfl rfl (fun _=>rfl) rfl rfl rfl)) PassesOwn.never)
  (aj (aq (i:=5) (d:=1) (ds':=[1,0,0,0,1,1,0,0,0,0]) nd rfl (.inl rfl) (am (d':=1) (bc (d:=3) (c:=3) ae rfl rfl (by decide)) (by decide)) rfl (by decide) (by decide) rfl (.inl rfl))
  (aj (cy (ds1:=[1,0,0,0,0,1,0,0,0,0]) rfl (bM (K:=K) rfl (jM (ds0:=[1,0,0,0,0,1,0,0,0,0]) (ac (p:=false) (i:=4) rfl (.inl rfl) rfl rfl rfl) rfl)) (aV (i:=6) (ds':=[1,0,0,0,0,1,0,0,0,0]) nd rfl (.inl rfl) rfl (by decide) (by decide) (.inl rfl)) (aj (aq (i:=7) (d:=0) (ds':=[1,0,0,0,0,1,0,0,0,0]) nd rfl (.inl rfl) (am (d':=0) az (by decide)) rfl (by decide) (by decide) rfl (.inl rfl))
  (aj (cy (ds1:=[1,0,0,0,0,1,0,0,0,0]) rfl (dX rfl T.range0 (aa (ac (i:=6) rfl (.inl rfl) rfl rfl rfl) ae rfl) rfl) (aV (i:=8) (ds':=[1,0,0,0,0,1,0,0,0,0]) nd rfl (.inl rfl) rfl (by decide) (by decide) (.inl rfl)) (aj (aq (i:=9) (d:=0) (ds':=[1,0,0,0,0,1,0,0,0,0]) nd rfl (.inl rfl) (aT aL hr rfl (aF (i:=0) rfl (.inr (.inl rfl)) (aa (am (d':=0) (aU (cL (K:=K) rfl) rfl T.len0 (by decide +kernel) (aa (ac (i:=2) rfl (.inl rfl) rfl rfl rfl) ae rfl) rfl (by decide) rfl rfl rfl) (by decide)) ae rfl) rfl rfl) rfl rfl rfl rfl) rfl (by decide) (by decide) rfl (.inl rfl))
  (aj (aq (i:=7) (d:=0) (ds':=[1,0,0,0,0,1,0,0,0,0]) nd rfl (.inl rfl) (am (d':=0) (ar bh (ac (i:=7) rfl (.inl rfl) rfl rfl rfl) (aJ eG (ac (i:=2) rfl (.inl rfl) rfl rfl rfl) (ac (i:=9) rfl (.inl rfl) rfl rfl rfl) (fun _ _=>rfl))) (by decide)) rfl (by decide) (by decide) rfl (.inl rfl))
  (ao (aq (i:=2) (d:=0) (ds':=[1,0,0,0,0,1,0,0,0,0]) nd rfl (.inl rfl) (am (d':=0) (ar bh (a9 fm (ac (i:=2) rfl (.inl rfl) rfl rfl rfl) bp (be (ac (i:=9) rfl (.inl rfl) rfl rfl rfl))) (a9 fm (ac (i:=2) rfl (.inl rfl) rfl rfl rfl) (be (ar bh (ac (i:=9) rfl (.inl rfl) rfl rfl rfl) ai)) bp)) (by decide)) rfl (by decide) (by decide) rfl (.inl rfl))))) PassesOwn.never (fun _=>rfl))
  (ao (cz (fq (K:=K) (i:=5) (d:=1) rfl rfl (.inl rfl) rfl (ac (i:=7) rfl (.inl rfl) rfl rfl rfl) (by decide) rfl rfl rfl rfl rfl rfl rfl rfl) rfl)))) PassesOwn.never (fun _=>rfl))
  (ao (aw (bY (gc (K:=K) rfl) rfl T.tuple0 (by decide +kernel) (aa (jM (ds0:=[1,0,0,0,0,0,0,0,0,0]) (ac (p:=false) (i:=5) rfl (.inl rfl) rfl rfl rfl) rfl) ae rfl) rfl (by decide) rfl rfl rfl) rfl)))))))))
abbrev kx:Stmt:=top 41
abbrev n6:List Str:=["_law_pen_here", "_law_tongue_here", "_law_most", "_law_signs", "_law_word", "_law_alike", "_law_k", "_law_sign"]
theorem sc_law_text:FnScope n6 ["_law_pen_here", "_law_tongue_here", "_law_most"] (av kx):=⟨rfl,rfl,rfl,by decide +kernel,rfl,by decide +kernel,by decide +kernel⟩
def lH:MS:=(au (aC 7 (e2 ixT (ah 3) (ay F_law_draw (bf 0 (ad (eN cu (ad (ah 3) ak)) ak)))))
 (au (sIf (tV (ah 5)) (aC 7 (e2 ixT (ah 4) (eC (.int 0)))) br)
 (aC 4 (e2 bg (ah 4) (ah 7)))))
def kI:MS:=(au (aC 3 (eM joinD (eC (.str "")) (ad (ah 1) ak)))
 (au (aC 4 (e2 ixT (ah 3) (ay F_law_draw (bf 0 (ad (eN cu (ad (ah 3) ak)) ak)))))
 (au (aC 5 (e2 eqD (ay F_law_draw (bf 0 (ad (eC (.int 3)) ak))) (eC (.int 0))))
 (au (eP (eF (ad (ay F_law_draw (bf 0 (ad (ah 2) ak))) ak)) (gN 6) lH)
 (aQ (ah 4))))))
def cS:List D→Option (D × En):=fnF 5 [1,0,0] kI
theorem rR {k:Nat} (T:Bl mg)  (aL:Kn P w K mg base k "_law_draw" ["_law_pen_here", "_law_many"] (spF K [1,0] 0 F_law_draw)) (F:Fun K "_law_text" "_law_text" kx f fd):FnOk P w K mg base CX0 (k+1) f fd ["_law_pen_here", "_law_tongue_here", "_law_most"] (spF K [1,0,0] 0 cS):=by
 have nd:=sc_law_text.nd
 refine F.okQ (N:=n6) (b:=kI) (J:=⟨[0],[1,0,0,0,0,0,0,0],0,[]⟩) (ds0:=[1,0,0,0,0,0,0,0]) sc_law_text rfl rfl rfl rfl fun cdv A outer s H E hr=>?_
 exact (aj (aq (i:=3) (d:=0) (ds':=[1,0,0,0,0,0,0,0]) nd rfl (.inl rfl) (am (d':=0) (ci (K:=K) rfl PySem.F.slot_str_join PySem.F.type_str_join (dH rfl) dM az (aa (ac (i:=1) rfl (.inl rfl) rfl rfl rfl) ae rfl) rfl rfl rfl rfl rfl rfl) (by decide)) rfl (by decide) (by decide) rfl (.inl rfl))
  (aj (aq (i:=4) (d:=0) (ds':=[1,0,0,0,0,0,0,0]) nd rfl (.inl rfl) (am (d':=0) (aJ eG (ac (i:=3) rfl (.inl rfl) rfl rfl rfl) (aT aL hr rfl (aF (i:=0) rfl (.inl rfl) (aa (am (d':=0) (aU (cL (K:=K) rfl) rfl T.len0 (by decide +kernel) (aa (ac (i:=3) rfl (.inl rfl) rfl rfl rfl) ae rfl) rfl (by decide) rfl rfl rfl) (by decide)) ae rfl) rfl rfl) rfl rfl rfl rfl) (fun _ _=>rfl)) (by decide)) rfl (by decide) (by decide) rfl (.inl rfl))
  (aj (aq (i:=5) (d:=0) (ds':=[1,0,0,0,0,0,0,0]) nd rfl (.inl rfl) (am (d':=0) (ei (bX (K:=K) rfl hr.units) (aT aL hr rfl (aF (i:=0) rfl (.inl rfl) (aa (am (d':=0) ai (by decide)) ae rfl) rfl rfl) rfl rfl rfl rfl) ai (aP _)) (by decide)) rfl (by decide) (by decide) rfl (.inl rfl))
  (aj (cy (ds1:=[1,0,0,0,0,0,0,0]) rfl (dX rfl T.range0 (aa (aT aL hr rfl (aF (i:=0) rfl (.inl rfl) (aa (ac (i:=2) rfl (.inl rfl) rfl rfl rfl) ae rfl) rfl rfl) rfl rfl rfl rfl) ae rfl) rfl) (aV (i:=6) (ds':=[1,0,0,0,0,0,0,0]) nd rfl (.inl rfl) rfl (by decide) (by decide) (.inl rfl)) (aj (aq (i:=7) (d:=0) (ds':=[1,0,0,0,0,0,0,0]) nd rfl (.inl rfl) (am (d':=0) (aJ eG (ac (i:=3) rfl (.inl rfl) rfl rfl rfl) (aT aL hr rfl (aF (i:=0) rfl (.inl rfl) (aa (am (d':=0) (aU (cL (K:=K) rfl) rfl T.len0 (by decide +kernel) (aa (ac (i:=3) rfl (.inl rfl) rfl rfl rfl) ae rfl) rfl (by decide) rfl rfl rfl) (by decide)) ae rfl) rfl rfl) rfl rfl rfl rfl) (fun _ _=>rfl)) (by decide)) rfl (by decide) (by decide) rfl (.inl rfl))
  (aj (aI (ds2:=[1,0,0,0,0,0,0,0]) (ce (ac (i:=5) rfl (.inl rfl) rfl rfl rfl) (fun _=>rfl)) (ao (aq (i:=7) (d:=0) (ds':=[1,0,0,0,0,0,0,0]) nd rfl (.inl rfl) (am (d':=0) (aJ eG (ac (i:=4) rfl (.inl rfl) rfl rfl rfl) ai (fun _ _=>rfl)) (by decide)) rfl (by decide) (by decide) rfl (.inl rfl))) aH)
  (ao (aq (i:=4) (d:=0) (ds':=[1,0,0,0,0,0,0,0]) nd rfl (.inl rfl) (am (d':=0) (ar bh (ac (i:=4) rfl (.inl rfl) rfl rfl rfl) (ac (i:=7) rfl (.inl rfl) rfl rfl rfl)) (by decide)) rfl (by decide) (by decide) rfl (.inl rfl))))) PassesOwn.never (fun _=>rfl))
  (ao (aw (ac (i:=4) rfl (.inl rfl) rfl rfl rfl) rfl))))))
abbrev jv:Stmt:=top 42
abbrev mn:List Str:=["_law_pen_here", "_law_tongue_here", "_law_signs", "_law_way", "_law_low", "_law_high", "_law_at", "_law_some"]
theorem sc_law_plain:FnScope mn ["_law_pen_here", "_law_tongue_here"] (av jv):=⟨rfl,rfl,rfl,by decide +kernel,rfl,by decide +kernel,by decide +kernel⟩
def jz:MS:=(au (aC 2 (eM joinD (eC (.str "")) (ad (ah 1) ak)))
 (au (aC 3 (ay F_law_draw (bf 0 (ad (eC (.int 8)) ak))))
 (au (sIf (tV (e2 ltI (ah 3) (eC (.int 2)))) (au (aC 4 (ay F_law_draw (bf 0 (ad (eC (.int 4)) ak))))
 (au (aC 5 (e2 bg (ah 4) (ay F_law_draw (bf 0 (ad (eC (.int 4)) ak)))))
 (au (sIf (tV (e2 eqD (ay F_law_draw (bf 0 (ad (eC (.int 3)) ak))) (eC (.int 0)))) (aC 5 (eC .none)) br)
 (aQ (bw (ad (eC (.str "long")) (ad (ah 4) (ad (ah 5) ak)))))))) br)
 (au (sIf (tV (e2 eqD (ah 3) (eC (.int 2)))) (aQ (bw (ad (eC (.str "least")) (ad (ay F_law_draw (bf 0 (ad (eN cu (ad (ah 1) ak)) ak))) (ad (ay F_law_draw (bf 0 (ad (eC (.int 3)) ak))) ak))))) br)
 (au (sIf (tV (e2 eqD (ah 3) (eC (.int 3)))) (au (aC 6 (ay F_law_draw (bf 0 (ad (eN cu (ad (ah 2) ak)) ak))))
 (au (aC 7 (e2 bg (e2 ixT (ah 2) (ah 6)) (eSl gW (ah 2) (bW (e2 bg (ah 6) (eC (.int 1)))) (bW (e2 bg (e2 bg (ah 6) (eC (.int 1))) (ay F_law_draw (bf 0 (ad (eC (.int 2)) ak))))))))
 (aQ (bw (ad (eC (.str "often")) (ad (ah 7) (ad (ay F_law_draw (bf 0 (ad (eC (.int 3)) ak))) ak))))))) br)
 (au (sIf (tV (e2 eqD (ah 3) (eC (.int 4)))) (aQ (bw (ad (eC (.str "apart")) ak))) br)
 (aQ (bw (ad (e2 ixA (bO (ad (eC (.str "without")) (ad (eC (.str "begins")) (ad (eC (.str "ends")) ak)))) (e2 io (ah 3) (eC (.int 5)))) (ad (ay cS (bf 0 (ad (ah 1) (ad (eC (.int 3)) ak)))) ak))))))))))
def dD:List D→Option (D × En):=fnF 6 [1,0] jz
theorem qJ {k:Nat} (T:Bl mg)  (aL:Kn P w K mg base k "_law_draw" ["_law_pen_here", "_law_many"] (spF K [1,0] 0 F_law_draw)) (kF:Kn P w K mg base k "_law_text" ["_law_pen_here", "_law_tongue_here", "_law_most"] (spF K [1,0,0] 0 cS)) (F:Fun K "_law_plain" "_law_plain" jv f fd):FnOk P w K mg base CX0 (k+1) f fd ["_law_pen_here", "_law_tongue_here"] (spF K [1,0] 0 dD):=by
 have nd:=sc_law_plain.nd
 refine F.okQ (N:=mn) (b:=jz) (J:=⟨[0],[1,0,0,0,0,0,0,0],0,[]⟩) (ds0:=[1,0,0,0,0,0,0,0]) sc_law_plain rfl rfl rfl rfl fun cdv A outer s H E hr=>?_
 exact (aj (aq (i:=2) (d:=0) (ds':=[1,0,0,0,0,0,0,0]) nd rfl (.inl rfl) (am (d':=0) (ci (K:=K) rfl PySem.F.slot_str_join PySem.F.type_str_join (dH rfl) dM az (aa (ac (i:=1) rfl (.inl rfl) rfl rfl rfl) ae rfl) rfl rfl rfl rfl rfl rfl) (by decide)) rfl (by decide) (by decide) rfl (.inl rfl))
  (aj (aq (i:=3) (d:=0) (ds':=[1,0,0,0,0,0,0,0]) nd rfl (.inl rfl) (aT aL hr rfl (aF (i:=0) rfl (.inl rfl) (aa (am (d':=0) ai (by decide)) ae rfl) rfl rfl) rfl rfl rfl rfl) rfl (by decide) (by decide) rfl (.inl rfl))
  (aj (aI (ds2:=[1,0,0,0,0,0,0,0]) (aB C1 (ac (i:=3) rfl (.inl rfl) rfl rfl rfl) ai (aP _)) (aj (aq (i:=4) (d:=0) (ds':=[1,0,0,0,0,0,0,0]) nd rfl (.inl rfl) (aT aL hr rfl (aF (i:=0) rfl (.inl rfl) (aa (am (d':=0) ai (by decide)) ae rfl) rfl rfl) rfl rfl rfl rfl) rfl (by decide) (by decide) rfl (.inl rfl))
  (aj (aq (i:=5) (d:=0) (ds':=[1,0,0,0,0,0,0,0]) nd rfl (.inl rfl) (am (d':=0) (ar bh (ac (i:=4) rfl (.inl rfl) rfl rfl rfl) (aT aL hr rfl (aF (i:=0) rfl (.inl rfl) (aa (am (d':=0) ai (by decide)) ae rfl) rfl rfl) rfl rfl rfl rfl)) (by decide)) rfl (by decide) (by decide) rfl (.inl rfl))
  (aj (aI (ds2:=[1,0,0,0,0,0,0,0]) (aB (bX (K:=K) rfl hr.units) (aT aL hr rfl (aF (i:=0) rfl (.inl rfl) (aa (am (d':=0) ai (by decide)) ae rfl) rfl rfl) rfl rfl rfl rfl) ai (aP _)) (ao (aq (i:=5) (d:=0) (ds':=[1,0,0,0,0,0,0,0]) nd rfl (.inl rfl) (am (d':=0) gR (by decide)) rfl (by decide) (by decide) rfl (.inl rfl))) aH)
  (ao (aw (aO (d:=0) (c:=0) (aa az (aa (ac (i:=4) rfl (.inl rfl) rfl rfl rfl) (aa (ac (i:=5) rfl (.inl rfl) rfl rfl rfl) ae rfl) rfl) rfl) rfl rfl) rfl))))) aH)
  (aj (aI (ds2:=[1,0,0,0,0,0,0,0]) (aB (bX (K:=K) rfl hr.units) (ac (i:=3) rfl (.inl rfl) rfl rfl rfl) ai (aP _)) (ao (aw (aO (d:=0) (c:=0) (aa az (aa (aT aL hr rfl (aF (i:=0) rfl (.inl rfl) (aa (am (d':=0) (aU (cL (K:=K) rfl) rfl T.len0 (by decide +kernel) (aa (ac (i:=1) rfl (.inl rfl) rfl rfl rfl) ae rfl) rfl (by decide) rfl rfl rfl) (by decide)) ae rfl) rfl rfl) rfl rfl rfl rfl) (aa (aT aL hr rfl (aF (i:=0) rfl (.inl rfl) (aa (am (d':=0) ai (by decide)) ae rfl) rfl rfl) rfl rfl rfl rfl) ae rfl) rfl) rfl) rfl rfl) rfl)) aH)
  (aj (aI (ds2:=[1,0,0,0,0,0,0,0]) (aB (bX (K:=K) rfl hr.units) (ac (i:=3) rfl (.inl rfl) rfl rfl rfl) ai (aP _)) (aj (aq (i:=6) (d:=0) (ds':=[1,0,0,0,0,0,0,0]) nd rfl (.inl rfl) (aT aL hr rfl (aF (i:=0) rfl (.inl rfl) (aa (am (d':=0) (aU (cL (K:=K) rfl) rfl T.len0 (by decide +kernel) (aa (ac (i:=2) rfl (.inl rfl) rfl rfl rfl) ae rfl) rfl (by decide) rfl rfl rfl) (by decide)) ae rfl) rfl rfl) rfl rfl rfl rfl) rfl (by decide) (by decide) rfl (.inl rfl))
  (aj (aq (i:=7) (d:=0) (ds':=[1,0,0,0,0,0,0,0]) nd rfl (.inl rfl) (am (d':=0) (ar bh (aJ eG (ac (i:=2) rfl (.inl rfl) rfl rfl rfl) (ac (i:=6) rfl (.inl rfl) rfl rfl rfl) (fun _ _=>rfl)) (a9 fm (ac (i:=2) rfl (.inl rfl) rfl rfl rfl) (be (ar bh (ac (i:=6) rfl (.inl rfl) rfl rfl rfl) ai)) (be (ar bh (ar bh (ac (i:=6) rfl (.inl rfl) rfl rfl rfl) ai) (aT aL hr rfl (aF (i:=0) rfl (.inl rfl) (aa (am (d':=0) ai (by decide)) ae rfl) rfl rfl) rfl rfl rfl rfl))))) (by decide)) rfl (by decide) (by decide) rfl (.inl rfl))
  (ao (aw (aO (d:=0) (c:=0) (aa az (aa (ac (i:=7) rfl (.inl rfl) rfl rfl rfl) (aa (aT aL hr rfl (aF (i:=0) rfl (.inl rfl) (aa (am (d':=0) ai (by decide)) ae rfl) rfl rfl) rfl rfl rfl rfl) ae rfl) rfl) rfl) rfl rfl) rfl)))) aH)
  (aj (aI (ds2:=[1,0,0,0,0,0,0,0]) (aB (bX (K:=K) rfl hr.units) (ac (i:=3) rfl (.inl rfl) rfl rfl rfl) ai (aP _)) (ao (aw (am (d':=0) (aO (d:=3) (c:=3) (aa az ae rfl) rfl rfl) (by decide)) rfl)) aH)
  (ao (aw (aO (d:=0) (c:=0) (aa (gU (K:=K) rfl (bc (d:=3) (c:=3) (aa az (aa az (aa az ae rfl) rfl) rfl) rfl rfl (by decide)) (ar i5 (ac (i:=3) rfl (.inl rfl) rfl rfl rfl) ai) (fun _ _=>rfl) (by decide)) (aa (aT kF hr rfl (aF (i:=0) rfl (.inl rfl) (aa (ac (i:=1) rfl (.inl rfl) rfl rfl rfl) (aa (am (d':=0) ai (by decide)) ae rfl) rfl) rfl rfl) rfl rfl rfl rfl) ae rfl) rfl) rfl rfl) rfl))))))))
abbrev hC:Stmt:=top 43
abbrev jO:List Str:=["_law_pen_here", "_law_tongue_here", "_law_deep", "_law_way", "_law_first"]
theorem sc_law_sentence:FnScope jO ["_law_pen_here", "_law_tongue_here", "_law_deep"] (av hC):=⟨rfl,rfl,rfl,by decide +kernel,rfl,by decide +kernel,by decide +kernel⟩
def fN (self:List D→Option (D × En)):MS:=(au (aC 3 (eC (.int 0)))
 (au (sIf (tV (e2 gtI (ah 2) (eC (.int 1)))) (aC 3 (ay F_law_draw (bf 0 (ad (eC (.int 8)) ak)))) br)
 (au (sIf (tV (e2 eqD (ah 3) (eC (.int 5)))) (aQ (bw (ad (eC (.str "not")) (ad (ay self (bf 0 (ad (ah 1) (ad (e2 io (ah 2) (eC (.int 1))) ak)))) ak)))) br)
 (au (sIf (tV (e2 gtI (ah 3) (eC (.int 5)))) (au (aC 4 (ay self (bf 0 (ad (ah 1) (ad (e2 io (ah 2) (eC (.int 1))) ak)))))
 (aQ (bw (ad (e2 ixA (bO (ad (eC (.str "both")) (ad (eC (.str "either")) ak))) (e2 io (ah 3) (eC (.int 6)))) (ad (ah 4) (ad (ay self (bf 0 (ad (ah 1) (ad (e2 io (ah 2) (eC (.int 1))) ak)))) ak)))))) br)
 (aQ (ay dD (bf 0 (ad (ah 1) ak))))))))
def bu:Nat→List D→Option (D × En)
 | 0=>fun _=>none
 | j+1=>fnF 2 [1,0,0] (fN (bu j))
theorem cM {k:Nat} (T:Bl mg)  {self:List D→Option (D × En)} (sm:Kn P w K mg base k "_law_plain" ["_law_pen_here", "_law_tongue_here"] (spF K [1,0] 0 dD)) (aL:Kn P w K mg base k "_law_draw" ["_law_pen_here", "_law_many"] (spF K [1,0] 0 F_law_draw)) (dR:Kn P w K mg base k "_law_sentence" ["_law_pen_here", "_law_tongue_here", "_law_deep"] (spF K [1,0,0] 0 self)) (F:Fun K "_law_sentence" "_law_sentence" hC f fd):FnOk P w K mg base CX0 (k+1) f fd ["_law_pen_here", "_law_tongue_here", "_law_deep"] (spF K [1,0,0] 0 (fnF 2 [1,0,0] (fN self))):=by
 have nd:=sc_law_sentence.nd
 refine F.okQ (N:=jO) (b:=fN self) (J:=⟨[0],[1,0,0,0,0],0,[]⟩) (ds0:=[1,0,0,0,0]) sc_law_sentence rfl rfl rfl rfl fun cdv A outer s H E hr=>?_
 exact (aj (aq (i:=3) (d:=0) (ds':=[1,0,0,0,0]) nd rfl (.inl rfl) (am (d':=0) ai (by decide)) rfl (by decide) (by decide) rfl (.inl rfl))
  (aj (aI (ds2:=[1,0,0,0,0]) (aB kc (ac (i:=2) rfl (.inl rfl) rfl rfl rfl) ai (aP _)) (ao (aq (i:=3) (d:=0) (ds':=[1,0,0,0,0]) nd rfl (.inl rfl) (aT aL hr rfl (aF (i:=0) rfl (.inl rfl) (aa (am (d':=0) ai (by decide)) ae rfl) rfl rfl) rfl rfl rfl rfl) rfl (by decide) (by decide) rfl (.inl rfl))) aH)
  (aj (aI (ds2:=[1,0,0,0,0]) (aB (bX (K:=K) rfl hr.units) (ac (i:=3) rfl (.inl rfl) rfl rfl rfl) ai (aP _)) (ao (aw (aO (d:=0) (c:=0) (aa az (aa (aT dR hr rfl (aF (i:=0) rfl (.inl rfl) (aa (ac (i:=1) rfl (.inl rfl) rfl rfl rfl) (aa (am (d':=0) (ar i5 (ac (i:=2) rfl (.inl rfl) rfl rfl rfl) ai) (by decide)) ae rfl) rfl) rfl rfl) rfl rfl rfl rfl) ae rfl) rfl) rfl rfl) rfl)) aH)
  (aj (aI (ds2:=[1,0,0,0,0]) (aB kc (ac (i:=3) rfl (.inl rfl) rfl rfl rfl) ai (aP _)) (aj (aq (i:=4) (d:=0) (ds':=[1,0,0,0,0]) nd rfl (.inl rfl) (aT dR hr rfl (aF (i:=0) rfl (.inl rfl) (aa (ac (i:=1) rfl (.inl rfl) rfl rfl rfl) (aa (am (d':=0) (ar i5 (ac (i:=2) rfl (.inl rfl) rfl rfl rfl) ai) (by decide)) ae rfl) rfl) rfl rfl) rfl rfl rfl rfl) rfl (by decide) (by decide) rfl (.inl rfl))
  (ao (aw (aO (d:=0) (c:=0) (aa (gU (K:=K) rfl (bc (d:=3) (c:=3) (aa az (aa az ae rfl) rfl) rfl rfl (by decide)) (ar i5 (ac (i:=3) rfl (.inl rfl) rfl rfl rfl) ai) (fun _ _=>rfl) (by decide)) (aa (ac (i:=4) rfl (.inl rfl) rfl rfl rfl) (aa (aT dR hr rfl (aF (i:=0) rfl (.inl rfl) (aa (ac (i:=1) rfl (.inl rfl) rfl rfl rfl) (aa (am (d':=0) (ar i5 (ac (i:=2) rfl (.inl rfl) rfl rfl rfl) ai) (by decide)) ae rfl) rfl) rfl rfl) rfl rfl rfl rfl) ae rfl) rfl) rfl) rfl rfl) rfl))) aH)
  (ao (aw (aT sm hr rfl (aF (i:=0) rfl (.inl rfl) (aa (ac (i:=1) rfl (.inl rfl) rfl rfl rfl) ae rfl) rfl rfl) rfl rfl rfl rfl) rfl))))))
abbrev i9:Stmt:=top 44
abbrev lG:List Str:=["_law_tongue_here", "_law_sentence_here", "_law_name", "_law_total", "_law_sign"]
theorem sc_law_weight:FnScope lG ["_law_tongue_here", "_law_sentence_here"] (av i9):=⟨rfl,rfl,rfl,by decide +kernel,rfl,by decide +kernel,by decide +kernel⟩
def jP (self:List D→Option (D × En)):MS:=(aC 3 (e2 cr (ah 3) (e2 bg (e2 ixA (ah 1) (eC (.int 2))) (eC (.int 1)))))
def bo (self:List D→Option (D × En)):MS:=(au (aC 2 (e2 ixA (ah 1) (eC (.int 0))))
 (au (sIf (tV (e2 eqD (ah 2) (eC (.str "not")))) (aQ (ay self (ad (ah 0) (ad (e2 ixA (ah 1) (eC (.int 1))) ak)))) br)
 (au (sIf (tV (e2 inL (ah 2) (bw (ad (eC (.str "both")) (ad (eC (.str "either")) ak))))) (aQ (e2 cr (ay self (ad (ah 0) (ad (e2 ixA (ah 1) (eC (.int 1))) ak))) (ay self (ad (ah 0) (ad (e2 ixA (ah 1) (eC (.int 2))) ak))))) br)
 (au (sIf (iw (tV (e2 eqD (ah 2) (eC (.str "long")))) (tV (e2 isN (e2 ixA (ah 1) (eC (.int 2))) (eC .none)))) (aQ (e2 bg (e2 ixA (ah 1) (eC (.int 1))) (eC (.int 1)))) br)
 (au (sIf (tV (e2 inL (ah 2) (bw (ad (eC (.str "long")) (ad (eC (.str "least")) ak))))) (aQ (e2 bg (e2 ixA (ah 1) (eC (.int 2))) (e2 ixA (bO (ad (eC (.int 1)) (ad (eC (.int 2)) ak))) (eN oK (ad (e2 eqD (ah 2) (eC (.str "long"))) ak))))) br)
 (au (sIf (tV (e2 eqD (ah 2) (eC (.str "often")))) (au (aC 3 (eC (.int 1)))
 (au (eP (cQ (e2 ixA (ah 1) (eC (.int 1)))) (gN 4) (jP self))
 (aQ (e2 bg (ah 3) (eC (.int 1)))))) br)
 (au (sIf (tV (e2 eqD (ah 2) (eC (.str "apart")))) (aQ (e2 bg (eN cu (ad (eM joinD (eC (.str "")) (ad (ah 0) ak)) ak)) (eC (.int 2)))) br)
 (aQ (e2 bg (eN cu (ad (e2 ixA (ah 1) (eC (.int 1))) ak)) (e2 ixA (bO (ad (eC (.int 1)) (ad (eC (.int 2)) ak))) (eN oK (ad (e2 eqD (ah 2) (eC (.str "begins"))) ak))))))))))))
def bE:Nat→List D→Option (D × En)
 | 0=>fun _=>none
 | j+1=>fnF 3 [0,0] (bo (bE j))
theorem dk {k:Nat} (T:Bl mg)  {self:List D→Option (D × En)} (dQ:Kn P w K mg base k "_law_weight" ["_law_tongue_here", "_law_sentence_here"] (spF K [0,0] 3 self)) (F:Fun K "_law_weight" "_law_weight" i9 f fd):FnOk P w K mg base CX0 (k+1) f fd ["_law_tongue_here", "_law_sentence_here"] (spF K [0,0] 3 (fnF 3 [0,0] (bo self))):=by
 have nd:=sc_law_weight.nd
 refine F.okQ (N:=lG) (b:=bo self) (J:=⟨[],[0,0,0,0,0],3,[]⟩) (ds0:=[0,0,0,0,0]) sc_law_weight rfl rfl rfl rfl fun cdv A outer s H E hr=>?_
 exact (aj (aq (i:=2) (d:=0) (ds':=[0,0,0,0,0]) nd rfl (.inl rfl) (aJ (bA (K:=K) rfl) (ac (i:=1) rfl (.inl rfl) rfl rfl rfl) ai (fun _ _=>rfl)) rfl (by decide) (by decide) rfl (.inl rfl))
  (aj (aI (ds2:=[0,0,0,0,0]) (aB (bX (K:=K) rfl hr.units) (ac (i:=2) rfl (.inl rfl) rfl rfl rfl) az (aP _)) (ao (aw (aW dQ hr rfl (aa (ac (i:=0) rfl (.inl rfl) rfl rfl rfl) (aa (aJ (bA (K:=K) rfl) (ac (i:=1) rfl (.inl rfl) rfl rfl rfl) ai (fun _ _=>rfl)) ae rfl) rfl) rfl rfl rfl rfl rfl) rfl)) aH)
  (aj (aI (ds2:=[0,0,0,0,0]) (aB (C2 (K:=K) rfl hr.units) (ac (i:=2) rfl (.inl rfl) rfl rfl rfl) (aO (d:=3) (c:=3) (aa az (aa az ae rfl) rfl) rfl rfl) (by with_unfolding_all rfl)) (ao (aw (ar fS (aW dQ hr rfl (aa (ac (i:=0) rfl (.inl rfl) rfl rfl rfl) (aa (aJ (bA (K:=K) rfl) (ac (i:=1) rfl (.inl rfl) rfl rfl rfl) ai (fun _ _=>rfl)) ae rfl) rfl) rfl rfl rfl rfl rfl) (aW dQ hr rfl (aa (ac (i:=0) rfl (.inl rfl) rfl rfl rfl) (aa (aJ (bA (K:=K) rfl) (ac (i:=1) rfl (.inl rfl) rfl rfl rfl) ai (fun _ _=>rfl)) ae rfl) rfl) rfl rfl rfl rfl rfl)) rfl)) aH)
  (aj (aI (ds2:=[0,0,0,0,0]) (qpt (rf (aB (bX (K:=K) rfl hr.units) (ac (i:=2) rfl (.inl rfl) rfl rfl rfl) az (aP _)) (pA (aB HR (aJ (bA (K:=K) rfl) (ac (i:=1) rfl (.inl rfl) rfl rfl rfl) ai (fun _ _=>rfl)) gR (aP _))))) (ao (aw (ar bh (aJ (bA (K:=K) rfl) (ac (i:=1) rfl (.inl rfl) rfl rfl rfl) ai (fun _ _=>rfl)) ai) rfl)) aH)
  (aj (aI (ds2:=[0,0,0,0,0]) (aB (C2 (K:=K) rfl hr.units) (ac (i:=2) rfl (.inl rfl) rfl rfl rfl) (aO (d:=3) (c:=3) (aa az (aa az ae rfl) rfl) rfl rfl) (by with_unfolding_all rfl)) (ao (aw (ar bh (aJ (bA (K:=K) rfl) (ac (i:=1) rfl (.inl rfl) rfl rfl rfl) ai (fun _ _=>rfl)) (gU (K:=K) rfl (bc (d:=3) (c:=3) (aa ai (aa ai ae rfl) rfl) rfl rfl (by decide)) (bY vh rfl T.int0 (by decide +kernel) (aa (am (d':=0) (ei (bX (K:=K) rfl hr.units) (ac (i:=2) rfl (.inl rfl) rfl rfl rfl) az (aP _)) (by decide)) ae rfl) rfl (by decide) rfl rfl rfl) (fun _ _=>rfl) (by decide))) rfl)) aH)
  (aj (aI (ds2:=[0,0,0,0,0]) (aB (bX (K:=K) rfl hr.units) (ac (i:=2) rfl (.inl rfl) rfl rfl rfl) az (aP _)) (aj (aq (i:=3) (d:=0) (ds':=[0,0,0,0,0]) nd rfl (.inl rfl) (am (d':=0) ai (by decide)) rfl (by decide) (by decide) rfl (.inl rfl))
  (aj (cy (ds1:=[0,0,0,0,0]) rfl (bM (K:=K) rfl (aJ (bA (K:=K) rfl) (ac (i:=1) rfl (.inl rfl) rfl rfl rfl) ai (fun _ _=>rfl))) (aV (i:=4) (ds':=[0,0,0,0,0]) nd rfl (.inl rfl) rfl (by decide) (by decide) (.inl rfl)) (ao (aq (i:=3) (d:=0) (ds':=[0,0,0,0,0]) nd rfl (.inl rfl) (am (d':=0) (ar fS (ac (i:=3) rfl (.inl rfl) rfl rfl rfl) (ar bh (aJ (bA (K:=K) rfl) (ac (i:=1) rfl (.inl rfl) rfl rfl rfl) ai (fun _ _=>rfl)) ai)) (by decide)) rfl (by decide) (by decide) rfl (.inl rfl))) PassesOwn.never (fun _=>rfl))
  (ao (aw (ar bh (ac (i:=3) rfl (.inl rfl) rfl rfl rfl) ai) rfl)))) aH)
  (aj (aI (ds2:=[0,0,0,0,0]) (aB (bX (K:=K) rfl hr.units) (ac (i:=2) rfl (.inl rfl) rfl rfl rfl) az (aP _)) (ao (aw (ar bh (aU (cL (K:=K) rfl) rfl T.len0 (by decide +kernel) (aa (am (d':=0) (ci (K:=K) rfl PySem.F.slot_str_join PySem.F.type_str_join (dH rfl) dM az (aa (ac (i:=0) rfl (.inl rfl) rfl rfl rfl) ae rfl) rfl rfl rfl rfl rfl rfl) (by decide)) ae rfl) rfl (by decide) rfl rfl rfl) ai) rfl)) aH)
  (ao (aw (ar bh (aU (cL (K:=K) rfl) rfl T.len0 (by decide +kernel) (aa (aJ (bA (K:=K) rfl) (ac (i:=1) rfl (.inl rfl) rfl rfl rfl) ai (fun _ _=>rfl)) ae rfl) rfl (by decide) rfl rfl rfl) (gU (K:=K) rfl (bc (d:=3) (c:=3) (aa ai (aa ai ae rfl) rfl) rfl rfl (by decide)) (bY vh rfl T.int0 (by decide +kernel) (aa (am (d':=0) (ei (bX (K:=K) rfl hr.units) (ac (i:=2) rfl (.inl rfl) rfl rfl rfl) az (aP _)) (by decide)) ae rfl) rfl (by decide) rfl rfl rfl) (fun _ _=>rfl) (by decide))) rfl)))))))))
abbrev ky:Stmt:=top 45
abbrev n8:List Str:=["_law_pen_here", "_law_tongue_here", "_law_most", "_law_some", "_law_total", "_law_k", "_law_sentence_here"]
theorem sc_law_rule:FnScope n8 ["_law_pen_here", "_law_tongue_here", "_law_most"] (av ky):=⟨rfl,rfl,rfl,by decide +kernel,rfl,by decide +kernel,by decide +kernel⟩
def lJ:MS:=(au (aC 6 (ay (bu 6) (bf 0 (ad (ah 1) (ad (eC (.int 3)) ak)))))
 (sIf (tV (e2 leI (e2 cr (ah 4) (ay (bE 6) (ad (ah 1) (ad (ah 6) ak)))) (ah 2))) (au (aC 4 (e2 cr (ah 4) (ay (bE 6) (ad (ah 1) (ad (ah 6) ak)))))
 (dF (gg 3 (ah 6)))) br))
def kJ:MS:=(au (aC 3 (bO ak))
 (au (aC 4 (eC (.int 1)))
 (au (eP (eF (ad (ay F_law_draw (bf 0 (ad (eC (.int 6)) ak))) ak)) (gN 5) lJ)
 (aQ (bw (ad (ah 1) (ad (eN iP (ad (ah 3) ak)) ak)))))))
def fM:List D→Option (D × En):=fnF 4 [1,0,0] kJ
theorem rS {k:Nat} (T:Bl mg)  (aL:Kn P w K mg base k "_law_draw" ["_law_pen_here", "_law_many"] (spF K [1,0] 0 F_law_draw)) (dR:Kn P w K mg base k "_law_sentence" ["_law_pen_here", "_law_tongue_here", "_law_deep"] (spF K [1,0,0] 0 (bu 6))) (dQ:Kn P w K mg base k "_law_weight" ["_law_tongue_here", "_law_sentence_here"] (spF K [0,0] 3 (bE 6))) (F:Fun K "_law_rule" "_law_rule" ky f fd):FnOk P w K mg base CX0 (k+1) f fd ["_law_pen_here", "_law_tongue_here", "_law_most"] (spF K [1,0,0] 0 fM):=by
 have nd:=sc_law_rule.nd
 refine F.okQ (N:=n8) (b:=kJ) (J:=⟨[0],[1,0,0,0,0,0,0],0,[]⟩) (ds0:=[1,0,0,0,0,0,0]) sc_law_rule rfl rfl rfl rfl fun cdv A outer s H E hr=>?_
 exact (aj (aq (i:=3) (d:=1) (ds':=[1,0,0,1,0,0,0]) nd rfl (.inl rfl) (am (d':=1) (bc (d:=3) (c:=3) ae rfl rfl (by decide)) (by decide)) rfl (by decide) (by decide) rfl (.inl rfl))
  (aj (aq (i:=4) (d:=0) (ds':=[1,0,0,1,0,0,0]) nd rfl (.inl rfl) (am (d':=0) ai (by decide)) rfl (by decide) (by decide) rfl (.inl rfl))
  (aj (cy (ds1:=[1,0,0,1,0,0,0]) rfl (dX rfl T.range0 (aa (aT aL hr rfl (aF (i:=0) rfl (.inl rfl) (aa (am (d':=0) ai (by decide)) ae rfl) rfl rfl) rfl rfl rfl rfl) ae rfl) rfl) (aV (i:=5) (ds':=[1,0,0,1,0,0,0]) nd rfl (.inl rfl) rfl (by decide) (by decide) (.inl rfl)) (aj (aq (i:=6) (d:=0) (ds':=[1,0,0,1,0,0,0]) nd rfl (.inl rfl) (aT dR hr rfl (aF (i:=0) rfl (.inl rfl) (aa (ac (i:=1) rfl (.inl rfl) rfl rfl rfl) (aa (am (d':=0) ai (by decide)) ae rfl) rfl) rfl rfl) rfl rfl rfl rfl) rfl (by decide) (by decide) rfl (.inl rfl))
  (ao (aI (ds2:=[1,0,0,1,0,0,0]) (aB jj (ar fS (ac (i:=4) rfl (.inl rfl) rfl rfl rfl) (aW dQ hr rfl (aa (ac (i:=1) rfl (.inl rfl) rfl rfl rfl) (aa (ac (i:=6) rfl (.inl rfl) rfl rfl rfl) ae rfl) rfl) rfl rfl rfl rfl rfl)) (ac (i:=2) rfl (.inl rfl) rfl rfl rfl) (aP _)) (aj (aq (i:=4) (d:=0) (ds':=[1,0,0,1,0,0,0]) nd rfl (.inl rfl) (am (d':=0) (ar fS (ac (i:=4) rfl (.inl rfl) rfl rfl rfl) (aW dQ hr rfl (aa (ac (i:=1) rfl (.inl rfl) rfl rfl rfl) (aa (ac (i:=6) rfl (.inl rfl) rfl rfl rfl) ae rfl) rfl) rfl rfl rfl rfl rfl)) (by decide)) rfl (by decide) (by decide) rfl (.inl rfl))
  (ao (cz (fq (K:=K) (i:=3) (d:=1) rfl rfl (.inl rfl) rfl (ac (i:=6) rfl (.inl rfl) rfl rfl rfl) (by decide) rfl rfl rfl rfl rfl rfl rfl rfl) rfl))) aH))) PassesOwn.never (fun _=>rfl))
  (ao (aw (aO (d:=0) (c:=0) (aa (ac (i:=1) rfl (.inl rfl) rfl rfl rfl) (aa (bY (gc (K:=K) rfl) rfl T.tuple0 (by decide +kernel) (aa (jM (ds0:=[1,0,0,0,0,0,0]) (ac (p:=false) (i:=3) rfl (.inl rfl) rfl rfl rfl) rfl) ae rfl) rfl (by decide) rfl rfl rfl) ae rfl) rfl) rfl rfl) rfl)))))
abbrev jw:Stmt:=top 46
abbrev mo:List Str:=["_law_pen_here", "_law_tongue_here", "_law_kinds", "_law_kind", "_law_mixed", "_law_sign", "_law_at"]
theorem sc_law_other:FnScope mo ["_law_pen_here", "_law_tongue_here"] (av jw):=⟨rfl,rfl,rfl,by decide +kernel,rfl,by decide +kernel,by decide +kernel⟩
def ix:MS:=(au (aC 6 (ay F_law_draw (bf 0 (ad (e2 bg (eN cu (ad (ah 4) ak)) (eC (.int 1))) ak))))
 (aC 4 (e2 bg (e2 bg (eSl gW (ah 4) cq (bW (ah 6))) (ah 5)) (eSl gW (ah 4) (bW (ah 6)) cq))))
def kL:MS:=(au (aC 4 (eC (.str "")))
 (au (eP (cQ (ah 3)) (gN 5) ix)
 (dF (gg 2 (ah 4)))))
def jA:MS:=(au (aC 2 (bO ak))
 (au (eP (cQ (ah 1)) (gN 3) kL)
 (aQ (eN iP (ad (ah 2) ak)))))
def eK:List D→Option (D × En):=fnF 5 [1,0] jA
theorem qK {k:Nat} (T:Bl mg)  (aL:Kn P w K mg base k "_law_draw" ["_law_pen_here", "_law_many"] (spF K [1,0] 0 F_law_draw)) (F:Fun K "_law_other" "_law_other" jw f fd):FnOk P w K mg base CX0 (k+1) f fd ["_law_pen_here", "_law_tongue_here"] (spF K [1,0] 0 eK):=by
 have nd:=sc_law_other.nd
 refine F.okQ (N:=mo) (b:=jA) (J:=⟨[0],[1,0,0,0,0,0,0],0,[]⟩) (ds0:=[1,0,0,0,0,0,0]) sc_law_other rfl rfl rfl rfl fun cdv A outer s H E hr=>?_
 exact (aj (aq (i:=2) (d:=1) (ds':=[1,0,1,0,0,0,0]) nd rfl (.inl rfl) (am (d':=1) (bc (d:=3) (c:=3) ae rfl rfl (by decide)) (by decide)) rfl (by decide) (by decide) rfl (.inl rfl))
  (aj (cy (ds1:=[1,0,1,0,0,0,0]) rfl (bM (K:=K) rfl (ac (i:=1) rfl (.inl rfl) rfl rfl rfl)) (aV (i:=3) (ds':=[1,0,1,0,0,0,0]) nd rfl (.inl rfl) rfl (by decide) (by decide) (.inl rfl)) (aj (aq (i:=4) (d:=0) (ds':=[1,0,1,0,0,0,0]) nd rfl (.inl rfl) (am (d':=0) az (by decide)) rfl (by decide) (by decide) rfl (.inl rfl))
  (aj (cy (ds1:=[1,0,1,0,0,0,0]) rfl (bM (K:=K) rfl (ac (i:=3) rfl (.inl rfl) rfl rfl rfl)) (aV (i:=5) (ds':=[1,0,1,0,0,0,0]) nd rfl (.inl rfl) rfl (by decide) (by decide) (.inl rfl)) (aj (aq (i:=6) (d:=0) (ds':=[1,0,1,0,0,0,0]) nd rfl (.inl rfl) (aT aL hr rfl (aF (i:=0) rfl (.inl rfl) (aa (am (d':=0) (ar bh (aU (cL (K:=K) rfl) rfl T.len0 (by decide +kernel) (aa (ac (i:=4) rfl (.inl rfl) rfl rfl rfl) ae rfl) rfl (by decide) rfl rfl rfl) ai) (by decide)) ae rfl) rfl rfl) rfl rfl rfl rfl) rfl (by decide) (by decide) rfl (.inl rfl))
  (ao (aq (i:=4) (d:=0) (ds':=[1,0,1,0,0,0,0]) nd rfl (.inl rfl) (am (d':=0) (ar bh (ar bh (a9 fm (ac (i:=4) rfl (.inl rfl) rfl rfl rfl) bp (be (ac (i:=6) rfl (.inl rfl) rfl rfl rfl))) (ac (i:=5) rfl (.inl rfl) rfl rfl rfl)) (a9 fm (ac (i:=4) rfl (.inl rfl) rfl rfl rfl) (be (ac (i:=6) rfl (.inl rfl) rfl rfl rfl)) bp)) (by decide)) rfl (by decide) (by decide) rfl (.inl rfl)))) PassesOwn.never (fun _=>rfl))
  (ao (cz (fq (K:=K) (i:=2) (d:=1) rfl rfl (.inl rfl) rfl (ac (i:=4) rfl (.inl rfl) rfl rfl rfl) (by decide) rfl rfl rfl rfl rfl rfl rfl rfl) rfl)))) PassesOwn.never (fun _=>rfl))
  (ao (aw (bY (gc (K:=K) rfl) rfl T.tuple0 (by decide +kernel) (aa (jM (ds0:=[1,0,0,0,0,0,0]) (ac (p:=false) (i:=2) rfl (.inl rfl) rfl rfl rfl) rfl) ae rfl) rfl (by decide) rfl rfl rfl) rfl))))
abbrev kB:Stmt:=top 47
abbrev mX:List Str:=["_law_tongue_here", "_law_other_here", "_law_text_here", "_law_signs", "_law_news"]
theorem sc_law_by:FnScope mX ["_law_tongue_here", "_law_other_here", "_law_text_here"] (av kB):=⟨rfl,rfl,rfl,by decide +kernel,rfl,by decide +kernel,by decide +kernel⟩
def om:ME:=(e2 ixT (ah 2) (eM qf (ah 1) (ad (ah 0) ak)))
def m5:MS:=(au (aC 3 (eM joinD (eC (.str "")) (ad (ah 0) ak)))
 (au (aC 4 (eM joinD (eC (.str "")) (ad (ah 1) ak)))
 (aQ (eM joinD (eC (.str "")) (ad (eLC true (cQ (ah 2)) (gN 0) cY om [none,some 3,some 4]) ak)))))
def fy:List D→Option (D × En):=fnF 2 [0,0,0] m5
theorem uM {k:Nat} (T:Bl mg)   (F:Fun K "_law_by" "_law_by" kB f fd):FnOk P w K mg base CX0 (k+1) f fd ["_law_tongue_here", "_law_other_here", "_law_text_here"] (spF K [0,0,0] 3 fy):=by
 have nd:=sc_law_by.nd
 refine F.okQ (N:=mX) (b:=m5) (J:=⟨[],[0,0,0,0,0],3,[]⟩) (ds0:=[0,0,0,0,0]) sc_law_by rfl rfl rfl rfl fun cdv A outer s H E hr=>?_
 exact (aj (aq (i:=3) (d:=0) (ds':=[0,0,0,0,0]) nd rfl (.inr rfl) (am (d':=0) (ci (K:=K) rfl PySem.F.slot_str_join PySem.F.type_str_join (dH rfl) dM az (aa (ac (i:=0) rfl (.inl rfl) rfl rfl rfl) ae rfl) rfl rfl rfl rfl rfl rfl) (by decide)) rfl (by decide) (by decide) rfl (.inl rfl))
  (aj (aq (i:=4) (d:=0) (ds':=[0,0,0,0,0]) nd rfl (.inr rfl) (am (d':=0) (ci (K:=K) rfl PySem.F.slot_str_join PySem.F.type_str_join (dH rfl) dM az (aa (ac (i:=1) rfl (.inl rfl) rfl rfl rfl) ae rfl) rfl rfl rfl rfl rfl rfl) (by decide)) rfl (by decide) (by decide) rfl (.inl rfl))
  (ao (aw (ci (K:=K) rfl PySem.F.slot_str_join PySem.F.type_str_join (dH rfl) dM az (aa (am (d':=0) (c9 (cd:=3) (d:=3) (dsi:=[0,0,0]) (lk:=[1,2]) (BlkOkC.of (ns:=["_law_sign", "_law_signs", "_law_news"]) (js:=[none,some 3,some 4]) (N0:=mX) (sc0:=av kB) rfl rfl (by decide +kernel)) rfl (bM (K:=K) rfl (ac (i:=2) rfl (.inl rfl) rfl rfl rfl)) (fun _ _ _ _ _=>(aV (i:=0) (ds':=[0,0,0]) (show (["_law_sign", "_law_signs", "_law_news"]:List Str).Nodup by decide +kernel) rfl (.inl rfl) rfl (by decide) (by decide) (.inr rfl))) (fun _ _ _ _ _=>cc) (fun _ _ _ _ _=>(aJ eG (ac (i:=2) rfl (.inr (.inl rfl)) rfl rfl rfl) (ci (K:=K) rfl PySem.F.slot_str_find PySem.F.type_str_find Dy D4 (ac (i:=1) rfl (.inr (.inl rfl)) rfl rfl rfl) (aa (ac (i:=0) rfl (.inl rfl) rfl rfl rfl) ae rfl) rfl rfl rfl rfl rfl rfl) (fun _ _=>rfl))) rfl rfl (by decide) rfl (fun _=>rfl)) (by decide)) ae rfl) rfl rfl rfl rfl rfl rfl) rfl))))
abbrev fO:Stmt:=top 48
abbrev iz:List Str:=["_law_tongue_here", "_law_other_here", "_law_sentence_here", "_law_parts", "_law_part"]
theorem sc_law_sentence_by:FnScope iz ["_law_tongue_here", "_law_other_here", "_law_sentence_here"] (av fO):=⟨rfl,rfl,rfl,by decide +kernel,rfl,by decide +kernel,by decide +kernel⟩
def a7 (self:List D→Option (D × En)):MS:=(sIf (tV (e1 (aN "str") (ah 4))) (dF (gg 3 (ay fy (ad (ah 0) (ad (ah 1) (ad (ah 4) ak)))))) (sIf (tV (e1 (aN "tuple") (ah 4))) (dF (gg 3 (ay self (ad (ah 0) (ad (ah 1) (ad (ah 4) ak)))))) (dF (gg 3 (ah 4)))))
def aY (self:List D→Option (D × En)):MS:=(au (aC 3 (bO (ad (e2 ixA (ah 2) (eC (.int 0))) ak)))
 (au (eP (cQ (eSl iq (ah 2) (bW (eC (.int 1))) cq)) (gN 4) (a7 self))
 (aQ (eN iP (ad (ah 3) ak)))))
def aR:Nat→List D→Option (D × En)
 | 0=>fun _=>none
 | j+1=>fnF 2 [0,0,0] (aY (aR j))
theorem bZ {k:Nat} (T:Bl mg)  {self:List D→Option (D × En)} (mZ:Kn P w K mg base k "_law_by" ["_law_tongue_here", "_law_other_here", "_law_text_here"] (spF K [0,0,0] 3 fy)) (fP:Kn P w K mg base k "_law_sentence_by" ["_law_tongue_here", "_law_other_here", "_law_sentence_here"] (spF K [0,0,0] 0 self)) (F:Fun K "_law_sentence_by" "_law_sentence_by" fO f fd):FnOk P w K mg base CX0 (k+1) f fd ["_law_tongue_here", "_law_other_here", "_law_sentence_here"] (spF K [0,0,0] 0 (fnF 2 [0,0,0] (aY self))):=by
 have nd:=sc_law_sentence_by.nd
 refine F.okQ (N:=iz) (b:=aY self) (J:=⟨[],[0,0,0,0,0],0,[]⟩) (ds0:=[0,0,0,0,0]) sc_law_sentence_by rfl rfl rfl rfl fun cdv A outer s H E hr=>?_
 exact (aj (aq (i:=3) (d:=1) (ds':=[0,0,0,1,0]) nd rfl (.inl rfl) (bc (d:=1) (c:=0) (aa (aJ (bA (K:=K) rfl) (ac (i:=2) rfl (.inl rfl) rfl rfl rfl) ai (fun _ _=>rfl)) ae rfl) rfl rfl (by decide)) rfl (by decide) (by decide) rfl (.inl rfl))
  (aj (cy (ds1:=[0,0,0,1,0]) rfl (bM (K:=K) rfl (a9 (fU (K:=K) rfl) (ac (i:=2) rfl (.inl rfl) rfl rfl rfl) (be ai) bp)) (aV (i:=4) (ds':=[0,0,0,1,0]) nd rfl (.inl rfl) rfl (by decide) (by decide) (.inl rfl)) (ao (aI (ds2:=[0,0,0,1,0]) (ce (gf (K:=K) (n:="str") rfl rfl T.isinstance0 rfl T.str0 (by decide +kernel) (by decide) (ac (i:=4) rfl (.inl rfl) rfl rfl rfl) (by decide) rfl rfl rfl rfl) (fun _=>rfl)) (ao (cz (fq (K:=K) (i:=3) (d:=1) rfl rfl (.inl rfl) rfl (am (d':=0) (aW mZ hr rfl (aa (ac (i:=0) rfl (.inl rfl) rfl rfl rfl) (aa (ac (i:=1) rfl (.inl rfl) rfl rfl rfl) (aa (ac (i:=4) rfl (.inl rfl) rfl rfl rfl) ae rfl) rfl) rfl) rfl rfl rfl rfl rfl) (by decide)) (by decide) rfl rfl rfl rfl rfl rfl rfl rfl) rfl)) (ao (aI (ds2:=[0,0,0,1,0]) (ce (gf (K:=K) (n:="tuple") rfl rfl T.isinstance0 rfl T.tuple0 (by decide +kernel) (by decide) (ac (i:=4) rfl (.inl rfl) rfl rfl rfl) (by decide) rfl rfl rfl rfl) (fun _=>rfl)) (ao (cz (fq (K:=K) (i:=3) (d:=1) rfl rfl (.inl rfl) rfl (aW fP hr rfl (aa (ac (i:=0) rfl (.inl rfl) rfl rfl rfl) (aa (ac (i:=1) rfl (.inl rfl) rfl rfl rfl) (aa (ac (i:=4) rfl (.inl rfl) rfl rfl rfl) ae rfl) rfl) rfl) rfl rfl rfl rfl rfl) (by decide) rfl rfl rfl rfl rfl rfl rfl rfl) rfl)) (ao (cz (fq (K:=K) (i:=3) (d:=1) rfl rfl (.inl rfl) rfl (ac (i:=4) rfl (.inl rfl) rfl rfl rfl) (by decide) rfl rfl rfl rfl rfl rfl rfl rfl) rfl)))))) PassesOwn.never (fun _=>rfl))
  (ao (aw (bY (gc (K:=K) rfl) rfl T.tuple0 (by decide +kernel) (aa (jM (ds0:=[0,0,0,0,0]) (ac (p:=false) (i:=3) rfl (.inl rfl) rfl rfl rfl) rfl) ae rfl) rfl (by decide) rfl rfl rfl) rfl))))
abbrev kz:Stmt:=top 49
abbrev n9:List Str:=["_law_e", "_law_marks"]
theorem sc_law_mark:FnScope n9 ["_law_e"] (av kz):=⟨rfl,rfl,rfl,by decide +kernel,rfl,by decide +kernel,by decide +kernel⟩
def kK:MS:=(au (aC 1 (bO (ad (e1 (cP kn0 gq) (ah 0)) (ad (e1 (cP kn0 e8) (ah 0)) (ad (e1 (cP kn0 ig) (ah 0)) (ad (e1 (cP kn0 ie) (ah 0)) ak))))))
 (au (aC 1 (e2 km (ah 1) (bO (ad (e1 (cP kn0 gt) (ah 0)) (ad (e1 (cP kn0 iK) (ah 0)) (ad (e1 (cP kn0 jC) (ah 0)) (ad (e1 (cP kn0 jD) (ah 0)) ak)))))))
 (au (aC 1 (e2 km (ah 1) (bO (ad (e1 (cP kn0 kP) (ah 0)) (ad (e1 (cP kn0 iO) (ah 0)) (ad (e1 (cP kn0 iL) (ah 0)) (ad (e1 (cP kn0 iN) (ah 0)) ak)))))))
 (au (dF (gg 1 (e1 (cP kn0 iM) (ah 0))))
 (au (sIf (bOr (tV (e2 neD (e2 iH (ah 1) (eC (.bool true))) (eC (.int 1)))) (eQ (tV (e1 (cP kn0 e7) (ah 0))))) (aQ (e1 oC (eC (.int 1)))) br)
 (aQ (e2 gP (ah 1) (eC (.bool true)))))))))
def ey:List D→Option (D × En):=fnF 1 [0] kK
theorem rT {k:Nat} (T:Bl mg)   {C_NoTongue:Addr} (m_NoTongue:mg "NoTongue"=some (.ref C_NoTongue)) (t_NoTongue:bV K kn0 gq (.ref C_NoTongue)=true) {C_NoSentence:Addr} (m_NoSentence:mg "NoSentence"=some (.ref C_NoSentence)) (t_NoSentence:bV K kn0 e8 (.ref C_NoSentence)=true) {C_TooMany:Addr} (m_TooMany:mg "TooMany"=some (.ref C_TooMany)) (t_TooMany:bV K kn0 ig (.ref C_TooMany)=true) {C_TooMuch:Addr} (m_TooMuch:mg "TooMuch"=some (.ref C_TooMuch)) (t_TooMuch:bV K kn0 ie (.ref C_TooMuch)=true) {C_NoNumber:Addr} (m_NoNumber:mg "NoNumber"=some (.ref C_NoNumber)) (t_NoNumber:bV K kn0 gt (.ref C_NoNumber)=true) {C_NoWord:Addr} (m_NoWord:mg "NoWord"=some (.ref C_NoWord)) (t_NoWord:bV K kn0 iK (.ref C_NoWord)=true) {C_NoFit:Addr} (m_NoFit:mg "NoFit"=some (.ref C_NoFit)) (t_NoFit:bV K kn0 jC (.ref C_NoFit)=true) {C_Elder:Addr} (m_Elder:mg "Elder"=some (.ref C_Elder)) (t_Elder:bV K kn0 jD (.ref C_Elder)=true) {C_Near:Addr} (m_Near:mg "Near"=some (.ref C_Near)) (t_Near:bV K kn0 kP (.ref C_Near)=true) {C_NoBack:Addr} (m_NoBack:mg "NoBack"=some (.ref C_NoBack)) (t_NoBack:bV K kn0 iO (.ref C_NoBack)=true) {C_NoText:Addr} (m_NoText:mg "NoText"=some (.ref C_NoText)) (t_NoText:bV K kn0 iL (.ref C_NoText)=true) {C_NoLine:Addr} (m_NoLine:mg "NoLine"=some (.ref C_NoLine)) (t_NoLine:bV K kn0 iN (.ref C_NoLine)=true) {C_NoName:Addr} (m_NoName:mg "NoName"=some (.ref C_NoName)) (t_NoName:bV K kn0 iM (.ref C_NoName)=true) (t_ValueError:bV K kn0 e7 (.type "ValueError")=true) (F:Fun K "_law_mark" "_law_mark" kz f fd):FnOk P w K mg base CX0 (k+1) f fd ["_law_e"] (spF K [0] 3 ey):=by
 have nd:=sc_law_mark.nd
 refine F.okQ (N:=n9) (b:=kK) (J:=⟨[],[0,0],3,[]⟩) (ds0:=[0,0]) sc_law_mark rfl rfl rfl rfl fun cdv A outer s H E hr=>?_
 exact (aj (aq (i:=1) (d:=0) (ds':=[0,0]) nd rfl (.inl rfl) (am (d':=0) (bc (d:=3) (c:=3) (aa (cF (K:=K) (kn:=kn0) (xs:=gq) rfl rfl T.isinstance0 rfl m_NoTongue t_NoTongue (ac (i:=0) rfl (.inl rfl) rfl rfl rfl) rfl rfl) (aa (cF (K:=K) (kn:=kn0) (xs:=e8) rfl rfl T.isinstance0 rfl m_NoSentence t_NoSentence (ac (i:=0) rfl (.inl rfl) rfl rfl rfl) rfl rfl) (aa (cF (K:=K) (kn:=kn0) (xs:=ig) rfl rfl T.isinstance0 rfl m_TooMany t_TooMany (ac (i:=0) rfl (.inl rfl) rfl rfl rfl) rfl rfl) (aa (cF (K:=K) (kn:=kn0) (xs:=ie) rfl rfl T.isinstance0 rfl m_TooMuch t_TooMuch (ac (i:=0) rfl (.inl rfl) rfl rfl rfl) rfl rfl) ae rfl) rfl) rfl) rfl) rfl rfl (by decide)) (by decide)) rfl (by decide) (by decide) rfl (.inl rfl))
  (aj (aq (i:=1) (d:=0) (ds':=[0,0]) nd rfl (.inl rfl) (am (d':=0) (ar (iF (K:=K) rfl) (ac (i:=1) rfl (.inl rfl) rfl rfl rfl) (bc (d:=3) (c:=3) (aa (cF (K:=K) (kn:=kn0) (xs:=gt) rfl rfl T.isinstance0 rfl m_NoNumber t_NoNumber (ac (i:=0) rfl (.inl rfl) rfl rfl rfl) rfl rfl) (aa (cF (K:=K) (kn:=kn0) (xs:=iK) rfl rfl T.isinstance0 rfl m_NoWord t_NoWord (ac (i:=0) rfl (.inl rfl) rfl rfl rfl) rfl rfl) (aa (cF (K:=K) (kn:=kn0) (xs:=jC) rfl rfl T.isinstance0 rfl m_NoFit t_NoFit (ac (i:=0) rfl (.inl rfl) rfl rfl rfl) rfl rfl) (aa (cF (K:=K) (kn:=kn0) (xs:=jD) rfl rfl T.isinstance0 rfl m_Elder t_Elder (ac (i:=0) rfl (.inl rfl) rfl rfl rfl) rfl rfl) ae rfl) rfl) rfl) rfl) rfl rfl (by decide))) (by decide)) rfl (by decide) (by decide) rfl (.inl rfl))
  (aj (aq (i:=1) (d:=1) (ds':=[0,1]) nd rfl (.inl rfl) (ar (iF (K:=K) rfl) (ac (i:=1) rfl (.inl rfl) rfl rfl rfl) (bc (d:=3) (c:=3) (aa (cF (K:=K) (kn:=kn0) (xs:=kP) rfl rfl T.isinstance0 rfl m_Near t_Near (ac (i:=0) rfl (.inl rfl) rfl rfl rfl) rfl rfl) (aa (cF (K:=K) (kn:=kn0) (xs:=iO) rfl rfl T.isinstance0 rfl m_NoBack t_NoBack (ac (i:=0) rfl (.inl rfl) rfl rfl rfl) rfl rfl) (aa (cF (K:=K) (kn:=kn0) (xs:=iL) rfl rfl T.isinstance0 rfl m_NoText t_NoText (ac (i:=0) rfl (.inl rfl) rfl rfl rfl) rfl rfl) (aa (cF (K:=K) (kn:=kn0) (xs:=iN) rfl rfl T.isinstance0 rfl m_NoLine t_NoLine (ac (i:=0) rfl (.inl rfl) rfl rfl rfl) rfl rfl) ae rfl) rfl) rfl) rfl) rfl rfl (by decide))) rfl (by decide) (by decide) rfl (.inl rfl))
  (aj (cz (fq (K:=K) (i:=1) (d:=1) rfl rfl (.inl rfl) rfl (am (d':=0) (cF (K:=K) (kn:=kn0) (xs:=iM) rfl rfl T.isinstance0 rfl m_NoName t_NoName (ac (i:=0) rfl (.inl rfl) rfl rfl rfl) rfl rfl) (by decide)) (by decide) rfl rfl rfl rfl rfl rfl rfl rfl) rfl)
  (aj (aI (ds2:=[0,1]) (pB (ds0:=[0,0]) (qpt (dL (aB (ji (K:=K) rfl hr.units) (ue (K:=K) rfl hr.units (ac (i:=1) rfl (.inl rfl) rfl rfl rfl) cN rfl rfl rfl rfl rfl) ai (aP _)) (ef (cx (ce (xb (K:=K) (n:="ValueError") (kn:=kn0) (xs:=e7) rfl rfl T.isinstance0 rfl T.ValueError0 (by decide +kernel) t_ValueError (ac (i:=0) rfl (.inl rfl) rfl rfl rfl) (by decide) rfl rfl) (fun _=>rfl)))))) rfl) (ao (aw (lX nN ai) rfl)) aH)
  (ao (aw (ke (ds0:=[0,0]) (ud (K:=K) rfl hr.units (ac (i:=1) rfl (.inl rfl) rfl rfl rfl) cN rfl rfl rfl rfl rfl) rfl) rfl)))))))
abbrev jx:Stmt:=top 50
abbrev mq:List Str:=["_law_tongue_here", "_law_thing", "_law_word", "_law_rule_here", "_law_told", "_law_way", "_law_caught", "_law_e"]
theorem sc_law_heard:FnScope mq ["_law_tongue_here", "_law_thing", "_law_word", "_law_rule_here"] (av jx):=⟨rfl,rfl,rfl,by decide +kernel,rfl,by decide +kernel,by decide +kernel⟩
def kO:MS:=(au (aC 6 (eC .none))
 (au (nc kn0 [4] 7 (sIf (tV (e2 eqD (ah 5) (eC (.int 0)))) (dF (ay bF (ad (ah 0) (ad (ah 1) (ad (ah 2) ak))))) (dF (ay bG (ad (ah 3) (ad (ah 1) ak))))) (nIf (tV (e2 eqD (ah 5) (eC (.int 0)))) (ia de (ad (ah 0) (ad (ah 1) (ad (ah 2) ak)))) (ia df (ad (ah 3) (ad (ah 1) ak)))) (aC 6 (ah 7)))
 (dF (gg 4 (ki (e2 iU (ah 6) (eC .none)) (e2 eqD (ay ey (ad (ah 6) ak)) (eC (.int 0))))))))
def jB:MS:=(au (aC 4 (bO ak))
 (au (eP (eF (ad (eC (.int 2)) ak)) (gN 5) kO)
 (aQ (e2 eqD (ah 4) (bO (ad (eC (.bool true)) (ad (eC (.bool true)) ak)))))))
def eL:List D→Option (D × En):=fnF 4 [0,0,0,0] jB
theorem qL {k:Nat} (T:Bl mg)  (eY:Kn P w K mg base k "exchanged_word" ["tongue", "other", "word"] (spF K [0,0,0] 3 bF)) (eZ:Kn P w K mg base k "exchanged_rule" ["rule", "other"] (spF K [0,0] 0 bG)) (ur:Kn P w K mg base k "_law_mark" ["_law_e"] (spF K [0] 3 ey)) (GNexchanged_word:KnX P w K mg base k "exchanged_word" ["tongue", "other", "word"] (spN K [0,0,0] (clK K) de)) (GNexchanged_rule:KnX P w K mg base k "exchanged_rule" ["rule", "other"] (spN K [0,0] (clK K) df)) (H_WordError:ExcK K mg kn0 "WordError") (F:Fun K "_law_heard" "_law_heard" jx f fd):FnOk P w K mg base CX0 (k+1) f fd ["_law_tongue_here", "_law_thing", "_law_word", "_law_rule_here"] (spF K [0,0,0,0] 3 eL):=by
 have nd:=sc_law_heard.nd
 refine F.okQ (N:=mq) (b:=jB) (J:=⟨[],[0,0,0,0,0,0,0,0],3,[]⟩) (ds0:=[0,0,0,0,0,0,0,0]) sc_law_heard rfl rfl rfl rfl fun cdv A outer s H E hr=>?_
 exact (aj (aq (i:=4) (d:=1) (ds':=[0,0,0,0,1,0,0,0]) nd rfl (.inl rfl) (am (d':=1) (bc (d:=3) (c:=3) ae rfl rfl (by decide)) (by decide)) rfl (by decide) (by decide) rfl (.inl rfl))
  (aj (cy (ds1:=[0,0,0,0,1,0,0,0]) rfl (dX rfl T.range0 (aa (am (d':=0) ai (by decide)) ae rfl) rfl) (aV (i:=5) (ds':=[0,0,0,0,1,0,0,0]) nd rfl (.inl rfl) rfl (by decide) (by decide) (.inl rfl)) (aj (aq (i:=6) (d:=0) (ds':=[0,0,0,0,1,0,0,0]) nd rfl (.inl rfl) (am (d':=0) gR (by decide)) rfl (by decide) (by decide) rfl (.inl rfl))
  (aj (wV (K:=K) (ds:=[0,0,0,0,1,0,0,0]) (ds':=[0,0,0,0,1,0,0,0]) (kn:=kn0) (kp:=[4]) (j:=7) (cl:=clK K) rfl ⟨rfl,rfl,rfl⟩ (fun _=>(ao (aI (ds2:=[0,0,0,0,1,0,0,0]) (aB (bX (K:=K) rfl hr.units) (ac (i:=5) rfl (.inl rfl) rfl rfl rfl) ai (aP _)) (ao (cz (aW eY hr rfl (aa (ac (i:=0) rfl (.inl rfl) rfl rfl rfl) (aa (ac (i:=1) rfl (.inl rfl) rfl rfl rfl) (aa (ac (i:=2) rfl (.inl rfl) rfl rfl rfl) ae rfl) rfl) rfl) rfl rfl rfl rfl rfl) rfl)) (ao (cz (aW eZ hr rfl (aa (ac (i:=3) rfl (.inl rfl) rfl rfl rfl) (aa (ac (i:=1) rfl (.inl rfl) rfl rfl rfl) ae rfl) rfl) rfl rfl rfl rfl rfl) rfl))))) (fun _ _ _ _ O=>(IQ (p:=false) (aB (bX (K:=K) rfl hr.units) (ac (i:=5) rfl (.inl rfl) rfl rfl rfl) ai (aP _)) (qC O GNexchanged_word hr rfl (aa (ac (i:=0) rfl (.inl rfl) rfl rfl rfl) (aa (ac (i:=1) rfl (.inl rfl) rfl rfl rfl) (aa (ac (i:=2) rfl (.inl rfl) rfl rfl rfl) ae rfl) rfl) rfl) rfl rfl rfl rfl) (qC O GNexchanged_rule hr rfl (aa (ac (i:=3) rfl (.inl rfl) rfl rfl rfl) (aa (ac (i:=1) rfl (.inl rfl) rfl rfl rfl) ae rfl) rfl) rfl rfl rfl rfl))) (fun _ _=>(ao (aq (i:=6) (d:=0) (ds':=[0,0,0,0,1,0,0,0]) nd rfl (.inl rfl) (ac (i:=7) rfl (.inl rfl) rfl rfl rfl) rfl (by decide) (by decide) rfl (.inl rfl)))) H_WordError.cl H_WordError.hx H_WordError.h Dd rfl H_WordError.m rfl nd rfl (.inl rfl) rfl rfl rfl (by decide) rfl rfl (by decide))
  (ao (cz (fq (K:=K) (i:=4) (d:=1) rfl rfl (.inl rfl) rfl (am (d':=0) (mM (ei D1 (ac (i:=6) rfl (.inl rfl) rfl rfl rfl) gR (aP _)) (kd (ei (bX (K:=K) rfl hr.units) (aW ur hr rfl (aa (ac (i:=6) rfl (.inl rfl) rfl rfl rfl) ae rfl) rfl rfl rfl rfl rfl) ai (aP _)))) (by decide)) (by decide) rfl rfl rfl rfl rfl rfl rfl rfl) rfl)))) PassesOwn.never (fun _=>rfl))
  (ao (aw (ke (ds0:=[0,0,0,0,0,0,0,0]) (ei (bX (K:=K) rfl hr.units) (ac (i:=4) rfl (.inl rfl) rfl rfl rfl) (bc (d:=3) (c:=3) (aa cN (aa cN ae rfl) rfl) rfl rfl (by decide)) (aP _)) rfl) rfl))))
abbrev er:Stmt:=top 51
abbrev gh:List Str:=["_law_tongue_here", "_law_other_here", "_law_strange", "_law_first", "_law_some"]
theorem sc_law_no_tongues:FnScope gh ["_law_tongue_here", "_law_other_here"] (av er):=⟨rfl,rfl,rfl,by decide +kernel,rfl,by decide +kernel,by decide +kernel⟩
def ij:MT:=(tV (e2 oA (ah 0) (eM joinD (eC (.str "")) (ad (ah 1) ak))))
def il:ME:=(ah 0)
def gl:MS:=(au (aC 2 (e2 ixA (eLC true (cQ (eC (.str "azb0c1d2e3f4!"))) (gN 0) ij il [none,some 0]) (eC (.int 0))))
 (au (aC 3 (e2 ixA (ah 1) (eC (.int 0))))
 (au (aC 4 (bO (ad (eSl iq (ah 1) (bW (eC (.int 1))) cq) (ad (e2 gY (ah 1) (bw (ad (ah 2) ak))) (ad (e2 gY (bw (ad (e2 bg (ah 2) (eSl gW (ah 3) (bW (eC (.int 1))) cq)) ak)) (eSl iq (ah 1) (bW (eC (.int 1))) cq)) (ad (e2 gY (bw (ad (eSl gW (ah 3) (bW (eC (.int 1))) cq) ak)) (eSl iq (ah 1) (bW (eC (.int 1))) cq)) (ad (eN lU (ad (ah 1) ak)) ak)))))))
 (au (aC 4 (e2 km (ah 4) (bO (ad (eM joinD (eC (.str "")) (ad (ah 1) ak)) (ad (eC .none) (ad (eC (.int 0)) (ad (eC (.bool true)) (ad (bw ak) (ad qh (ad (e2 gY (bw (ad (e2 bg (ah 3) (e2 ixT (ah 3) (eC (.int 0)))) ak)) (eSl iq (ah 1) (bW (eC (.int 1))) cq)) (ad (e2 gY (ah 1) (bw (ad (e2 ixT (ah 3) (eC (.int 0))) ak))) (ad (bw (ad (eC (.str "")) ak)) ak))))))))))))
 (au (aC 4 (e2 km (ah 4) (bO (ad (e2 gY (bw (ad (e2 bg (ah 3) (ah 2)) ak)) (eSl iq (ah 1) (bW (eC (.int 1))) cq)) (ad (e2 gY (bw (ad (eC .none) ak)) (eSl iq (ah 1) (bW (eC (.int 1))) cq)) (ad (e2 gY (bw (ad (eN lU (ad (ah 3) ak)) ak)) (eSl iq (ah 1) (bW (eC (.int 1))) cq)) ak))))))
 (au (sIf (tV (e2 gtI (eN cu (ad (ah 1) ak)) (eC (.int 1)))) (aC 4 (e2 km (ah 4) (bO (ad (e2 nh (ah 1) (e1 oC (eC (.int 1)))) (ad (e2 gY (bw (ad (e2 bg (e2 ixT (e2 ixA (ah 1) (eC (.int 1))) (eC (.int 0))) (eSl gW (ah 3) (bW (eC (.int 1))) cq)) (ad (e2 bg (e2 ixT (ah 3) (eC (.int 0))) (eSl gW (e2 ixA (ah 1) (eC (.int 1))) (bW (eC (.int 1))) cq)) ak))) (eSl iq (ah 1) (bW (eC (.int 2))) cq)) ak))))) br)
 (aQ (ah 4))))))))
def cH:List D→Option (D × En):=fnF 3 [0,0] gl
theorem l7 {k:Nat} (T:Bl mg)   (F:Fun K "_law_no_tongues" "_law_no_tongues" er f fd):FnOk P w K mg base CX0 (k+1) f fd ["_law_tongue_here", "_law_other_here"] (spF K [0,0] 0 cH):=by
 have nd:=sc_law_no_tongues.nd
 refine F.okQ (N:=gh) (b:=gl) (J:=⟨[],[0,0,0,0,0],0,[]⟩) (ds0:=[0,0,0,0,0]) sc_law_no_tongues rfl rfl rfl rfl fun cdv A outer s H E hr=>?_
 exact (aj (aq (i:=2) (d:=0) (ds':=[0,0,0,0,0]) nd rfl (.inl rfl) (aJ (bA (K:=K) rfl) (c9 (cd:=0) (d:=1) (dsi:=[0,0]) (lk:=[1]) (BlkOkC.of (ns:=["_law_sign", "_law_tongue_here"]) (js:=[none,some 0]) (N0:=gh) (sc0:=av er) rfl rfl (by decide +kernel)) rfl (bM (K:=K) rfl (am (d':=0) az (by decide))) (fun _ _ _ _ _=>(aV (i:=0) (ds':=[0,0]) (show (["_law_sign", "_law_tongue_here"]:List Str).Nodup by decide +kernel) rfl (.inl rfl) rfl (by decide) (by decide) (.inr rfl))) (fun _ _ _ _ _=>(u8 (aB vg (ac (i:=0) rfl (.inl rfl) rfl rfl rfl) (ci (K:=K) rfl PySem.F.slot_str_join PySem.F.type_str_join (dH rfl) dM az (aa (ac (i:=1) rfl (.inr (.inl rfl)) rfl rfl rfl) ae rfl) rfl rfl rfl rfl rfl rfl) (by with_unfolding_all rfl)))) (fun _ _ _ _ _=>(ac (i:=0) rfl (.inl rfl) rfl rfl rfl)) rfl rfl (by decide) rfl (fun _=>rfl)) ai (fun _ _=>rfl)) rfl (by decide) (by decide) rfl (.inl rfl))
  (aj (aq (i:=3) (d:=0) (ds':=[0,0,0,0,0]) nd rfl (.inl rfl) (aJ (bA (K:=K) rfl) (ac (i:=1) rfl (.inl rfl) rfl rfl rfl) ai (fun _ _=>rfl)) rfl (by decide) (by decide) rfl (.inl rfl))
  (aj (aq (i:=4) (d:=0) (ds':=[0,0,0,0,0]) nd rfl (.inl rfl) (am (d':=0) (bc (d:=1) (c:=0) (aa (a9 (fU (K:=K) rfl) (ac (i:=1) rfl (.inl rfl) rfl rfl rfl) (be ai) bp) (aa (ar (eI (K:=K) rfl) (ac (i:=1) rfl (.inl rfl) rfl rfl rfl) (aO (d:=0) (c:=0) (aa (ac (i:=2) rfl (.inl rfl) rfl rfl rfl) ae rfl) rfl rfl)) (aa (ar (eI (K:=K) rfl) (aO (d:=3) (c:=3) (aa (ar bh (ac (i:=2) rfl (.inl rfl) rfl rfl rfl) (a9 fm (ac (i:=3) rfl (.inl rfl) rfl rfl rfl) (be ai) bp)) ae rfl) rfl rfl) (a9 (fU (K:=K) rfl) (ac (i:=1) rfl (.inl rfl) rfl rfl rfl) (be ai) bp)) (aa (ar (eI (K:=K) rfl) (aO (d:=3) (c:=3) (aa (a9 fm (ac (i:=3) rfl (.inl rfl) rfl rfl rfl) (be ai) bp) ae rfl) rfl rfl) (a9 (fU (K:=K) rfl) (ac (i:=1) rfl (.inl rfl) rfl rfl rfl) (be ai) bp)) (aa (bY (sP (K:=K) rfl rfl) rfl T.list0 (by decide +kernel) (aa (ac (i:=1) rfl (.inl rfl) rfl rfl rfl) ae rfl) rfl (by decide) rfl rfl rfl) ae rfl) rfl) rfl) rfl) rfl) rfl rfl (by decide)) (by decide)) rfl (by decide) (by decide) rfl (.inl rfl))
  (aj (aq (i:=4) (d:=0) (ds':=[0,0,0,0,0]) nd rfl (.inl rfl) (am (d':=0) (ar (iF (K:=K) rfl) (ac (i:=4) rfl (.inl rfl) rfl rfl rfl) (bc (d:=1) (c:=0) (aa (ci (K:=K) rfl PySem.F.slot_str_join PySem.F.type_str_join (dH rfl) dM az (aa (ac (i:=1) rfl (.inl rfl) rfl rfl rfl) ae rfl) rfl rfl rfl rfl rfl rfl) (aa gR (aa ai (aa cN (aa (aO (d:=3) (c:=3) ae rfl rfl) (aa vq (aa (ar (eI (K:=K) rfl) (aO (d:=3) (c:=3) (aa (ar bh (ac (i:=3) rfl (.inl rfl) rfl rfl rfl) (aJ eG (ac (i:=3) rfl (.inl rfl) rfl rfl rfl) ai (fun _ _=>rfl))) ae rfl) rfl rfl) (a9 (fU (K:=K) rfl) (ac (i:=1) rfl (.inl rfl) rfl rfl rfl) (be ai) bp)) (aa (ar (eI (K:=K) rfl) (ac (i:=1) rfl (.inl rfl) rfl rfl rfl) (aO (d:=3) (c:=3) (aa (aJ eG (ac (i:=3) rfl (.inl rfl) rfl rfl rfl) ai (fun _ _=>rfl)) ae rfl) rfl rfl)) (aa (aO (d:=3) (c:=3) (aa az ae rfl) rfl rfl) ae rfl) rfl) rfl) rfl) rfl) rfl) rfl) rfl) rfl) rfl rfl (by decide))) (by decide)) rfl (by decide) (by decide) rfl (.inl rfl))
  (aj (aq (i:=4) (d:=0) (ds':=[0,0,0,0,0]) nd rfl (.inl rfl) (am (d':=0) (ar (iF (K:=K) rfl) (ac (i:=4) rfl (.inl rfl) rfl rfl rfl) (bc (d:=1) (c:=0) (aa (ar (eI (K:=K) rfl) (aO (d:=3) (c:=3) (aa (ar bh (ac (i:=3) rfl (.inl rfl) rfl rfl rfl) (ac (i:=2) rfl (.inl rfl) rfl rfl rfl)) ae rfl) rfl rfl) (a9 (fU (K:=K) rfl) (ac (i:=1) rfl (.inl rfl) rfl rfl rfl) (be ai) bp)) (aa (ar (eI (K:=K) rfl) (aO (d:=3) (c:=3) (aa gR ae rfl) rfl rfl) (a9 (fU (K:=K) rfl) (ac (i:=1) rfl (.inl rfl) rfl rfl rfl) (be ai) bp)) (aa (ar (eI (K:=K) rfl) (aO (d:=2) (c:=1) (aa (bY (sP (K:=K) rfl rfl) rfl T.list0 (by decide +kernel) (aa (ac (i:=3) rfl (.inl rfl) rfl rfl rfl) ae rfl) rfl (by decide) rfl rfl rfl) ae rfl) rfl rfl) (a9 (fU (K:=K) rfl) (ac (i:=1) rfl (.inl rfl) rfl rfl rfl) (be ai) bp)) ae rfl) rfl) rfl) rfl rfl (by decide))) (by decide)) rfl (by decide) (by decide) rfl (.inl rfl))
  (aj (aI (ds2:=[0,0,0,0,0]) (aB kc (aU (cL (K:=K) rfl) rfl T.len0 (by decide +kernel) (aa (ac (i:=1) rfl (.inl rfl) rfl rfl rfl) ae rfl) rfl (by decide) rfl rfl rfl) ai (aP _)) (ao (aq (i:=4) (d:=0) (ds':=[0,0,0,0,0]) nd rfl (.inl rfl) (am (d':=0) (ar (iF (K:=K) rfl) (ac (i:=4) rfl (.inl rfl) rfl rfl rfl) (bc (d:=1) (c:=0) (aa (vn (K:=K) rfl (ac (i:=1) rfl (.inl rfl) rfl rfl rfl) (lX nN ai)) (aa (ar (eI (K:=K) rfl) (aO (d:=3) (c:=3) (aa (ar bh (aJ eG (aJ (bA (K:=K) rfl) (ac (i:=1) rfl (.inl rfl) rfl rfl rfl) ai (fun _ _=>rfl)) ai (fun _ _=>rfl)) (a9 fm (ac (i:=3) rfl (.inl rfl) rfl rfl rfl) (be ai) bp)) (aa (ar bh (aJ eG (ac (i:=3) rfl (.inl rfl) rfl rfl rfl) ai (fun _ _=>rfl)) (a9 fm (aJ (bA (K:=K) rfl) (ac (i:=1) rfl (.inl rfl) rfl rfl rfl) ai (fun _ _=>rfl)) (be ai) bp)) ae rfl) rfl) rfl rfl) (a9 (fU (K:=K) rfl) (ac (i:=1) rfl (.inl rfl) rfl rfl rfl) (be ai) bp)) ae rfl) rfl) rfl rfl (by decide))) (by decide)) rfl (by decide) (by decide) rfl (.inl rfl))) aH)
  (ao (aw (ac (i:=4) rfl (.inl rfl) rfl rfl rfl) rfl))))))))
abbrev lE:Stmt:=top 52
abbrev xz:List Str:=["_law_script", "_law_k", "_law_pen_here", "_law_tongue_here", "_law_other_here", "_law_rule_here", "_law_some", "_law_deep", "_law_word", "_law_turn", "_law_told", "_law_due"]
theorem sclaw:FnScope xz ["_law_script"] (av lE):=⟨rfl,rfl,rfl,by decide +kernel,rfl,by decide +kernel,by decide +kernel⟩
noncomputable def rJ:MS:=(au (aC 10 (ay bF (ad (ah 3) (ad (ah 4) (ad (ah 8) ak)))))
 (au (sIf (bOr (eQ (tV (e1 (aN "str") (ah 10)))) (tV (e2 neD (ah 10) (ay fy (ad (ah 3) (ad (ah 4) (ad (ah 8) ak))))))) (aQ (eC (.bool false))) br)
 (au (sIf (tV (e2 neD (ay bF (ad (ah 4) (ad (ah 3) (ad (ah 10) ak)))) (ah 8))) (aQ (eC (.bool false))) br)
 (aC 8 (ay cS (bf 2 (ad (ah 3) (ad (e2 ixA (bO (ad (eC (.int 9)) (ad (eC (.int 60)) ak))) (e2 cB (ah 9) (eC (.int 2)))) ak))))))))
noncomputable def rL:ME:=(ay (aR 6) (ad (ah 1) (ad (ah 2) (ad (ah 0) ak))))
noncomputable def vN:MS:=(sIf (eQ (tV (ay eL (ad (ah 3) (ad (e2 ixA (ah 6) (ay F_law_draw (bf 2 (ad (eN cu (ad (ah 6) ak)) ak)))) (ad (ah 8) (ad (ah 5) ak))))))) (aQ (eC (.bool false))) br)
noncomputable def vM:MS:=(au (aC 2 (ay F_law_pen (ad (ah 0) (ad (ah 1) ak))))
 (au (aC 3 (ay dS (bf 2 (ad (eC (.int 6)) ak))))
 (au (aC 4 (ay eK (bf 2 (ad (ah 3) ak))))
 (au (aC 5 (ay fM (bf 2 (ad (ah 3) (ad (e2 mC (eC (.int 10)) (eC (.int 9))) ak)))))
 (au (aC 6 (lj (eSl gW (eSl gW (eM joinD (eC (.str "")) (ad (ah 3) ak)) (bW (ay F_law_draw (bf 2 (ad (eC (.int 3)) ak)))) cq) cq (bW (e2 bg (eC (.int 1)) (ay F_law_draw (bf 2 (ad (eC (.int 4)) ak)))))) (e2 ixT (e2 ixA (ah 3) (eC (.int 0))) (eC (.int 0)))))
 (au (aC 7 (bw (ad (eC (.str "both")) (ad (bw (ad (eC (.str "not")) (ad (bw (ad (eC (.str "not")) (ad (bw (ad (eC (.str "begins")) (ad (ah 6) ak))) ak))) ak))) (ad (bw (ad (eC (.str "either")) (ad (bw (ad (eC (.str "often")) (ad (ah 6) (ad (eC (.int 3)) ak)))) (ad (bw (ad (eC (.str "ends")) (ad (e2 lO (ah 6) (e1 oC (eC (.int 1)))) ak))) ak)))) ak)))))
 (au (aC 5 (bw (ad (ah 3) (ad (e2 gY (e2 ixA (ah 5) (eC (.int 1))) (bw (ad (ah 7) (ad (bw (ad (eC (.str "often")) (ad (e2 lO (ah 6) (e1 oC (eC (.int 1)))) (ad (eC (.int 2)) ak)))) ak)))) ak))))
 (au (aC 8 (eC (.str "")))
 (au (eP (eF (ad (eC (.int 3)) ak)) (gN 9) rJ)
 (au (aC 11 (bw (ad (ah 3) (ad (eN iP (ad (eLC true (cQ (e2 ixA (ah 5) (eC (.int 1)))) (gN 0) cY rL [none,some 3,some 4]) ak)) ak))))
 (au (aC 10 (ay bG (ad (ah 5) (ad (ah 4) ak))))
 (au (sIf (bOr (eQ (tV (e1 (aN "tuple") (ah 10)))) (bOr (eQ (tV (e1 (aN "tuple") (e2 ixA (ah 10) (eC (.int 1)))))) (tV (e2 neD (ah 10) (ah 11))))) (aQ (eC (.bool false))) br)
 (au (sIf (tV (e2 neD (ay bG (ad (bw (ad (ah 4) (ad (e2 ixA (ah 10) (eC (.int 1))) ak))) (ad (ah 3) ak))) (bw (ad (ah 4) (ad (e2 ixA (ah 5) (eC (.int 1))) ak))))) (aQ (eC (.bool false))) br)
 (au (aC 6 (ay cH (ad (ah 3) (ad (ah 4) ak))))
 (eP (eF (ad (eC (.int 4)) ak)) (gN 9) vN)))))))))))))))
noncomputable def xD:MS:=(au (eP (eF (ad (eC (.int 2)) ak)) (gN 1) vM)
 (aQ (eC (.bool true))))
noncomputable def ut:List D→Option (D × En):=fnF 11 [0] xD
theorem IV {k:Nat} (T:Bl mg)  (vO:Kn P w K mg base k "_law_pen" ["_law_script", "_law_k"] (spF K [0,0] 3 F_law_pen)) (rK:Kn P w K mg base k "_law_tongue" ["_law_pen_here", "_law_most"] (spF K [1,0] 0 dS)) (so:Kn P w K mg base k "_law_other" ["_law_pen_here", "_law_tongue_here"] (spF K [1,0] 0 eK)) (uq:Kn P w K mg base k "_law_rule" ["_law_pen_here", "_law_tongue_here", "_law_most"] (spF K [1,0,0] 0 fM)) (eZ:Kn P w K mg base k "exchanged_rule" ["rule", "other"] (spF K [0,0] 0 bG)) (mY:Kn P w K mg base k "_law_no_tongues" ["_law_tongue_here", "_law_other_here"] (spF K [0,0] 0 cH)) (eY:Kn P w K mg base k "exchanged_word" ["tongue", "other", "word"] (spF K [0,0,0] 3 bF)) (kF:Kn P w K mg base k "_law_text" ["_law_pen_here", "_law_tongue_here", "_law_most"] (spF K [1,0,0] 0 cS)) (sr:Kn P w K mg base k "_law_heard" ["_law_tongue_here", "_law_thing", "_law_word", "_law_rule_here"] (spF K [0,0,0,0] 3 eL)) (mZ:Kn P w K mg base k "_law_by" ["_law_tongue_here", "_law_other_here", "_law_text_here"] (spF K [0,0,0] 3 fy)) (fP:Kn P w K mg base k "_law_sentence_by" ["_law_tongue_here", "_law_other_here", "_law_sentence_here"] (spF K [0,0,0] 0 (aR 6))) (aL:Kn P w K mg base k "_law_draw" ["_law_pen_here", "_law_many"] (spF K [1,0] 0 F_law_draw)) (F:Fun K "law" "law" lE f fd):FnOk P w K mg base CX0 (k+1) f fd ["_law_script"] (spF K [0] 3 ut):=by
 have nd:=sclaw.nd
 refine F.okQ (N:=xz) (b:=xD) (J:=⟨[],[0,0,0,0,0,0,0,0,0,0,0,0],3,[]⟩) (ds0:=[0,0,0,0,0,0,0,0,0,0,0,0]) sclaw rfl rfl rfl rfl fun cdv A outer s H E hr=>?_
 exact (aj (cy (ds1:=[0,0,0,0,0,0,0,0,0,0,0,0]) rfl (dX rfl T.range0 (aa (am (d':=0) ai (by decide)) ae rfl) rfl) (aV (i:=1) (ds':=[0,0,0,0,0,0,0,0,0,0,0,0]) nd rfl (.inl rfl) rfl (by decide) (by decide) (.inl rfl)) (u9 (ds2:=[0,0,1,0,0,0,0,0,0,0,0,0]) (aj (aq (i:=2) (d:=1) (ds':=[0,0,1,0,0,0,0,0,0,0,0,0]) nd rfl (.inl rfl) (am (d':=1) (aW vO hr rfl (aa (ac (i:=0) rfl (.inl rfl) rfl rfl rfl) (aa (ac (i:=1) rfl (.inl rfl) rfl rfl rfl) ae rfl) rfl) rfl rfl rfl rfl rfl) (by decide)) rfl (by decide) (by decide) rfl (.inl rfl))
  (aj (aq (i:=3) (d:=0) (ds':=[0,0,1,0,0,0,0,0,0,0,0,0]) nd rfl (.inr rfl) (aT rK hr rfl (aF (i:=2) rfl (.inl rfl) (aa (am (d':=0) ai (by decide)) ae rfl) rfl rfl) rfl rfl rfl rfl) rfl (by decide) (by decide) rfl (.inl rfl))
  (aj (aq (i:=4) (d:=0) (ds':=[0,0,1,0,0,0,0,0,0,0,0,0]) nd rfl (.inr rfl) (aT so hr rfl (aF (i:=2) rfl (.inl rfl) (aa (ac (i:=3) rfl (.inr (.inl rfl)) rfl rfl rfl) ae rfl) rfl rfl) rfl rfl rfl rfl) rfl (by decide) (by decide) rfl (.inl rfl))
  (aj (aq (i:=5) (d:=0) (ds':=[0,0,1,0,0,0,0,0,0,0,0,0]) nd rfl (.inl rfl) (aT uq hr rfl (aF (i:=2) rfl (.inl rfl) (aa (ac (i:=3) rfl (.inr (.inl rfl)) rfl rfl rfl) (aa (am (d':=0) (ar rh ai ai) (by decide)) ae rfl) rfl) rfl rfl) rfl rfl rfl rfl) rfl (by decide) (by decide) rfl (.inl rfl))
  (aj (aq (i:=6) (d:=0) (ds':=[0,0,1,0,0,0,0,0,0,0,0,0]) nd rfl (.inl rfl) (xa (K:=K) (am (d':=0) (a9 fm (a9 fm (ci (K:=K) rfl PySem.F.slot_str_join PySem.F.type_str_join (dH rfl) dM az (aa (ac (i:=3) rfl (.inr (.inl rfl)) rfl rfl rfl) ae rfl) rfl rfl rfl rfl rfl rfl) (be (aT aL hr rfl (aF (i:=2) rfl (.inl rfl) (aa (am (d':=0) ai (by decide)) ae rfl) rfl rfl) rfl rfl rfl rfl)) bp) bp (be (ar bh ai (aT aL hr rfl (aF (i:=2) rfl (.inl rfl) (aa (am (d':=0) ai (by decide)) ae rfl) rfl rfl) rfl rfl rfl rfl)))) (by decide)) (kd (am (d':=0) (aJ eG (aJ (bA (K:=K) rfl) (ac (i:=3) rfl (.inr (.inl rfl)) rfl rfl rfl) ai (fun _ _=>rfl)) ai (fun _ _=>rfl)) (by decide)))) rfl (by decide) (by decide) rfl (.inl rfl))
  (aj (aq (i:=7) (d:=0) (ds':=[0,0,1,0,0,0,0,0,0,0,0,0]) nd rfl (.inl rfl) (aO (d:=0) (c:=0) (aa az (aa (aO (d:=0) (c:=0) (aa az (aa (aO (d:=0) (c:=0) (aa az (aa (aO (d:=0) (c:=0) (aa az (aa (ac (i:=6) rfl (.inl rfl) rfl rfl rfl) ae rfl) rfl) rfl rfl) ae rfl) rfl) rfl rfl) ae rfl) rfl) rfl rfl) (aa (aO (d:=0) (c:=0) (aa az (aa (aO (d:=0) (c:=0) (aa az (aa (ac (i:=6) rfl (.inl rfl) rfl rfl rfl) (aa ai ae rfl) rfl) rfl) rfl rfl) (aa (aO (d:=3) (c:=3) (aa az (aa (pD (ac (i:=6) rfl (.inl rfl) rfl rfl rfl) (lX nN ai)) ae rfl) rfl) rfl rfl) ae rfl) rfl) rfl) rfl rfl) ae rfl) rfl) rfl) rfl rfl) rfl (by decide) (by decide) rfl (.inl rfl))
  (aj (aq (i:=5) (d:=0) (ds':=[0,0,1,0,0,0,0,0,0,0,0,0]) nd rfl (.inl rfl) (aO (d:=0) (c:=0) (aa (ac (i:=3) rfl (.inr (.inl rfl)) rfl rfl rfl) (aa (ar (eI (K:=K) rfl) (aJ (bA (K:=K) rfl) (ac (i:=5) rfl (.inl rfl) rfl rfl rfl) ai (fun _ _=>rfl)) (aO (d:=0) (c:=0) (aa (ac (i:=7) rfl (.inl rfl) rfl rfl rfl) (aa (aO (d:=3) (c:=3) (aa az (aa (pD (ac (i:=6) rfl (.inl rfl) rfl rfl rfl) (lX nN ai)) (aa ai ae rfl) rfl) rfl) rfl rfl) ae rfl) rfl) rfl rfl)) ae rfl) rfl) rfl rfl) rfl (by decide) (by decide) rfl (.inl rfl))
  (aj (aq (i:=8) (d:=0) (ds':=[0,0,1,0,0,0,0,0,0,0,0,0]) nd rfl (.inl rfl) (am (d':=0) az (by decide)) rfl (by decide) (by decide) rfl (.inl rfl))
  (aj (cy (ds1:=[0,0,1,0,0,0,0,0,0,0,0,0]) rfl (dX rfl T.range0 (aa (am (d':=0) ai (by decide)) ae rfl) rfl) (aV (i:=9) (ds':=[0,0,1,0,0,0,0,0,0,0,0,0]) nd rfl (.inl rfl) rfl (by decide) (by decide) (.inl rfl)) (aj (aq (i:=10) (d:=0) (ds':=[0,0,1,0,0,0,0,0,0,0,0,0]) nd rfl (.inl rfl) (am (d':=0) (aW eY hr rfl (aa (ac (i:=3) rfl (.inr (.inl rfl)) rfl rfl rfl) (aa (ac (i:=4) rfl (.inr (.inl rfl)) rfl rfl rfl) (aa (ac (i:=8) rfl (.inl rfl) rfl rfl rfl) ae rfl) rfl) rfl) rfl rfl rfl rfl rfl) (by decide)) rfl (by decide) (by decide) rfl (.inl rfl))
  (aj (aI (ds2:=[0,0,1,0,0,0,0,0,0,0,0,0]) (qpt (dL (cx (ce (gf (K:=K) (n:="str") rfl rfl T.isinstance0 rfl T.str0 (by decide +kernel) (by decide) (ac (i:=10) rfl (.inl rfl) rfl rfl rfl) (by decide) rfl rfl rfl rfl) (fun _=>rfl))) (ef (aB (ji (K:=K) rfl hr.units) (ac (i:=10) rfl (.inl rfl) rfl rfl rfl) (aW mZ hr rfl (aa (ac (i:=3) rfl (.inr (.inl rfl)) rfl rfl rfl) (aa (ac (i:=4) rfl (.inr (.inl rfl)) rfl rfl rfl) (aa (ac (i:=8) rfl (.inl rfl) rfl rfl rfl) ae rfl) rfl) rfl) rfl rfl rfl rfl rfl) (aP _))))) (ao (aw cN rfl)) aH)
  (aj (aI (ds2:=[0,0,1,0,0,0,0,0,0,0,0,0]) (aB (ji (K:=K) rfl hr.units) (aW eY hr rfl (aa (ac (i:=4) rfl (.inr (.inl rfl)) rfl rfl rfl) (aa (ac (i:=3) rfl (.inr (.inl rfl)) rfl rfl rfl) (aa (ac (i:=10) rfl (.inl rfl) rfl rfl rfl) ae rfl) rfl) rfl) rfl rfl rfl rfl rfl) (ac (i:=8) rfl (.inl rfl) rfl rfl rfl) (aP _)) (ao (aw cN rfl)) aH)
  (ao (aq (i:=8) (d:=0) (ds':=[0,0,1,0,0,0,0,0,0,0,0,0]) nd rfl (.inl rfl) (aT kF hr rfl (aF (i:=2) rfl (.inl rfl) (aa (ac (i:=3) rfl (.inr (.inl rfl)) rfl rfl rfl) (aa (am (d':=0) (gU (K:=K) rfl (bc (d:=3) (c:=3) (aa ai (aa ai ae rfl) rfl) rfl rfl (by decide)) (ar fT (ac (i:=9) rfl (.inl rfl) rfl rfl rfl) ai) (fun _ _=>rfl) (by decide)) (by decide)) ae rfl) rfl) rfl rfl) rfl rfl rfl rfl) rfl (by decide) (by decide) rfl (.inl rfl)))))) PassesOwn.never (fun _=>rfl))
  (aj (aq (i:=11) (d:=0) (ds':=[0,0,1,0,0,0,0,0,0,0,0,0]) nd rfl (.inl rfl) (aO (d:=0) (c:=0) (aa (ac (i:=3) rfl (.inr (.inl rfl)) rfl rfl rfl) (aa (bY (gc (K:=K) rfl) rfl T.tuple0 (by decide +kernel) (aa (am (d':=0) (c9 (cd:=0) (d:=1) (dsi:=[0,0,0]) (lk:=[1,2]) (BlkOkC.of (ns:=["_law_sentence_here", "_law_tongue_here", "_law_other_here"]) (js:=[none,some 3,some 4]) (N0:=xz) (sc0:=av lE) rfl rfl (by decide +kernel)) rfl (bM (K:=K) rfl (aJ (bA (K:=K) rfl) (ac (i:=5) rfl (.inl rfl) rfl rfl rfl) ai (fun _ _=>rfl))) (fun _ _ _ _ _=>(aV (i:=0) (ds':=[0,0,0]) (show (["_law_sentence_here", "_law_tongue_here", "_law_other_here"]:List Str).Nodup by decide +kernel) rfl (.inl rfl) rfl (by decide) (by decide) (.inr rfl))) (fun _ _ _ _ _=>cc) (fun _ _ _ _ _=>(aW fP hr rfl (aa (ac (i:=1) rfl (.inr (.inl rfl)) rfl rfl rfl) (aa (ac (i:=2) rfl (.inr (.inl rfl)) rfl rfl rfl) (aa (ac (i:=0) rfl (.inl rfl) rfl rfl rfl) ae rfl) rfl) rfl) rfl rfl rfl rfl rfl)) rfl rfl (by decide) rfl (fun _=>rfl)) (by decide)) ae rfl) rfl (by decide) rfl rfl rfl) ae rfl) rfl) rfl rfl) rfl (by decide) (by decide) rfl (.inl rfl))
  (aj (aq (i:=10) (d:=0) (ds':=[0,0,1,0,0,0,0,0,0,0,0,0]) nd rfl (.inl rfl) (aW eZ hr rfl (aa (ac (i:=5) rfl (.inl rfl) rfl rfl rfl) (aa (ac (i:=4) rfl (.inr (.inl rfl)) rfl rfl rfl) ae rfl) rfl) rfl rfl rfl rfl rfl) rfl (by decide) (by decide) rfl (.inl rfl))
  (aj (aI (ds2:=[0,0,1,0,0,0,0,0,0,0,0,0]) (qpt (dL (cx (ce (gf (K:=K) (n:="tuple") rfl rfl T.isinstance0 rfl T.tuple0 (by decide +kernel) (by decide) (ac (i:=10) rfl (.inl rfl) rfl rfl rfl) (by decide) rfl rfl rfl rfl) (fun _=>rfl))) (dL (cx (ce (gf (K:=K) (n:="tuple") rfl rfl T.isinstance0 rfl T.tuple0 (by decide +kernel) (by decide) (aJ (bA (K:=K) rfl) (ac (i:=10) rfl (.inl rfl) rfl rfl rfl) ai (fun _ _=>rfl)) (by decide) rfl rfl rfl rfl) (fun _=>rfl))) (ef (aB (ji (K:=K) rfl hr.units) (ac (i:=10) rfl (.inl rfl) rfl rfl rfl) (ac (i:=11) rfl (.inl rfl) rfl rfl rfl) (aP _)))))) (ao (aw cN rfl)) aH)
  (aj (aI (ds2:=[0,0,1,0,0,0,0,0,0,0,0,0]) (aB (ji (K:=K) rfl hr.units) (aW eZ hr rfl (aa (aO (d:=0) (c:=0) (aa (ac (i:=4) rfl (.inr (.inl rfl)) rfl rfl rfl) (aa (aJ (bA (K:=K) rfl) (ac (i:=10) rfl (.inl rfl) rfl rfl rfl) ai (fun _ _=>rfl)) ae rfl) rfl) rfl rfl) (aa (ac (i:=3) rfl (.inr (.inl rfl)) rfl rfl rfl) ae rfl) rfl) rfl rfl rfl rfl rfl) (aO (d:=0) (c:=0) (aa (ac (i:=4) rfl (.inr (.inl rfl)) rfl rfl rfl) (aa (aJ (bA (K:=K) rfl) (ac (i:=5) rfl (.inl rfl) rfl rfl rfl) ai (fun _ _=>rfl)) ae rfl) rfl) rfl rfl) (aP _)) (ao (aw cN rfl)) aH)
  (aj (aq (i:=6) (d:=0) (ds':=[0,0,1,0,0,0,0,0,0,0,0,0]) nd rfl (.inl rfl) (aW mY hr rfl (aa (ac (i:=3) rfl (.inr (.inl rfl)) rfl rfl rfl) (aa (ac (i:=4) rfl (.inr (.inl rfl)) rfl rfl rfl) ae rfl) rfl) rfl rfl rfl rfl rfl) rfl (by decide) (by decide) rfl (.inl rfl))
  (ao (cy (ds1:=[0,0,1,0,0,0,0,0,0,0,0,0]) rfl (dX rfl T.range0 (aa (am (d':=0) ai (by decide)) ae rfl) rfl) (aV (i:=9) (ds':=[0,0,1,0,0,0,0,0,0,0,0,0]) nd rfl (.inl rfl) rfl (by decide) (by decide) (.inl rfl)) (ao (aI (ds2:=[0,0,1,0,0,0,0,0,0,0,0,0]) (cx (ce (aW sr hr rfl (aa (ac (i:=3) rfl (.inr (.inl rfl)) rfl rfl rfl) (aa (aJ (bA (K:=K) rfl) (ac (i:=6) rfl (.inl rfl) rfl rfl rfl) (aT aL hr rfl (aF (i:=2) rfl (.inl rfl) (aa (am (d':=0) (aU (cL (K:=K) rfl) rfl T.len0 (by decide +kernel) (aa (ac (i:=6) rfl (.inl rfl) rfl rfl rfl) ae rfl) rfl (by decide) rfl rfl rfl) (by decide)) ae rfl) rfl rfl) rfl rfl rfl rfl) (fun _ _=>rfl)) (aa (ac (i:=8) rfl (.inl rfl) rfl rfl rfl) (aa (ac (i:=5) rfl (.inl rfl) rfl rfl rfl) ae rfl) rfl) rfl) rfl) rfl rfl rfl rfl rfl) (fun _=>rfl))) (ao (aw cN rfl)) aH)) PassesOwn.never (fun _=>rfl))))))))))))))))) rfl) PassesOwn.never (fun _=>rfl))
  (ao (aw cN rfl)))
end
end W39
set_option maxHeartbeats 1000000
namespace W39
open PySem L2 Tg
theorem oI {s u:MS} {K:Fl→Prop} {b:Bool} {en:En} (h1:kIf s u K (true,en)) (h2:kIf s u K (false,en)):kIf s u K (b,en):=by
 cases b
 ·exact h2
 ·exact h1
def dG (a b c:Int):D:=.list [.int a,.int b,.int c]
def Pn (n:Nat) (t:D):Prop:=∃ a b c,t=dG a b c∧0≤c∧c≤(n:Int)
theorem Pn.mono {n m:Nat} {t:D} (h:Pn n t) (e:n≤m):Pn m t:=by
 obtain ⟨a,b,c,rfl,h1,h2⟩:=h
 exact ⟨a,b,c,rfl,h1,by omega⟩
theorem bK {p:D} {m:Int} {n:Nat} (hp:Pn n p) (hn:n≤1000000) (h3:0 < m) (h4:m < 1073741824) {Q:D × En→Prop} (h:∀ r p',0≤r→r < m→Pn (n+1) p'→Q (.int r,[some p',none])):W (F_law_draw [p,.int m]) Q:=by
 obtain ⟨a,b,c,rfl,c0,c1⟩:=hp
 have m0:∀ z:Int,0≤z % m:=fun z=>Int.emod_nonneg _ (by omega)
 have m1:∀ z:Int,z % m < m:=fun z=>Int.emod_lt_of_pos _ h3
 by_cases ha:0 < a
 ·simp only [ws,F_law_draw,dz,dG,ha,h3,h4]
  exact ⟨⟨h3,h4⟩,h _ _ (m0 _) (m1 _) ⟨_,_,_,rfl,by omega,by omega⟩⟩
 ·simp only [ws,F_law_draw,dz,dG,ha,h3,h4]
  refine ⟨.inl (by decide),by decide,.inl ?_,by decide,.inl (by decide),.inl ?_,by decide,⟨by decide,by decide⟩,h _ _ (m0 _) (m1 _) ⟨_,_,_,rfl,by omega,by omega⟩⟩
  ·constructor <;> omega
  ·generalize (b+69621 * (c+1)+13) % 2147483629 * ((b+69621 * (c+1)+13) % 2147483629)=x
   constructor <;> omega
theorem Db {ns:List Int} {k:Int} (h0:0≤k) (hl:ns.length≤63) {Q:D × En→Prop} (h:∀ p,Pn 0 p→Q (p,[none,none])):W (F_law_pen [.list (ns.map .int),.int k]) Q:=by
 have pw:iy 10 18:=by unfold iy; decide
 simp only [ws,F_law_pen,dy]
 refine ⟨.inl (by decide),?_⟩
 by_cases hk:k < (ns.length:Int)
 ·have ec:atI (ns.map PyData.int) k=some (.int (ns[k.toNat]'(by omega))):=Da h0 (by rw [List.getElem?_map,List.getElem?_eq_getElem (by omega)]; rfl)
  simp only [ws,hk,ec]
  refine ⟨pw,oI ?_ ?_⟩ <;> simp only [ws]
  ·exact ⟨pw,by decide,h _ ⟨_,_,0,rfl,by decide,by decide⟩⟩
  ·exact ⟨by decide,h _ ⟨_,_,0,rfl,by decide,by decide⟩⟩
 ·by_cases hn:(0:Int) < ns.length
  ·obtain ⟨c,ec⟩:∃ c,atI (ns.map PyData.int) (k % (ns.length:Int))=some (.int c):=by
    have q1:0≤k % (ns.length:Int):=Int.emod_nonneg _ (by omega)
    have q2:k % (ns.length:Int) < ns.length:=Int.emod_lt_of_pos _ (by omega)
    refine ⟨ns[(k % (ns.length:Int)).toNat]'(by omega),Da q1 ?_⟩
    rw [List.getElem?_map,List.getElem?_eq_getElem (by omega)]
    rfl
   simp only [ws,hk,hn,ec]
   refine ⟨by decide,.inl (by decide),pw,oI ?_ ?_⟩ <;> simp only [ws]
   ·exact ⟨pw,by decide,h _ ⟨_,_,0,rfl,by decide,by decide⟩⟩
   ·exact ⟨by decide,h _ ⟨_,_,0,rfl,by decide,by decide⟩⟩
  ·simp only [ws,hk,hn]
   refine ⟨pw,oI ?_ ?_⟩ <;> simp only [ws]
   ·exact ⟨pw,by decide,h _ ⟨_,_,0,rfl,by decide,by decide⟩⟩
   ·exact ⟨by decide,h _ ⟨_,_,0,rfl,by decide,by decide⟩⟩
end W39
namespace W39
open PySem L2 Tg
theorem lu (xs:List Nat) (n:Nat):db xs none (some (n:Int))=xs.take n:=by
 unfold db
 rw [HT.sIx_none,HT.sIx_nat]
 simp
theorem j6:∀ ns:List Int,fR (ns.map PyData.int)=some ns
 | []=>rfl
 | n :: ns=>by
  show (fR (ns.map PyData.int)).map (n :: ·)=_
  rw [j6 ns]
  rfl
theorem vV (ns:List Int):oq [.list (ns.map .int)]=some (.int ns.sum):=by
 show (fR _).map _=_
 rw [j6]
 rfl
theorem wt {ns:List Int} (h:ns≠[]):p9 [.list (ns.map .int)]=some (.int (dI ns)):=by
 show (fR _).bind _=_
 rw [j6]
 show grd _ _=_
 unfold grd
 rw [if_pos h]
theorem bnd {a:Int} (h:1≤a∧a≤6):(if a=0 then 0 else a.natAbs.log2+1)≤4:=by
 have:a=1∨a=2∨a=3∨a=4∨a=5∨a=6:=by omega
 rcases this with rfl | rfl | rfl | rfl | rfl | rfl <;> decide
theorem uV {ns:List Int} (hl:ns.length≤4) (h:∀ n∈ns,1≤n∧n≤6):(PyData.list (ns.map PyData.int)).layable0=true:=by
 match ns,hl,h with
 | [],_,_=>decide
 | [a],_,h =>
  have ha:=bnd (h a (by simp))
  simp [PyData.layable0,PyData.canLay0,PyData.weight,PyData.depth,PyData.canLayAll0,PyData.weightAll,PyData.depthAll]
  omega
 | [a,b],_,h =>
  have ha:=bnd (h a (by simp))
  have hb:=bnd (h b (by simp))
  simp [PyData.layable0,PyData.canLay0,PyData.weight,PyData.depth,PyData.canLayAll0,PyData.weightAll,PyData.depthAll]
  omega
 | [a,b,c],_,h =>
  have ha:=bnd (h a (by simp))
  have hb:=bnd (h b (by simp))
  have hc:=bnd (h c (by simp))
  simp [PyData.layable0,PyData.canLay0,PyData.weight,PyData.depth,PyData.canLayAll0,PyData.weightAll,PyData.depthAll]
  omega
 | [a,b,c,d],_,h =>
  have ha:=bnd (h a (by simp))
  have hb:=bnd (h b (by simp))
  have hc:=bnd (h c (by simp))
  have hd:=bnd (h d (by simp))
  simp [PyData.layable0,PyData.canLay0,PyData.weight,PyData.depth,PyData.canLayAll0,PyData.weightAll,PyData.depthAll]
  omega
theorem t9 {ns:List Int} {m:Int} (hl:ns.length≤4) (h:∀ n∈ns,1≤n∧n≤6) (hm:m∈ns):iY (.list (ns.map .int)) (.int m)=some (.int (ns.idxOf m:Nat)):=by
 show (fR _).bind _=_
 rw [j6]
 show grd _ _=_
 unfold grd
 rw [if_pos ⟨uV hl h,hm⟩]
structure Sz (ns:List Int):Prop where
 l1:1≤ns.length
 l4:ns.length≤4
 b:∀ n∈ns,1≤n∧n≤6
theorem uA:∀ (ns:List Int) (k:Int),(∀ n∈ns,n≤k)→ns.sum≤k * ns.length
 | [],k,_=>by simp
 | a :: r,k,h=>by
  have h1:=h a List.mem_cons_self
  have h2:=uA r k fun n hn=>h n (List.mem_cons_of_mem _ hn)
  rw [List.sum_cons,List.length_cons]
  have e:k * ((r.length+1:Nat):Int)=k * (r.length:Int)+k:=by rw [Int.natCast_add,Int.mul_add]; simp
  omega
theorem m8:∀ (ns:List Int),(∀ n∈ns,1≤n)→(ns.length:Int)≤ns.sum
 | [],_=>by simp
 | a :: r,h=>by
  have h1:=h a List.mem_cons_self
  have h2:=m8 r fun n hn=>h n (List.mem_cons_of_mem _ hn)
  rw [List.sum_cons,List.length_cons]
  omega
theorem sv:∀ (ns:List Int) (i:Nat) (x y:Int),ns[i]?=some x→(ns.set i y).sum=ns.sum - x+y
 | [],i,x,y,h=>by simp at h
 | a :: r,0,x,y,h=>by
  simp at h
  subst h
  simp
  omega
 | a :: r,i+1,x,y,h=>by
  rw [List.getElem?_cons_succ] at h
  rw [List.set_cons_succ,List.sum_cons,List.sum_cons,sv r i x y h]
  omega
theorem DG {ns:List Int} {m:Int} (h:m∈ns):ns.idxOf m < ns.length∧ns[ns.idxOf m]?=some m:=by
 have:=List.idxOf_lt_length_of_mem h
 exact ⟨this,by rw [List.getElem?_eq_getElem this,List.getElem_idxOf]⟩
theorem wu {ns:List Int} {a b c d:Option D} {rest:En} (hS:Sz ns) {Q:Fl→Prop} (h:∀ ms,Sz ms→ms.sum≤12→Q (.nx (a :: b :: c :: d :: some (.list (ms.map .int)) :: rest))) :
  W (du dP fL (a :: b :: c :: d :: some (.list (ns.map .int)) :: rest)) Q:=by
 refine Er (fun n en=>∃ ms,en=a :: b :: c :: d :: some (.list (ms.map .int)) :: rest∧Sz ms∧ms.sum=(n:Int)) (fun n en ⟨ms,e,S,hn⟩=>?_) (n:=ns.sum.toNat) ⟨ns,rfl,hS,by have:=m8 ns fun n hn=>(hS.b n hn).1; omega⟩
 subst e
 have e1:=vV ms
 by_cases h12:(12:Int) < ms.sum
 ·simp only [ws,dP,e1,h12]
  have hne:ms≠[]:=fun z=>by have:=S.l1; rw [z] at this; simp at this
  have e2:=wt hne
  have hm:=mK hne
  have e3:=t9 S.l4 S.b hm
  obtain ⟨i1,i2⟩:=DG hm
  have hm3:4≤dI ms:=by
   refine Classical.byContradiction fun z=>?_
   have:=uA ms 3 fun n hn=>by have:=oG hn; omega
   have:=S.l4
   omega
  simp only [ws,fL,e2,e3]
  have e4:iR (List.map PyData.int ms) ((ms.idxOf (dI ms):Nat):Int) (PyData.int (dI ms - 1))=some ((ms.set (ms.idxOf (dI ms)) (dI ms - 1)).map .int):=by
   rw [gb _ (by rw [List.length_map]; exact i1),List.map_set]
  simp only [ws,e4]
  have hs:=sv ms _ _ (dI ms - 1) i2
  refine ⟨n - 1,by omega,ms.set (ms.idxOf (dI ms)) (dI ms - 1),rfl,⟨by rw [List.length_set]; exact S.l1,by rw [List.length_set]; exact S.l4,fun x hx=>?_⟩,by omega⟩
  rcases List.mem_or_eq_of_mem_set hx with hx | rfl
  ·exact S.b x hx
  ·have:=(S.b _ hm).2
   omega
 ·simp only [ws,dP,e1,h12]
  exact h ms S (by omega)
theorem lV (a b:Str):(a++b).length=a.length+b.length:=by
 show (a.cps++b.cps).size=_
 rw [Array.size_append]
 rfl
theorem eE (a b:Str):li (a++b)=li a++li b:=Array.toList_append
theorem jk (xs:List Nat) (n:Nat):db xs (some (n:Int)) none=xs.drop n:=by
 unfold db
 rw [HT.sIx_none,HT.sIx_nat]
 rcases Nat.le_total n xs.length with h | h
 ·rw [Nat.min_eq_left h,List.take_of_length_le (by rw [List.length_drop]; omega)]
 ·rw [Nat.min_eq_right h,List.drop_of_length_le (Nat.le_refl _),List.drop_of_length_le h]
  simp
theorem lA {z:Str} {k:Nat} (h:k < (li z).length):atI (li z) (k:Int)=some (li z)[k]:=by
 rw [bn,List.getElem?_eq_getElem h]
theorem xo {m n:Nat} {p:D} {z y:Str} {b d e f g h8 h9:Option D} (hp:Pn n p) (hn:n+m≤1000000) (hz:m+1≤(li z).length) (hz2:(li z).length≤1000) (hy:(li y).length+m≤1000) {Q:Fl→Prop}
  (h:∀ p' z' y' o8 o9,Pn (n+m) p'→(li z').length+m=(li z).length→(li y').length=(li y).length+m→(li y'++li z').Perm (li y++li z)→Q (.nx [some p',b,some (.str z'),d,e,f,g,some (.str y'),o8,o9])) :
  W (eh (gN 8) hV (kW 0 m) [some p,b,some (.str z),d,e,f,g,some (.str y),h8,h9]) Q:=by
 have ll:∀ z:Str,(li z).length=z.length:=fun z=>Array.length_toList
 refine gC (fun i en=>∃ p' z' y' o8 o9,en=[some p',b,some (.str z'),d,e,f,g,some (.str y'),o8,o9]∧Pn (n+i) p'∧(li z').length+i=(li z).length∧(li y').length=(li y).length+i∧(li y'++li z').Perm (li y++li z)) ⟨p,z,y,h8,h9,rfl,hp,rfl,rfl,List.Perm.refl _⟩ (fun i t en ht ⟨p',z',y',o8,o9,e1,q1,q2,q3,q4⟩=>?_) fun en ⟨p',z',y',o8,o9,e1,q1,q2,q3,q4⟩=>?_
 ·obtain ⟨hi,rfl⟩:=gn ht
  subst e1
  simp only [ws,hV]
  have l1:=ll z'
  have l2:=ll y'
  refine ⟨sz (by omega),bK q1 (by omega) (by omega) (by omega) fun r p2 r0 r1 hp2=>?_⟩
  obtain ⟨k,rfl⟩:=Int.eq_ofNat_of_zero_le r0
  have hk:k < (li z').length:=by omega
  have ek:=lA hk
  simp only [ws,ek]
  have c1:db z'.cps.toList none (some (k:Int))=(li z').take k:=lu _ _
  have c2:db z'.cps.toList (some ((k:Int)+1)) none=(li z').drop (k+1):=jk _ (k+1)
  rw [c1,c2]
  have t1:((⟨((li z').take k).toArray⟩:Str)).length=k:=by rw [show (⟨((li z').take k).toArray⟩:Str)=ofL ((li z').take k) from rfl,cZ,List.length_take]; omega
  have t2:((⟨((li z').drop (k+1)).toArray⟩:Str)).length=(li z').length - (k+1):=by rw [show (⟨((li z').drop (k+1)).toArray⟩:Str)=ofL ((li z').drop (k+1)) from rfl,cZ,List.length_drop]
  have t3:(mk1 (li z')[k]).length=1:=rfl
  refine ⟨sz (by omega),sz (by omega),sz (by omega),sz (by omega),sz (by omega),p2,_,_,_,_,rfl,hp2,?_,?_,?_⟩
  ·rw [ll,lV]
   omega
  ·rw [ll,lV]
   omega
  ·refine List.Perm.trans ?_ q4
   rw [eE,eE]
   show ((li y'++[(li z')[k]])++((li z').take k++(li z').drop (k+1))).Perm _
   rw [List.append_assoc]
   refine List.Perm.append_left _ ?_
   have e:li z'=(li z').take k++(li z')[k] :: (li z').drop (k+1):=by rw [List.getElem_cons_drop,List.take_append_drop]
   refine List.Perm.trans ?_ (List.Perm.of_eq e.symm)
   show ((li z')[k] :: ((li z').take k++(li z').drop (k+1))).Perm _
   exact List.perm_middle.symm
 ·rw [gL] at q1 q2 q3
  subst e1
  exact h p' z' y' o8 o9 q1 q2 q3 q4
def evs:Str:="!\"#$&'()*+,-./0123456789:;<=>?@ABCDEFGHIJKLMNOPQRSTUVWXYZ[\\]^_`abcdefghijklmnopqrstuvwxyz{|}~"
theorem Ef:(li evs).length=93:=by decide +kernel
theorem Iw:li evs=li ev:=by decide +kernel
theorem C5:(li ev).Nodup:=by decide +kernel
theorem wC {n:Nat} {ns:List Int} {p:D} {z:Str} {b d e:Option D} (hp:Pn n p) (hn:n≤1000) (hS:Sz ns) (h12:ns.sum≤12) (hz:(li z).length=93) (hze:li z=li ev) {Q:Fl→Prop}
  (h:∀ p' ks o2 o6 o7 o8 o9,Pn (n+12) p'→TOk ks→Q (.nx [some p',b,o2,d,e,some (.list (ks.map .str)),o6,o7,o8,o9])) :
  W (eh (gN 6) fK (ns.map .int) [some p,b,some (.str z),d,e,some (.list []),none,none,none,none]) Q:=by
 refine gC (fun i en=>∃ p' z' ks o6 o7 o8 o9,en=[some p',b,some (.str z'),d,e,some (.list (ks.map .str)),o6,o7,o8,o9]∧ks.length=i∧Pn (n+(aD ks).length) p'∧(li z').length+(aD ks).length=93∧((aD ks).length:Int)=(ns.take i).sum∧(aD ks++li z').Perm (li z)∧∀ y∈ks,1≤(li y).length∧(li y).length≤6) ⟨p,z,[],none,none,none,none,rfl,rfl,hp,by rw [hz]; rfl,by simp [aD],List.Perm.refl _,by simp⟩ (fun i t en ht ⟨p',z',ks,o6,o7,o8,o9,e1,q1,q2,q3,q4,q5,q6⟩=>?_) fun en ⟨p',z',ks,o6,o7,o8,o9,e1,q1,q2,q3,q4,q5,q6⟩=>?_
 ·rw [List.getElem?_map] at ht
  obtain ⟨m,hm,rfl⟩:=Option.map_eq_some_iff.mp ht
  have hb:=hS.b m (List.mem_of_getElem? hm)
  obtain ⟨k,rfl⟩:=Int.eq_ofNat_of_zero_le (by omega:0≤m)
  have hi:=(List.getElem?_eq_some_iff.mp hm).1
  have tk:(ns.take (i+1)).sum=(ns.take i).sum+(k:Int):=by
   rw [ph hm,List.sum_append]
   simp
  have tot:(ns.take (i+1)).sum≤12:=by
   have e1:ns.sum=(ns.take (i+1)).sum+(ns.drop (i+1)).sum:=by rw [← List.sum_append,List.take_append_drop]
   have e2:=m8 (ns.drop (i+1)) fun x hx=>(hS.b x (List.mem_of_mem_drop hx)).1
   omega
  subst e1
  have hl4:=hS.l4
  simp only [ws,fK,Int.toNat_natCast]
  refine ⟨by omega,xo (m:=k) q2 (by omega) (by omega) (by omega) (by show 0+k≤1000; omega) fun p2 z2 y2 o8 o9 r1 r2 r3 r4=>?_⟩
  have r3':(li y2).length=k:=by rw [r3]; show 0+k=k; omega
  simp only [ws]
  have al:(aD (ks++[y2])).length=(aD ks).length+k:=by
   rw [pN,List.length_append,r3']
  refine ⟨szl (by omega),p2,z2,ks++[y2],_,_,_,_,by rw [List.map_append]; rfl,by rw [List.length_append,q1]; rfl,by rw [al]; exact r1.mono (by omega),by rw [al]; omega,?_,?_,fun y hy=>?_⟩
  ·rw [al,tk]
   omega
  ·refine List.Perm.trans ?_ q5
   rw [pN,List.append_assoc]
   exact List.Perm.append_left _ r4
  ·rcases List.mem_append.mp hy with q | q
   ·exact q6 y q
   ·rw [List.mem_singleton.mp q,r3']; omega
 ·subst e1
  rw [List.length_map] at q1 q4
  rw [List.take_length] at q4
  have g1:=m8 ns fun x hx=>(hS.b x hx).1
  have g2:=hS.l1
  refine h p' ks _ _ _ _ _ (q2.mono (by omega)) ⟨by omega,by rw [q1]; exact hS.l4,q6,((q5.nodup_iff.mpr (hze ▸ C5)).sublist (List.sublist_append_left _ _)),by omega,by omega,fun c hc=>hze ▸ q5.mem_iff.mp (List.mem_append_left _ hc)⟩
theorem vY {n m:Nat} {p:D} (hp:Pn n p) (hn:n≤1000) (hm:m≤4) {Q:List D × En→Prop} (h:∀ (ns:List Int) p' o,ns.length=m→(∀ x∈ns,1≤x∧x≤6)→Pn (n+4) p'→Q (ns.map .int,[o,some p',some (.int 6)])) :
  W (lcF (gN 0) cY hZ (kW 0 m) [] [none,some p,some (.int 6)]) Q:=by
 refine J3 (fun i us en=>∃ (ns:List Int) (p':D) (o:Option D),us=ns.map .int∧en=[o,some p',some (.int 6)]∧ns.length=i∧(∀ x∈ns,1≤x∧x≤6)∧Pn (n+i) p') (by rw [gL]; exact sz (by omega)) ⟨[],p,none,rfl,rfl,rfl,by simp,hp⟩ (fun i t us en ht hu ⟨ns,p',o,e1,e2,h1,h2,h3⟩=>?_) fun us en _ ⟨ns,p',o,e1,e2,h1,h2,h3⟩=>?_
 ·obtain ⟨hi,rfl⟩:=gn ht
  subst e1 e2
  simp only [ws,hZ]
  refine bK h3 (by omega) (by decide) (by decide) fun r p2 r0 r1 hp2=>?_
  simp only [ws]
  refine ⟨ns++[1+r],p2,_,by rw [List.map_append]; rfl,rfl,by rw [List.length_append,h1]; rfl,fun x hx=>?_,hp2⟩
  rcases List.mem_append.mp hx with hx | hx
  ·exact h2 x hx
  ·rw [List.mem_singleton.mp hx]
   omega
 ·subst e1 e2
  rw [gL] at h1 h3
  exact h ns p' o h1 h2 (h3.mono (by omega))
theorem jF {ns:List Int} {p:D} {x3:Option D} (hS:Sz ns) (hp:Pn 8 p) {Q:D × En→Prop} (h:∀ ks p',TOk ks→Pn 30 p'→Q (tD ks,[some p',none])) :
  W (du dP fL [some p,some (.int 6),some (.str evs),x3,some (.list (ns.map .int)),none,none,none,none,none])
   (qU (au (aC 5 (bO ak)) (au (eP (cQ (ah 4)) (gN 6) fK) (aQ (eN iP (ad (ah 5) ak))))) (kFn [1,0] Q)):=by
 refine wu hS fun ms hS2 h12=>?_
 simp only [ws]
 refine wC hp (by decide) hS2 h12 Ef Iw fun p' ks o2 o6 o7 o8 o9 hp' hT=>?_
 simp only [ws]
 exact h ks p' hT (hp'.mono (by decide))
theorem ux {p:D} (hp:Pn 0 p):W (dS [p,.int 6]) (fun r=>∃ ks p',r=(tD ks,[some p',none])∧TOk ks∧Pn 30 p'):=by
 have hQ:∀ ks p',TOk ks→Pn 30 p'→(fun r:D × En=>∃ ks p',r=(tD ks,[some p',none])∧TOk ks∧Pn 30 p') (tD ks,[some p',none]):=fun ks p' h1 h2=>⟨ks,p',rfl,h1,h2⟩
 revert hQ
 generalize (fun r:D × En=>∃ ks p',r=(tD ks,[some p',none])∧TOk ks∧Pn 30 p')=Q
 intro hQ
 simp only [dS,jc,ws]
 refine bK hp (by decide) (by decide) (by decide) fun r p1 r0 r1 hp1=>?_
 obtain ⟨k,rfl⟩:=Int.eq_ofNat_of_zero_le r0
 have ek:((1:Int)+(k:Int)).toNat=k+1:=by omega
 simp only [ws,ek]
 refine ⟨by omega,vY (m:=k+1) hp1 (by decide) (by omega) fun ns p2 o hl hb hp2=>?_⟩
 simp only [ws]
 refine bK hp2 (by decide) (by decide) (by decide) fun r p3 r0 r1 hp3=>?_
 by_cases hr:r=0
 ·simp only [ws,hr]
  refine bK hp3 (by decide) (by decide) (by decide) fun r p4 r0 r1 hp4=>?_
  have:r=0∨r=1∨r=2∨r=3:=by omega
  rcases this with rfl | rfl | rfl | rfl <;> simp only [ws]
  ·exact jF (ns:=[6,6]) ⟨by decide,by decide,by decide⟩ (hp4.mono (by decide)) hQ
  ·exact jF (ns:=[4,4,4]) ⟨by decide,by decide,by decide⟩ (hp4.mono (by decide)) hQ
  ·exact jF (ns:=[3,3,3,3]) ⟨by decide,by decide,by decide⟩ (hp4.mono (by decide)) hQ
  ·exact jF (ns:=[6,1,5]) ⟨by decide,by decide,by decide⟩ (hp4.mono (by decide)) hQ
 ·simp only [ws,hr]
  exact jF ⟨by omega,by omega,hb⟩ (hp3.mono (by decide)) hQ
end W39
namespace W39
open PySem L2 Tg
section
variable {ks:List Str}
structure GW (ks:List Str) (m:Nat) (z:Str):Prop where
 l1:1≤(li z).length
 lm:(li z).length≤m
 mem:∀ c∈li z,c∈aD ks
theorem ll (z:Str):(li z).length=z.length:=Array.length_toList
theorem ou (ks:List Str):(sgs ks).length=(aD ks).length:=cZ _
theorem iW (ks:List Str):li (sgs ks)=aD ks:=rfl
theorem su (T:TOk ks) {p:D} {n m:Nat} (hp:Pn n p) (hn:n≤100000) (hm:1≤m) (hm6:m≤60):W (cS [p,tD ks,.int (m:Nat)]) (fun r=>∃ z p',r=(.str z,[some p',none,none])∧GW ks m z∧Pn (n+70) p'):=by
 have t1:=T.l1
 have t12:=T.l12
 have sl:=ou ks
 simp only [cS,kI,ws,fH T]
 refine ⟨sz (by omega),bK hp (by omega) (by omega) (by omega) fun r p1 r0 r1 hp1=>?_⟩
 obtain ⟨k,rfl⟩:=Int.eq_ofNat_of_zero_le r0
 have hk:k < (li (sgs ks)).length:=by rw [iW]; omega
 have ek:=lA hk
 simp only [ws,ek]
 refine ⟨sz (by omega),bK hp1 (by omega) (by decide) (by decide) fun r p2 r0 r1 hp2=>?_⟩
 simp only [ws]
 refine bK hp2 (by omega) (by omega) (by omega) fun q p3 q0 q1 hp3=>?_
 obtain ⟨j,rfl⟩:=Int.eq_ofNat_of_zero_le q0
 simp only [ws,Int.toNat_natCast]
 refine ⟨by omega,?_⟩
 have c0:(li (sgs ks))[k]∈aD ks:=by rw [← iW ks]; exact List.getElem_mem hk
 refine gC (fun i en=>∃ p' z o6 o7,en=[some p',some (tD ks),some (.int (m:Nat)),some (.str (sgs ks)),some (.str z),some (.bool (decide (r=0))),o6,o7]∧Pn (n+3+i) p'∧(li z).length=i+1∧∀ c∈li z,c∈aD ks) ⟨p3,mk1 (li (sgs ks))[k],none,none,rfl,hp3,rfl,fun c hc=>by rw [List.mem_singleton.mp (show c∈[(li (sgs ks))[k]] from hc)]; exact c0⟩ (fun i t en ht ⟨p',z,o6,o7,e,h1,h2,h3⟩=>?_) fun en ⟨p',z,o6,o7,e,h1,h2,h3⟩=>?_
 ·obtain ⟨hi,rfl⟩:=gn ht
  subst e
  simp only [ws,lH]
  refine ⟨sz (by omega),bK h1 (by omega) (by omega) (by omega) fun r2 p4 r20 r21 hp4=>?_⟩
  obtain ⟨k2,rfl⟩:=Int.eq_ofNat_of_zero_le r20
  have hk2:k2 < (li (sgs ks)).length:=by rw [iW]; omega
  have ek2:=lA hk2
  have lz:=ll z
  have c2:(li (sgs ks))[k2]∈aD ks:=by rw [← iW ks]; exact List.getElem_mem hk2
  have z0:0 < (li z).length:=by omega
  have ez:=lA (z:=z) (k:=0) z0
  have fin:∀ c,c∈aD ks→∀ o6 o7,∃ p' z' o6' o7',[some p4,some (tD ks),some (PyData.int (m:Nat)),some (PyData.str (sgs ks)),some (PyData.str (z++mk1 c)),some (PyData.bool (decide (r=0))),o6,o7]=[some p',some (tD ks),some (PyData.int (m:Nat)),some (PyData.str (sgs ks)),some (PyData.str z'),some (PyData.bool (decide (r=0))),o6',o7']∧Pn (n+3+(i+1)) p'∧(li z').length=i+1+1∧∀ c∈li z',c∈aD ks:=fun c hc o6 o7=>by
   refine ⟨p4,z++mk1 c,o6,o7,rfl,hp4,?_,fun c' hc'=>?_⟩
   ·rw [eE,List.length_append,h2]
    rfl
   ·rw [eE] at hc'
    rcases List.mem_append.mp hc' with q | q
    ·exact h3 c' q
    ·rw [List.mem_singleton.mp (show c'∈[c] from q)]
     exact hc
  have lm:∀ c,(mk1 c).length=1:=fun _=>rfl
  simp only [ws,ek2]
  refine ⟨sz (by omega),?_⟩
  by_cases hr:r=0
  ·have q:decide (r=0)=true:=decide_eq_true hr
   simp only [q] at fin
   have ez':atI (li z) 0=some (li z)[0]:=ez
   simp only [ws,q,ez']
   exact ⟨sz (by omega),sz (by rw [lm]; omega),fin _ (h3 _ (List.getElem_mem z0)) _ _⟩
  ·have q:decide (r=0)=false:=decide_eq_false hr
   simp only [q] at fin
   simp only [ws,q]
   exact ⟨sz (by rw [lm]; omega),fin _ c2 _ _⟩
 ·subst e
  rw [gL] at h1 h2
  simp only [ws]
  exact ⟨z,p',rfl,⟨by omega,by omega,h3⟩,h1.mono (by omega)⟩
end
inductive Sn where
 | long (lo:Nat) (hi:Option Nat) | least (k m:Nat) | often (z:Str) (m:Nat) | apart
 | without (z:Str) | begins (z:Str) | ends (z:Str) | no (s:Sn) | both (s t:Sn) | either (s t:Sn)
def oD:Option Nat→D
 | none=>.none
 | some n=>.int n
def sD:Sn→D
 | .long lo hi=>.tuple [.str "long",.int lo,oD hi]
 | .least k m=>.tuple [.str "least",.int k,.int m]
 | .often z m=>.tuple [.str "often",.str z,.int m]
 | .apart=>.tuple [.str "apart"]
 | .without z=>.tuple [.str "without",.str z]
 | .begins z=>.tuple [.str "begins",.str z]
 | .ends z=>.tuple [.str "ends",.str z]
 | .no s=>.tuple [.str "not",sD s]
 | .both s t=>.tuple [.str "both",sD s,sD t]
 | .either s t=>.tuple [.str "either",sD s,sD t]
def plain:Sn→Bool
 | .no _=>false
 | .both _ _=>false
 | .either _ _=>false
 | _=>true
def dep:Sn→Nat
 | .no s=>dep s+1
 | .both s t=>max (dep s) (dep t)+1
 | .either s t=>max (dep s) (dep t)+1
 | _=>1
def GZ (ks:List Str) (m:Nat) (z:Str):Prop:=(li z).length≤m∧∀ c∈li z,c∈aD ks
def XG (ks:List Str) (m:Nat):Sn→Prop
 | .long lo hi=>lo≤3∧∀ h,hi=some h→h≤6
 | .least _ n=>n≤2
 | .often z n=>GZ ks m z∧n≤3
 | .apart=>True
 | .without z=>GZ ks m z
 | .begins z=>GZ ks m z
 | .ends z=>GZ ks m z
 | .no s=>XG ks m s
 | .both s t=>XG ks m s∧XG ks m t
 | .either s t=>XG ks m s∧XG ks m t
variable {ks:List Str}
theorem GW.gz {m:Nat} {z:Str} (g:GW ks m z):GZ ks m z:=⟨g.lm,g.mem⟩
theorem Hh:cu [tD ks]=some (.int (ks.length:Nat)):=by
 show some (PyData.int ((ks.map PyData.str).length:Nat))=_
 rw [List.length_map]
theorem wc (T:TOk ks) {p:D} {n:Nat} (hp:Pn n p) (hn:n≤50000):W (dD [p,tD ks]) (fun r=>∃ s p',r=(sD s,[some p',none])∧XG ks 3 s∧dep s=1∧Pn (n+100) p'):=by
 have t1:=T.l1
 have t12:=T.l12
 have k1:=T.n1
 have k4:=T.n4
 have sl:=ou ks
 simp only [dD,jz,ws,fH T]
 refine bK hp (by omega) (by decide) (by decide) fun r p1 r0 r8 hp1=>?_
 simp only [ws]
 by_cases w2:r < 2
 ·simp only [ws,w2]
  refine bK hp1 (by omega) (by decide) (by decide) fun lo p2 l0 l4 hp2=>?_
  obtain ⟨a,rfl⟩:=Int.eq_ofNat_of_zero_le l0
  simp only [ws]
  refine bK hp2 (by omega) (by decide) (by decide) fun hi p3 i0 i4 hp3=>?_
  obtain ⟨b,rfl⟩:=Int.eq_ofNat_of_zero_le i0
  simp only [ws]
  refine bK hp3 (by omega) (by decide) (by decide) fun q p4 q0 q3 hp4=>?_
  by_cases hq:q=0
  ·have e:decide (q=0)=true:=decide_eq_true hq
   simp only [ws,e]
   exact ⟨.long a none,p4,rfl,⟨by omega,fun _ z=>by cases z⟩,rfl,hp4.mono (by omega)⟩
  ·have e:decide (q=0)=false:=decide_eq_false hq
   simp only [ws,e]
   exact ⟨.long a (some (a+b)),p4,by show _=(PyData.tuple [.str "long",.int a,.int ((a+b:Nat):Int)],_); rw [Int.natCast_add],⟨by omega,fun _ z=>by cases z; omega⟩,rfl,hp4.mono (by omega)⟩
 by_cases w3:r=2
 ·have e:decide (r=2)=true:=decide_eq_true w3
  simp only [ws,w2,e]
  simp only [ws,Hh]
  refine bK hp1 (by omega) (by omega) (by omega) fun a p2 a0 a4 hp2=>?_
  obtain ⟨a,rfl⟩:=Int.eq_ofNat_of_zero_le a0
  simp only [ws]
  refine bK hp2 (by omega) (by decide) (by decide) fun b p3 b0 b4 hp3=>?_
  obtain ⟨b,rfl⟩:=Int.eq_ofNat_of_zero_le b0
  simp only [ws]
  exact ⟨.least a b,p3,rfl,by show b≤2; omega,rfl,hp3.mono (by omega)⟩
 by_cases w4:r=3
 ·have e:decide (r=2)=false:=decide_eq_false w3
  have e2:decide (r=3)=true:=decide_eq_true w4
  simp only [ws,w2,e,e2]
  refine ⟨sz (by omega),bK hp1 (by omega) (by omega) (by omega) fun a p2 a0 a4 hp2=>?_⟩
  obtain ⟨a,rfl⟩:=Int.eq_ofNat_of_zero_le a0
  have ha:a < (li (sgs ks)).length:=by rw [iW]; omega
  have ea:=lA ha
  simp only [ws,ea]
  refine ⟨sz (by omega),bK hp2 (by omega) (by decide) (by decide) fun b p3 b0 b4 hp3=>?_⟩
  obtain ⟨b,rfl⟩:=Int.eq_ofNat_of_zero_le b0
  have ec:db (sgs ks).cps.toList (some ((a:Int)+1)) (some ((a:Int)+1+(b:Int)))=((li (sgs ks)).drop (a+1)).take b:=by
   show db (li (sgs ks)) (some ((a+1:Nat):Int)) (some ((a+1+b:Nat):Int))=_
   unfold db
   rw [HT.sIx_nat,HT.sIx_nat,Nat.min_eq_left (by omega:a+1≤(li (sgs ks)).length)]
   rcases Nat.le_total (a+1+b) (li (sgs ks)).length with h | h
   ·rw [Nat.min_eq_left h,show a+1+b - (a+1)=b by omega]
   ·rw [Nat.min_eq_right h,List.take_of_length_le (by rw [List.length_drop]; omega),List.take_of_length_le (by rw [List.length_drop]; omega)]
  simp only [ws,ec]
  have l1:(mk1 (li (sgs ks))[a]).length=1:=rfl
  have l2:(⟨(((li (sgs ks)).drop (a+1)).take b).toArray⟩:Str).length≤1:=by
   rw [show (⟨(((li (sgs ks)).drop (a+1)).take b).toArray⟩:Str)=ofL (((li (sgs ks)).drop (a+1)).take b) from rfl,cZ,List.length_take]
   omega
  refine ⟨sz (by omega),sz (by omega),bK hp3 (by omega) (by decide) (by decide) fun c p4 c0 c4 hp4=>?_⟩
  obtain ⟨c,rfl⟩:=Int.eq_ofNat_of_zero_le c0
  simp only [ws]
  refine ⟨.often (mk1 (li (sgs ks))[a]++⟨(((li (sgs ks)).drop (a+1)).take b).toArray⟩) c,p4,rfl,⟨⟨by rw [ll,lV]; omega,fun x hx=>?_⟩,by omega⟩,rfl,hp4.mono (by omega)⟩
  rw [eE] at hx
  rcases List.mem_append.mp hx with h | h
  ·rw [List.mem_singleton.mp (show x∈[(li (sgs ks))[a]] from h),← iW ks]
   exact List.getElem_mem ha
  ·rw [← iW ks]
   exact List.mem_of_mem_drop (List.mem_of_mem_take (show x∈((li (sgs ks)).drop (a+1)).take b from h))
 have e:decide (r=2)=false:=decide_eq_false w3
 have e2:decide (r=3)=false:=decide_eq_false w4
 by_cases w5:r=4
 ·have e3:decide (r=4)=true:=decide_eq_true w5
  simp only [ws,w2,e,e2,e3]
  exact ⟨.apart,p1,rfl,trivial,rfl,hp1.mono (by omega)⟩
 ·have e3:decide (r=4)=false:=decide_eq_false w5
  have:r - 5=0∨r - 5=1∨r - 5=2:=by omega
  simp only [ws,w2,e,e2,e3]
  rcases this with h | h | h <;> rw [h] <;> simp only [ws] <;> refine W.use (su T hp1 (m:=3) (by omega) (by decide) (by decide)) ?_ <;> rintro _ ⟨z,p2,rfl,gz,hp2⟩ <;> simp only [ws]
  ·exact ⟨.without z,p2,rfl,gz.gz,rfl,hp2.mono (by omega)⟩
  ·exact ⟨.begins z,p2,rfl,gz.gz,rfl,hp2.mono (by omega)⟩
  ·exact ⟨.ends z,p2,rfl,gz.gz,rfl,hp2.mono (by omega)⟩
theorem lN (T:TOk ks):∀ (k d n:Nat) (p:D),1≤d→d≤k→d≤3→Pn n p→n+100 * 3 ^ d≤50000→W (bu k [p,tD ks,.int (d:Nat)]) (fun r=>∃ s p',r=(sD s,[some p',none,none])∧XG ks 3 s∧dep s≤d∧Pn (n+100 * 3 ^ d) p')
 | 0,d,n,p,h1,h2,_,_,_=>by omega
 | k+1,d,n,p,h1,h2,h3,hp,hn=>by
  have pd:1≤3 ^ d:=Nat.pow_pos (by decide)
  have plainS:∀ {n':Nat} {p':D} {x3 x4:Option D},Pn n' p'→n'≤n+1→W ((aQ (ay dD (bf 0 (ad (ah 1) ak)))) [some p',some (tD ks),some (.int (d:Nat)),x3,x4]) (kFn [1,0,0] fun r=>∃ s p',r=(sD s,[some p',none,none])∧XG ks 3 s∧dep s≤d∧Pn (n+100 * 3 ^ d) p'):=fun hp' hn'=>by
   simp only [ws]
   refine W.use (wc T hp' (by omega)) ?_
   rintro _ ⟨s,p2,rfl,g,ds,hp2⟩
   simp only [ws]
   refine ⟨s,p2,rfl,g,by omega,hp2.mono ?_⟩
   have:3≤3 ^ d:=by
    calc 3=3 ^ 1:=rfl
     _≤3 ^ d:=Nat.pow_le_pow_right (by decide) h1
   omega
  simp only [bu,fN,ws]
  by_cases d1:d=1
  ·have e:¬ (1:Int) < (d:Nat):=by omega
   have e5:decide ((0:Int)=5)=false:=by decide
   have e6:¬ (5:Int) < 0:=by decide
   simp only [ws,e,e5,e6]
   have:=plainS (x3:=some (.int 0)) (x4:=none) hp (by omega)
   simp only [ws] at this
   exact this
  have e:(1:Int) < (d:Nat):=by omega
  simp only [ws,e]
  refine bK hp (by omega) (by decide) (by decide) fun r p1 r0 r8 hp1=>?_
  obtain ⟨d',rfl⟩:∃ d',d=d'+1:=⟨d - 1,by omega⟩
  have ed:((d'+1:Nat):Int) - 1=(d':Nat):=by omega
  have pw:3 ^ (d'+1)=3 * 3 ^ d':=by rw [Nat.pow_succ,Nat.mul_comm]
  have pd':1≤3 ^ d':=Nat.pow_pos (by decide)
  by_cases w5:r=5
  ·have e5:decide (r=5)=true:=decide_eq_true w5
   simp only [ws,e5,ed]
   refine W.use (lN T k d' _ p1 (by omega) (by omega) (by omega) hp1 (by omega)) ?_
   rintro _ ⟨s,p2,rfl,g,ds,hp2⟩
   simp only [ws]
   exact ⟨.no s,p2,rfl,g,by show dep s+1≤_; omega,hp2.mono (by omega)⟩
  have e5:decide (r=5)=false:=decide_eq_false w5
  by_cases w6:5 < r
  ·have:r - 6=0∨r - 6=1:=by omega
   simp only [ws,e5,w6,ed]
   refine W.use (lN T k d' _ p1 (by omega) (by omega) (by omega) hp1 (by omega)) ?_
   rintro _ ⟨s,p2,rfl,g,ds,hp2⟩
   rcases this with h | h <;> simp only [ws] <;> rw [h] <;> simp only [ws,ed] <;> refine W.use (lN T k d' _ p2 (by omega) (by omega) (by omega) hp2 (by omega)) ?_ <;> rintro _ ⟨s2,p3,rfl,g2,ds2,hp3⟩ <;> simp only [ws]
   ·exact ⟨.both s s2,p3,rfl,⟨g,g2⟩,by show max (dep s) (dep s2)+1≤_; omega,hp3.mono (by omega)⟩
   ·exact ⟨.either s s2,p3,rfl,⟨g,g2⟩,by show max (dep s) (dep s2)+1≤_; omega,hp3.mono (by omega)⟩
  ·simp only [ws,e5,w6]
   have:=plainS (x3:=some (.int r)) (x4:=none) hp1 (by omega)
   simp only [ws] at this
   exact this
end W39
namespace W39
open PySem L2 Tg
variable {ks:List Str}
theorem xn {a b:Int} (h0:0≤b) (h1:b≤1000000):CMul a b:=.inr ⟨by omega,Int.lt_of_le_of_lt h1 (by decide)⟩
def wB:Nat→Nat
 | 0=>100
 | d+1=>wB d * wB d
theorem ql:∀ d,1≤wB d
 | 0=>by decide
 | d+1=>Nat.mul_pos (ql d) (ql d)
theorem IF (d:Nat):wB d≤wB (d+1):=by
 have:=Nat.mul_le_mul (Nat.le_refl (wB d)) (ql d)
 rw [Nat.mul_one] at this
 exact this
theorem iG (s:Sn):1≤dep s:=by cases s <;> simp [dep]
theorem e9 (T:TOk ks):∀ (n d:Nat) (s:Sn),d≤2→dep s≤d+1→dep s≤n→XG ks 3 s→W (bE n [tD ks,sD s]) (fun r=>∃ w:Nat,r=(.int (w:Nat),[none,none])∧w≤wB d)
 | 0,d,s,_,_,h,_=>by have:=iG s; omega
 | n+1,d,s,h2,h3,h,g=>by
  have b0:100≤wB d:=by
   have:d=0∨d=1∨d=2:=by omega
   rcases this with rfl | rfl | rfl <;> decide
  have t12:=T.l12
  have sl:=ou ks
  show W (fnF 3 [0,0] (bo (bE n)) _) _
  cases s with
  | no s =>
   have q:dep s+1≤d+1:=h3
   obtain ⟨d',rfl⟩:∃ d',d=d'+1:=⟨d - 1,by have:=iG s; omega⟩
   simp only [sD,bo,ws,hds]
   refine W.use (e9 T n d' s (by omega) (by omega) (by simp only [dep] at h; omega) g) ?_
   rintro _ ⟨w,rfl,hw⟩
   simp only [ws]
   exact ⟨w,rfl,Nat.le_trans hw (IF d')⟩
  | both s t =>
   have q:max (dep s) (dep t)+1≤d+1:=h3
   have q2:max (dep s) (dep t)+1≤n+1:=h
   obtain ⟨d',rfl⟩:∃ d',d=d'+1:=⟨d - 1,by have:=iG s; omega⟩
   have b1:wB d'≤1000000:=by
    have:d'=0∨d'=1:=by omega
    rcases this with rfl | rfl <;> decide
   have i1:inL (.str "both") (.tuple [.str "both",.str "either"])=some (.bool true):=rfl
   simp only [sD,bo,ws,hds,i1]
   refine W.use (e9 T n d' s (by omega) (by omega) (by omega) g.1) ?_
   rintro _ ⟨w,rfl,hw⟩
   simp only [ws]
   refine W.use (e9 T n d' t (by omega) (by omega) (by omega) g.2) ?_
   rintro _ ⟨v,rfl,hv⟩
   simp only [ws]
   exact ⟨xn (by omega) (by omega),w * v,by rw [Int.natCast_mul],Nat.mul_le_mul hw hv⟩
  | either s t =>
   have q:max (dep s) (dep t)+1≤d+1:=h3
   have q2:max (dep s) (dep t)+1≤n+1:=h
   obtain ⟨d',rfl⟩:∃ d',d=d'+1:=⟨d - 1,by have:=iG s; omega⟩
   have b1:wB d'≤1000000:=by
    have:d'=0∨d'=1:=by omega
    rcases this with rfl | rfl <;> decide
   have i1:inL (.str "either") (.tuple [.str "both",.str "either"])=some (.bool true):=rfl
   simp only [sD,bo,ws,hds,i1]
   refine W.use (e9 T n d' s (by omega) (by omega) (by omega) g.1) ?_
   rintro _ ⟨w,rfl,hw⟩
   simp only [ws]
   refine W.use (e9 T n d' t (by omega) (by omega) (by omega) g.2) ?_
   rintro _ ⟨v,rfl,hv⟩
   simp only [ws]
   exact ⟨xn (by omega) (by omega),w * v,by rw [Int.natCast_mul],Nat.mul_le_mul hw hv⟩
  | long lo hi =>
   have i1:inL (.str "long") (.tuple [.str "both",.str "either"])=some (.bool false):=rfl
   have i2:inL (.str "long") (.tuple [.str "long",.str "least"])=some (.bool true):=rfl
   have g1:=g.1
   cases hi with
   | none =>
    simp only [sD,oD,bo,ws,hds,i1,i2]
    exact ⟨lo+1,rfl,by omega⟩
   | some m =>
    have g2:=g.2 m rfl
    simp only [sD,oD,bo,ws,hds,i1,i2]
    exact ⟨m+2,by rw [Int.natCast_add]; rfl,by omega⟩
  | least k m =>
   have i1:inL (.str "least") (.tuple [.str "both",.str "either"])=some (.bool false):=rfl
   have i2:inL (.str "least") (.tuple [.str "long",.str "least"])=some (.bool true):=rfl
   have g1:m≤2:=g
   simp only [sD,bo,ws,hds,i1,i2]
   exact ⟨m+1,by rw [Int.natCast_add]; rfl,by omega⟩
  | often z m =>
   have i1:inL (.str "often") (.tuple [.str "both",.str "either"])=some (.bool false):=rfl
   have i2:inL (.str "often") (.tuple [.str "long",.str "least"])=some (.bool false):=rfl
   have g1:=g.1.1
   have g2:=g.2
   simp only [sD,bo,ws,hds,i1,i2]
   refine gC (fun i en=>∃ (v:Nat) (o4:Option D),en=[some (tD ks),some (.tuple [.str "often",.str z,.int (m:Nat)]),some (.str "often"),some (.int (v:Nat)),o4]∧v≤4 ^ i) ⟨1,none,rfl,by decide⟩ (fun i t en ht ⟨v,o4,e,hv⟩=>?_) fun en ⟨v,o4,e,hv⟩=>?_
   ·subst e
    simp only [ws,jP]
    refine ⟨xn (by omega) (by omega),v * (m+1),_,by rw [Int.natCast_mul,Int.natCast_add]; rfl,?_⟩
    rw [Nat.pow_succ]
    exact Nat.mul_le_mul hv (by omega)
   ·subst e
    have e:(bz z).length=(li z).length:=by unfold bz; rw [List.length_map]
    rw [e] at hv
    have hv2:v≤4 ^ 3:=Nat.le_trans hv (Nat.pow_le_pow_right (by decide) g1)
    simp only [ws]
    exact ⟨v+1,by rw [Int.natCast_add]; rfl,by have:4 ^ 3=64:=rfl; omega⟩
  | apart =>
   have i1:inL (.str "apart") (.tuple [.str "both",.str "either"])=some (.bool false):=rfl
   have i2:inL (.str "apart") (.tuple [.str "long",.str "least"])=some (.bool false):=rfl
   simp only [sD,bo,ws,hds,i1,i2,fH T]
   exact ⟨sz (by omega),(sgs ks).length+2,by rw [Int.natCast_add]; rfl,by omega⟩
  | without z =>
   have i1:inL (.str "without") (.tuple [.str "both",.str "either"])=some (.bool false):=rfl
   have i2:inL (.str "without") (.tuple [.str "long",.str "least"])=some (.bool false):=rfl
   have g1:=g.1
   rw [ll] at g1
   simp only [sD,bo,ws,hds,i1,i2]
   exact ⟨sz (by omega),z.length+1,by rw [Int.natCast_add]; rfl,by omega⟩
  | begins z =>
   have i1:inL (.str "begins") (.tuple [.str "both",.str "either"])=some (.bool false):=rfl
   have i2:inL (.str "begins") (.tuple [.str "long",.str "least"])=some (.bool false):=rfl
   have g1:=g.1
   rw [ll] at g1
   simp only [sD,bo,ws,hds,i1,i2]
   exact ⟨sz (by omega),z.length+2,by rw [Int.natCast_add]; rfl,by omega⟩
  | ends z =>
   have i1:inL (.str "ends") (.tuple [.str "both",.str "either"])=some (.bool false):=rfl
   have i2:inL (.str "ends") (.tuple [.str "long",.str "least"])=some (.bool false):=rfl
   have g1:=g.1
   rw [ll] at g1
   simp only [sD,bo,ws,hds,i1,i2]
   exact ⟨sz (by omega),z.length+1,by rw [Int.natCast_add]; rfl,by omega⟩
theorem Di (T:TOk ks) {p:D} {n:Nat} (hp:Pn n p) (hn:n≤1000):W (fM [p,tD ks,.int 1000000000]) (fun r=>∃ (ss:List Sn) (p':D),r=(.tuple [tD ks,.tuple (ss.map sD)],[some p',none,none])∧ss.length≤5∧(∀ s∈ss,XG ks 3 s∧dep s≤3)∧Pn (n+20000) p'):=by
 simp only [ws,fM,kJ]
 refine bK hp (by omega) (by decide) (by decide) fun r p1 r0 r6 hp1=>?_
 obtain ⟨m,rfl⟩:=Int.eq_ofNat_of_zero_le r0
 simp only [ws,Int.toNat_natCast]
 refine ⟨by omega,?_⟩
 refine gC (fun i en=>∃ (p':D) (ss:List Sn) (v:Nat) (o5 o6:Option D),en=[some p',some (tD ks),some (.int 1000000000),some (.list (ss.map sD)),some (.int (v:Nat)),o5,o6]∧ss.length≤i∧(∀ s∈ss,XG ks 3 s∧dep s≤3)∧Pn (n+1+2700 * i) p') ⟨p1,[],1,none,none,rfl,Nat.le_refl _,by simp,hp1⟩ (fun i t en ht ⟨p',ss,v,o5,o6,e,h1,h2,h3⟩=>?_) fun en ⟨p',ss,v,o5,o6,e,h1,h2,h3⟩=>?_
 ·obtain ⟨hi,rfl⟩:=gn ht
  subst e
  simp only [ws,lJ]
  refine W.use (lN T 6 3 _ p' (by decide) (by decide) (by decide) h3 (by have:3 ^ 3=27:=rfl; omega)) ?_
  rintro _ ⟨s,p2,rfl,g,ds,hp2⟩
  have hp2':Pn (n+1+2700 * (i+1)) p2:=hp2.mono (by have:3 ^ 3=27:=rfl; omega)
  simp only [ws]
  refine W.use (e9 T 6 2 s (by decide) ds (by omega) g) ?_
  rintro _ ⟨w,rfl,hw⟩
  have cm:CMul (v:Int) (w:Int):=.inr ⟨by omega,Int.lt_of_le_of_lt (by exact Int.ofNat_le.mpr hw) (by decide)⟩
  by_cases hle:(v:Int) * (w:Int)≤1000000000
  ·simp only [ws,hle]
   refine ⟨cm,?_⟩
   refine W.use (e9 T 6 2 s (by decide) ds (by omega) g) ?_
   rintro _ ⟨w2,rfl,hw2⟩
   have cm2:CMul (v:Int) (w2:Int):=.inr ⟨by omega,Int.lt_of_le_of_lt (by exact Int.ofNat_le.mpr hw2) (by decide)⟩
   simp only [ws,List.length_map]
   refine ⟨cm2,szl (by omega),p2,ss++[s],v * w2,_,_,by rw [List.map_append,Int.natCast_mul]; rfl,by rw [List.length_append]; show _+1≤_; omega,fun x hx=>?_,hp2'⟩
   rcases List.mem_append.mp hx with q | q
   ·exact h2 x q
   ·rw [List.mem_singleton.mp q]; exact ⟨g,ds⟩
  ·simp only [ws,hle]
   exact ⟨cm,p2,ss,v,_,_,rfl,by omega,h2,hp2'⟩
 ·subst e
  rw [gL] at h1 h3
  simp only [ws]
  exact ⟨ss,p',rfl,by omega,h2,h3.mono (by omega)⟩
structure OT (ks os:List Str):Prop where
 l:os.length=ks.length
 p:∀ (i:Nat) (a b:Str),ks[i]?=some a→os[i]?=some b→(li b).Perm (li a)
theorem qO {p:D} {n:Nat} {z:Str} {x1 x2 x3 y5 y6:Option D} (hp:Pn n p) (hn:n≤50000) (hz:(li z).length≤6) {Q:Fl→Prop} (h:∀ p' y o5 o6,(li y).Perm (li z)→Pn (n+6) p'→Q (.nx [some p',x1,x2,x3,some (.str y),o5,o6])) :
  W (eh (gN 5) ix (bz z) [some p,x1,x2,x3,some (.str ""),y5,y6]) Q:=by
 have lz:(bz z).length=(li z).length:=by unfold bz; rw [List.length_map]
 refine gC (fun i en=>∃ p' y o5 o6,en=[some p',x1,x2,x3,some (.str y),o5,o6]∧(li y).Perm ((li z).take i)∧Pn (n+i) p') ⟨p, "",y5,y6,rfl,List.Perm.refl _,hp⟩ (fun i t en ht ⟨p',y,o5,o6,e,h1,h2⟩=>?_) fun en ⟨p',y,o5,o6,e,h1,h2⟩=>?_
 ·subst e
  unfold bz at ht
  rw [List.getElem?_map] at ht
  obtain ⟨c,hc,rfl⟩:=Option.map_eq_some_iff.mp ht
  have hi:=(List.getElem?_eq_some_iff.mp hc).1
  have hi':i < (li z).length:=hi
  have ly:=h1.length_eq
  rw [List.length_take,Nat.min_eq_left (by omega)] at ly
  have lly:=ll y
  simp only [ws,ix]
  refine ⟨sz (by omega),bK h2 (by omega) (by omega) (by omega) fun r p2 r0 r1 hp2=>?_⟩
  obtain ⟨k,rfl⟩:=Int.eq_ofNat_of_zero_le r0
  have c1:db y.cps.toList none (some (k:Int))=(li y).take k:=lu _ _
  have c2:db y.cps.toList (some (k:Int)) none=(li y).drop k:=jk _ k
  have t1:(⟨((li y).take k).toArray⟩:Str).length≤6:=by rw [show (⟨((li y).take k).toArray⟩:Str)=ofL ((li y).take k) from rfl,cZ,List.length_take]; omega
  have t2:(⟨((li y).drop k).toArray⟩:Str).length≤6:=by rw [show (⟨((li y).drop k).toArray⟩:Str)=ofL ((li y).drop k) from rfl,cZ,List.length_drop]; omega
  have t3:(mk1 c).length=1:=rfl
  simp only [ws,c1,c2]
  refine ⟨sz (by omega),sz (by omega),sz (by omega),sz (by rw [lV]; omega),p2,_,_,_,rfl,?_,hp2⟩
  rw [eE,eE,ph (show (li z)[i]?=some c from hc)]
  show ((li y).take k++[c]++(li y).drop k).Perm _
  rw [List.append_assoc]
  refine List.Perm.trans (show ((li y).take k++c :: (li y).drop k).Perm (c :: ((li y).take k++(li y).drop k)) from List.perm_middle) ?_
  rw [List.take_append_drop]
  exact List.Perm.trans (List.Perm.cons c h1) (List.perm_append_singleton c _).symm
 ·subst e
  rw [lz,List.take_length] at h1
  rw [lz] at h2
  exact h p' y o5 o6 h1 (h2.mono (by omega))
theorem wg (T:TOk ks) {p:D} {n:Nat} (hp:Pn n p) (hn:n≤1000):W (eK [p,tD ks]) (fun r=>∃ os p',r=(tD os,[some p',none])∧OT ks os∧Pn (n+24) p'):=by
 have n4:=T.n4
 simp only [ws,eK,jA,tD]
 refine gC (fun i en=>∃ p' os o3 o4 o5 o6,en=[some p',some (tD ks),some (.list (os.map .str)),o3,o4,o5,o6]∧os.length=i∧(∀ (j:Nat) (a b:Str),ks[j]?=some a→os[j]?=some b→(li b).Perm (li a))∧Pn (n+6 * i) p') ⟨p,[],none,none,none,none,rfl,rfl,by simp,hp⟩ (fun i t en ht ⟨p',os,o3,o4,o5,o6,e,h1,h2,h3⟩=>?_) fun en ⟨p',os,o3,o4,o5,o6,e,h1,h2,h3⟩=>?_
 ·subst e
  rw [List.getElem?_map] at ht
  obtain ⟨z,hz,rfl⟩:=Option.map_eq_some_iff.mp ht
  have hi:=(List.getElem?_eq_some_iff.mp hz).1
  have fz:=T.fu z (List.mem_of_getElem? hz)
  simp only [ws,kL]
  refine qO h3 (by omega) fz.2 fun p2 y q5 q6 hy hp2=>?_
  simp only [ws,List.length_map]
  refine ⟨szl (by omega),p2,os++[y],_,_,_,_,by rw [List.map_append]; rfl,by rw [List.length_append,h1]; rfl,fun j a b ha hb=>?_,hp2.mono (by omega)⟩
  rcases Nat.lt_or_ge j i with q | q
  ·rw [List.getElem?_append_left (by omega)] at hb
   exact h2 j a b ha hb
  ·have hl:=(List.getElem?_eq_some_iff.mp hb).1
   rw [List.length_append] at hl
   have:j=i:=by simp at hl; omega
   subst this
   rw [List.getElem?_append_right (by omega),h1,Nat.sub_self] at hb
   cases hb
   rw [hz] at ha
   cases ha
   exact hy
 ·subst e
  rw [List.length_map] at h1 h3
  simp only [ws]
  exact ⟨os,p',rfl,⟨h1,h2⟩,h3.mono (by omega)⟩
end W39
namespace W39
open PySem L2 Tg
variable {ks:List Str}
theorem pI {α:Type} (f:α→Bool):∀ l:List α,iI (l.map fun a=>.bool (f a))=some (l.map f)
 | []=>rfl
 | a :: l=>by
  show (iI (l.map fun a=>.bool (f a))).map (f a :: ·)=_
  rw [pI f l]
  rfl
theorem all_map {α:Type} (f:α→Bool) (l:List α):mT [.list (l.map fun a=>.bool (f a))]=some (.bool (l.all f)):=by
 show (iI _).map _=_
 rw [pI]
 show some (PyData.bool ((l.map f).all id))=_
 rw [List.all_map]
 rfl
theorem nu (f:Nat→Str):∀ n,(∀ i j,i < n→j < n→f i=f j→i=j)→cK f n=(List.range n).map f
 | 0,_=>rfl
 | n+1,h=>by
  rw [jg,nu f n fun i j hi hj e=>h i j (by omega) (by omega) e,List.range_succ,List.map_append,if_neg]
  ·rfl
  ·intro q
   rw [List.any_map,List.any_eq_true] at q
   obtain ⟨i,hi,e⟩:=q
   have hi':=List.mem_range.mp hi
   have:=h i n (by omega) (by omega) (eq_of_beq e)
   omega
theorem Dz {z:Str} (h:(li z).Nodup):(cK (eT z) z.length).length=z.length:=by
 have hl:(li z).length=z.length:=Array.length_toList
 rw [nu _ _ fun i j hi hj e=>?_,List.length_map,List.length_range]
 have g:∀ k,k < z.length→∃ c,(li z)[k]?=some c∧eT z k=mk1 c:=fun k hk=>by
  have hk':k < (li z).length:=by rw [hl]; exact hk
  refine ⟨(li z)[k],List.getElem?_eq_getElem hk',?_⟩
  unfold eT
  rw [← Array.getElem?_toList,show z.cps.toList[k]?=some (li z)[k] from List.getElem?_eq_getElem hk']
 obtain ⟨c,h1,h2⟩:=g i hi
 obtain ⟨d,h3,h4⟩:=g j hj
 rw [h2,h4] at e
 have ecd:c=d:=by
  have:=congrArg li e
  have h5:[c]=[d]:=this
  injection h5
 subst ecd
 exact (List.getElem?_inj (by rw [hl]; exact hi) h).mp (h1.trans h3.symm)
theorem uv {z:Str} (h:(li z).Nodup) (hz:z.length≤100):W (dC [.str z]) (fun r=>r=(.bool true,[none])):=by
 simp only [dC,ic,ws,Dz h]
 exact ⟨by omega,sz (by omega)⟩
theorem qz (T:TOk ks):W (cA [tD ks]) (fun r=>r=(.str (sgs ks),[none])):=by
 simp only [cA,im,ws,fH T]
theorem oH:(sgs ks).length=(aD ks).length:=cZ _
theorem u0 {k:Str} (h1:1≤(li k).length) (h2:(li k).length≤6) (hm:∀ c∈li k,c∈li ev):W (bR [.str k]) (fun r=>r=(.bool true,[none])):=by
 have hl:(li k).length=k.length:=Array.length_toList
 have a:(1:Int)≤(k.length:Nat):=by omega
 have b:((k.length:Nat):Int)≤6:=by omega
 simp only [bR,gj,ws,a,b]
 refine ⟨sz (by omega),?_⟩
 refine eH (fun _=>.bool true) (by unfold bz; rw [List.length_map]; exact sz (by omega)) (fun t ht=>?_) fun o'=>?_
 ·obtain ⟨c,hc,rfl⟩:=List.mem_map.mp ht
  obtain ⟨c1,c2,c3⟩:=Eg c (hm c hc)
  have e:qH [.str (mk1 c)]=some (.int (c:Nat)):=rfl
  have d1:(33:Int)≤(c:Nat):=by omega
  have d2:((c:Nat):Int)≤126:=by omega
  have d3:¬ ((c:Nat):Int)=37:=by omega
  simp only [kG,dB,gi,ws,e,d1,d2,d3]
 ·have e:=all_map (fun _:D=>true) (bz k)
  simp only [ws,e]
  simp
theorem rY (T:TOk ks):W (ba [tD ks]) (fun r=>r=(.bool true,[none])):=by
 obtain ⟨n1,n4,fu,nd,l12,l1,mem⟩:=T
 have T:TOk ks:=⟨n1,n4,fu,nd,l12,l1,mem⟩
 have a:(1:Int)≤(ks.length:Nat):=by omega
 have b:((ks.length:Nat):Int)≤4:=by omega
 have c:((sgs ks).length:Int)≤12:=by rw [oH]; omega
 simp only [ba,cT,tD,ws,a,b]
 refine eH (fun _=>.bool true) (by rw [List.length_map]; exact sz (by omega)) (fun t ht=>?_) fun o'=>?_
 ·obtain ⟨k,hk,rfl⟩:=List.mem_map.mp ht
  simp only [fA,ws]
  refine W.use (u0 (fu k hk).1 (fu k hk).2 fun c hc=>mem c ?_) ?_
  ·unfold aD
   exact List.mem_flatten.mpr ⟨li k,List.mem_map.mpr ⟨k,hk,rfl⟩,hc⟩
  ·rintro _ rfl
   simp only [ws]
 ·have e:=all_map (fun _:D=>true) (List.map PyData.str ks)
  have e2:((List.map PyData.str ks).all fun _=>true)=true:=by simp
  simp only [ws,e,e2]
  refine W.use (qz T) ?_
  rintro _ rfl
  simp only [ws,c]
  refine ⟨sz (by rw [oH]; omega),?_⟩
  refine W.use (uv (z:=sgs ks) nd (by rw [oH]; omega)) ?_
  rintro _ rfl
  simp only [ws]
theorem lp:∀ ys:List Str,bt (ys.map PyData.str)=0
 | []=>rfl
 | y :: ys=>by
  rw [List.map_cons]
  simp only [bt,cG,lp ys]
  rfl
theorem oB:∀ ys:List Str,aE (ys.map PyData.str)=true
 | []=>rfl
 | y :: ys=>by
  rw [List.map_cons]
  simp only [aE,aA,oB ys]
  rfl
theorem qE:∀ xs ys:List Str,dY (xs.map PyData.str) (ys.map PyData.str)=decide (xs=ys)
 | [],[]=>rfl
 | [],_ :: _=>rfl
 | _ :: _,[]=>rfl
 | x :: xs,y :: ys=>by
  simp only [List.map_cons,dY,peq,qE xs ys,ot]
  by_cases h:x=y
  ·by_cases h2:xs=ys <;> simp [h,h2]
  ·simp [h]
theorem sH {f g:MS} {en:En} (h1:f en=none):au f g en=none:=by unfold au; rw [h1]; rfl
theorem nk {f:ME} {en:En} (h1:f en=none):dF f en=none:=by unfold dF; rw [h1]; rfl
theorem IW {c:MT} {en en1:En} {b:Bool} (h1:c en=some (b,en1)) (hb:b=true):sIf c iS br en=none:=by unfold sIf; rw [h1,hb]; rfl
theorem tK {n:Nat} {dps:List Nat} {b:MS} {ts:List D} (h:b (ts.map some++List.replicate n none)=none):fnF n dps b ts=none:=by unfold fnF; rw [h]; rfl
theorem lQ {F:List D→Option (D × En)} {fa:MA} {en en1:En} {as:List (D ⊕ Nat)} {ts:List D} (h1:fa en=some (as,en1)) (h2:dO as en1=some ts) (h3:F ts=none):ay F fa en=none:=by
 unfold ay
 rw [h1]
 show (dO as en1).bind _=_
 rw [h2]
 show (F ts).map _=_
 rw [h3]
 rfl
theorem tL {c:MT} {m1 m2:MN} {en en1:En} {b:Bool} (h1:c en=some (b,en1)):nIf c m1 m2 en=if b then m1 en1 else m2 en1:=by unfold nIf; rw [h1]; rfl
theorem lT {Rz:List D→Option Str} {fa:MA} {en en1:En} {as:List (D ⊕ Nat)} {ts:List D} (h1:fa en=some (as,en1)) (h2:dO as en1=some ts):ia Rz fa en=Rz ts:=by
 unfold ia
 rw [h1]
 show (dO as en1).bind _=_
 rw [h2]
 rfl
theorem ii (k:Str) (ks:List Str):aD (k :: ks)=li k++aD ks:=rfl
theorem pO:∀ {ks os:List Str},os.length=ks.length→(∀ (i:Nat) (a b:Str),ks[i]?=some a→os[i]?=some b→(li b).Perm (li a))→(aD os).Perm (aD ks)
 | [],[],_,_=>List.Perm.refl _
 | [],_ :: _,h,_=>by cases h
 | _ :: _,[],h,_=>by cases h
 | k :: ks,o :: os,h,p=>by
  rw [ii,ii]
  exact List.Perm.append (p 0 k o rfl rfl) (pO (Nat.succ.inj h) fun i a b ha hb=>p (i+1) a b (by simpa using ha) (by simpa using hb))
theorem OT.per {os:List Str} (O:OT ks os):(aD os).Perm (aD ks):=pO O.l O.p
theorem OT.tok {os:List Str} (T:TOk ks) (O:OT ks os):TOk os:=by
 have h:=O.per
 have hl:=h.length_eq
 refine ⟨by rw [O.l]; exact T.n1,by rw [O.l]; exact T.n4,fun k hk=>?_,h.nodup_iff.mpr T.nd,by rw [hl]; exact T.l12,by rw [hl]; exact T.l1,fun c hc=>T.mem c (h.mem_iff.mp hc)⟩
 obtain ⟨i,hi,rfl⟩:=List.mem_iff_getElem.mp hk
 have hi2:i < ks.length:=by rw [← O.l]; exact hi
 have p:=O.p i _ _ (List.getElem?_eq_getElem hi2) (List.getElem?_eq_getElem hi)
 rw [p.length_eq]
 exact T.fu _ (List.getElem_mem hi2)
theorem OT.sym {os:List Str} (O:OT ks os):OT os ks:=⟨O.l.symm,fun i a b ha hb=>(O.p i b a hb ha).symm⟩
def LL (a:List (List Str)):D:=.list (a.map fun l=>.list (l.map .str))
theorem qN:∀ a:List (List Str),aE (a.map fun l=>PyData.list (l.map .str))=true
 | []=>rfl
 | l :: a=>by
  rw [List.map_cons]
  simp only [aE,aA,qN a,oB]
  rfl
theorem C8:∀ a:List (List Str),bt (a.map fun l=>PyData.list (l.map .str))≤2
 | []=>by decide
 | l :: a=>by
  have:=C8 a
  rw [List.map_cons]
  simp only [bt,cG,lp]
  omega
theorem sB:∀ a b:List (List Str),dY (a.map fun l=>PyData.list (l.map .str)) (b.map fun l=>PyData.list (l.map .str))=decide (a=b)
 | [],[]=>rfl
 | [],_ :: _=>rfl
 | _ :: _,[]=>rfl
 | x :: xs,y :: ys=>by
  simp only [List.map_cons,dY,peq,sB xs ys,qE]
  by_cases h:x=y
  ·by_cases h2:xs=ys <;> simp [h,h2]
  ·simp [h]
theorem IY (a b:List (List Str)):neD (LL a) (LL b)=some (.bool (!decide (a=b))):=by
 show grd _ _=_
 unfold grd
 rw [if_pos ⟨by simp only [LL,aA]; exact qN a,by simp only [LL,aA]; exact qN b,by have:=C8 a; simp only [LL,cG]; omega⟩]
 simp only [LL,peq,sB]
def sl (z:Str):List Str:=(fC (li z)).map mk1
theorem oE:∀ {a b:List Nat},a.map mk1=b.map mk1→a=b
 | [],[],_=>rfl
 | [],_ :: _,h=>by cases h
 | _ :: _,[],h=>by cases h
 | x :: a,y :: b,h=>by
  rw [List.map_cons,List.map_cons] at h
  injection h with h1 h2
  have h5:[x]=[y]:=congrArg li h1
  injection h5 with h5
  rw [h5,oE h2]
theorem sl_iff {y z:Str}:sl y=sl z↔(li y).Perm (li z):=by
 constructor
 ·intro h
  have:=oE h
  exact (jS _).symm.trans ((List.Perm.of_eq this).trans (jS _))
 ·intro h
  unfold sl
  rw [tm h]
theorem ot_iff {os:List Str}:os.map sl=ks.map sl↔OT ks os:=by
 constructor
 ·intro h
  have hl:os.length=ks.length:=by simpa using congrArg List.length h
  refine ⟨hl,fun i a b ha hb=>?_⟩
  have:=congrArg (fun l=>l[i]?) h
  simp only [List.getElem?_map,ha,hb,Option.map_some] at this
  exact sl_iff.mp (Option.some.inj this)
 ·intro O
  refine List.ext_getElem? fun i=>?_
  rw [List.getElem?_map,List.getElem?_map]
  rcases Nat.lt_or_ge i ks.length with h | h
  ·have h2:i < os.length:=by rw [O.l]; exact h
   rw [List.getElem?_eq_getElem h,List.getElem?_eq_getElem h2]
   show some _=some _
   rw [sl_iff.mpr (O.p i _ _ (List.getElem?_eq_getElem h) (List.getElem?_eq_getElem h2))]
  ·rw [List.getElem?_eq_none h,List.getElem?_eq_none (by rw [O.l]; exact h)]
def txt:D→Str
 | .str z=>z
 | _=>""
theorem sy {zs:List Str} (hl:zs.length≤100) (hz:∀ z∈zs,(li z).length≤20) {Q:List D × En→Prop} (h:∀ o,Q ((zs.map sl).map (fun l=>PyData.list (l.map .str)),[o])) :
  W (lcF (gN 0) cY bq (zs.map .str) [] [none]) Q:=by
 refine eH (fun t=>.list ((sl (txt t)).map .str)) (by rw [List.length_map]; exact sz (by omega)) (fun t ht=>?_) fun o=>?_
 ·obtain ⟨z,hz',rfl⟩:=List.mem_map.mp ht
  have l1:=hz z hz'
  have e:qy [.str z]=some (.list ((sl z).map .str)):=by
   show grd _ _=_
   unfold grd
   rw [if_pos (show z.cps.size < 64 by have:=ll z; have e:z.length=z.cps.size:=rfl; omega)]
   unfold sl
   rw [List.map_map]
   rfl
  simp only [ws,bq,e]
  rfl
 ·have e:(zs.map PyData.str).map (fun t=>PyData.list ((sl (txt t)).map .str))=(zs.map sl).map (fun l=>PyData.list (l.map .str)):=by
   rw [List.map_map,List.map_map]
   rfl
  rw [e]
  exact h o
def Cnd:MT:=(bOr (eQ (tV (ay ba (ad (ah 1) ak)))) (tV (e2 neD (eLC true (cQ (ah 1)) (gN 0) cY bq [none]) (eLC true (cQ (ah 0)) (gN 0) cY bq [none]))))
theorem vF (T:TOk ks) {os:List Str} (hl:os.length≤4) (hz:∀ z∈os,(li z).length≤20) {b:Bool} (hb:W (ba [tD os]) (fun r=>r=(.bool b,[none]))):W (Cnd [some (tD ks),some (tD os)]) (fun q=>q=(!(b && decide (os.map sl=ks.map sl)),[some (tD ks),some (tD os)])):=by
 have n4:=T.n4
 unfold Cnd
 simp only [ws]
 refine W.use hb ?_
 rintro _ rfl
 cases b with
 | false =>
  simp only [ws]
  rfl
 | true =>
  simp only [ws,tD]
  refine sy (by omega) hz fun o=>?_
  simp only [ws]
  refine sy (by omega) (fun z h=>by have:=(T.fu z h).2; omega) fun o=>?_
  have e:=IY (os.map sl) (ks.map sl)
  unfold LL at e
  simp only [ws,e]
  rfl
theorem Ek (T:TOk ks) {os:List Str} (O:OT ks os):Cnd [some (tD ks),some (tD os)]=some (false,[some (tD ks),some (tD os)]):=by
 have T2:=O.tok T
 obtain ⟨_,e,rfl⟩:=(vF T (by have:=T2.n4; omega) (fun z h=>by have:=(T2.fu z h).2; omega) (rY T2)).ex
 rw [e,decide_eq_true (ot_iff.mpr O)]
 rfl
theorem eo {t:D} (h:W (ba [t]) (fun r=>r=(.bool false,[none]))):Cnd [some (tD ks),some t]=some (true,[some (tD ks),some t]):=by
 have:W (Cnd [some (tD ks),some t]) (fun q=>q=(true,[some (tD ks),some t])):=by
  unfold Cnd
  simp only [ws]
  refine W.use h ?_
  rintro _ rfl
  simp only [ws]
 obtain ⟨_,e,rfl⟩:=this.ex
 exact e
end W39
namespace W39
open PySem L2 Tg
variable {ks:List Str}
def sgB (c:Nat):Bool:=decide (33≤c∧c≤126∧c≠37)
theorem Dg (c:Nat):W (dB [.str (mk1 c)]) (fun r=>r=(.bool (sgB c),[none])):=by
 have e:qH [.str (mk1 c)]=some (.int (c:Nat)):=rfl
 by_cases d1:(33:Int)≤(c:Nat)
 ·by_cases d2:((c:Nat):Int)≤126
  ·by_cases d3:((c:Nat):Int)=37
   ·have q:sgB c=false:=decide_eq_false (by omega)
    have d3':decide (((c:Nat):Int)=37)=true:=decide_eq_true d3
    simp only [dB,gi,ws,e,d1,d2,d3',q]
   ·have q:sgB c=true:=decide_eq_true (by omega)
    simp only [dB,gi,ws,e,d1,d2,d3,q]
  ·have q:sgB c=false:=decide_eq_false (by omega)
   simp only [dB,gi,ws,e,d1,d2,q]
 ·have q:sgB c=false:=decide_eq_false (by omega)
  simp only [dB,gi,ws,e,d1,q]
def sgD:D→Bool
 | .str z=>sgB (z.cps.toList.headD 0)
 | _=>false
theorem qS {z:Str} (hz:(li z).length≤30):∃ b,W (bR [.str z]) (fun r=>r=(.bool b,[none])):=by
 have hl:=ll z
 by_cases a:(1:Int)≤(z.length:Nat)
 ·by_cases b:((z.length:Nat):Int)≤6
  ·refine ⟨(bz z).all sgD,?_⟩
   simp only [bR,gj,ws,a,b]
   refine ⟨sz (by omega),?_⟩
   refine eH (fun t=>.bool (sgD t)) (by unfold bz; rw [List.length_map]; exact sz (by omega)) (fun t ht=>?_) fun o'=>?_
   ·obtain ⟨c,hc,rfl⟩:=List.mem_map.mp ht
    simp only [kG,ws]
    refine W.use (Dg c) ?_
    rintro _ rfl
    simp only [ws]
    rfl
   ·have e:=all_map sgD (bz z)
    simp only [ws,e]
  ·refine ⟨false,?_⟩
   simp only [bR,gj,ws,a,b]
   exact sz (by omega)
 ·refine ⟨false,?_⟩
  simp only [bR,gj,ws,a]
  exact sz (by omega)
theorem wD {t:D} (h:aN "str" t=some (.bool false)):W (bR [t]) (fun r=>r=(.bool false,[none])):=by
 simp only [bR,gj,ws,h]
theorem jE {t:D} (h:aN "tuple" t=some (.bool false)):W (ba [t]) (fun r=>r=(.bool false,[none])):=by
 simp only [ba,cT,ws,h]
theorem qp {ts:List D} (h:ts.length=0∨5≤ts.length):W (ba [.tuple ts]) (fun r=>r=(.bool false,[none])):=by
 by_cases a:(1:Int)≤(ts.length:Nat)
 ·have b:¬ ((ts.length:Nat):Int)≤4:=by omega
  simp only [ba,cT,ws,a,b]
 ·simp only [ba,cT,ws,a]
def kb (t:D):Bool:=match bR [t] with
 | some (.bool b,_)=>b
 | _=>false
theorem qa {t:D} {b:Bool} (h:W (bR [t]) (fun r=>r=(.bool b,[none]))):kb t=b:=by
 obtain ⟨_,e,rfl⟩:=h.ex
 unfold kb
 rw [e]
theorem uy {ts:List D} (l1:1≤ts.length) (l4:ts.length≤4) (h:∀ t∈ts,∃ b,W (bR [t]) (fun r=>r=(.bool b,[none]))) (hf:∃ t∈ts,kb t=false):W (ba [.tuple ts]) (fun r=>r=(.bool false,[none])):=by
 have a:(1:Int)≤(ts.length:Nat):=by omega
 have b:((ts.length:Nat):Int)≤4:=by omega
 have al:ts.all kb=false:=by
  obtain ⟨t,ht,q⟩:=hf
  refine Bool.eq_false_iff.mpr fun z=>?_
  rw [List.all_eq_true] at z
  rw [z t ht] at q
  cases q
 have e:=all_map kb ts
 rw [al] at e
 simp only [ba,cT,ws,a,b]
 refine eH (fun t=>.bool (kb t)) (sz (by omega)) (fun t ht=>?_) fun o'=>?_
 ·obtain ⟨b,hb⟩:=h t ht
  simp only [fA,ws]
  refine W.use hb ?_
  rintro _ rfl
  rw [qa hb]
  simp only [ws]
 ·simp only [ws,e]
theorem sW:∀ {os:List Str},(∀ z∈os,(li z).length≤30)→(aD os).length≤30 * os.length
 | [],_=>Nat.le_refl _
 | z :: os,h=>by
  have h1:=h z List.mem_cons_self
  have h2:=sW fun y hy=>h y (List.mem_cons_of_mem _ hy)
  rw [ii,List.length_append,List.length_cons]
  omega
theorem Gp {os:List Str} (hl:os.length≤10) (hz:∀ z∈os,(li z).length≤30):∃ b,W (ba [tD os]) (fun r=>r=(.bool b,[none])):=by
 by_cases l1:os.length=0∨5≤os.length
 ·exact ⟨false,qp (by rw [List.length_map]; exact l1)⟩
 have K:∀ t∈os.map PyData.str,∃ b,W (bR [t]) (fun r=>r=(.bool b,[none])):=fun t ht=>by
  obtain ⟨z,h,rfl⟩:=List.mem_map.mp ht
  exact qS (hz z h)
 by_cases al:(os.map PyData.str).all kb=true
 ·have a:(1:Int)≤(os.length:Nat):=by omega
  have b:((os.length:Nat):Int)≤4:=by omega
  have e:=all_map kb (os.map PyData.str)
  rw [al] at e
  have lS:=sW hz
  have ej:joinD "" [tD os]=some (.str (sgs os)):=(la (by omega) (by omega)).1
  have sl':(sgs os).length=(aD os).length:=cZ _
  by_cases c:((sgs os).length:Int)≤12
  ·refine ⟨decide (((cK (eT (sgs os)) (sgs os).length).length:Int)=(sgs os).length),?_⟩
   simp only [ba,cT,tD,ws,a,b]
   refine eH (fun t=>.bool (kb t)) (by rw [List.length_map]; exact sz (by omega)) (fun t ht=>?_) fun o'=>?_
   ·obtain ⟨b,hb⟩:=K t ht
    simp only [fA,ws]
    refine W.use hb ?_
    rintro _ rfl
    rw [qa hb]
    simp only [ws]
   ·simp only [tD] at ej
    simp only [ws,e,cA,im,ej,c,dC,ic]
    exact ⟨sz (by omega),by omega,sz (by omega)⟩
  ·refine ⟨false,?_⟩
   simp only [ba,cT,tD,ws,a,b]
   refine eH (fun t=>.bool (kb t)) (by rw [List.length_map]; exact sz (by omega)) (fun t ht=>?_) fun o'=>?_
   ·obtain ⟨b,hb⟩:=K t ht
    simp only [fA,ws]
    refine W.use hb ?_
    rintro _ rfl
    rw [qa hb]
    simp only [ws]
   ·simp only [tD] at ej
    simp only [ws,e,cA,im,ej,c]
    exact sz (by omega)
 ·refine ⟨false,uy (by rw [List.length_map]; omega) (by rw [List.length_map]; omega) K ?_⟩
  rw [List.all_eq_true] at al
  refine Classical.byContradiction fun z=>al fun t ht=>?_
  cases q:kb t
  ·exact absurd ⟨t,ht,q⟩ z
  ·rfl
def Bad (ks:List Str) (t:D):Prop:=Cnd [some (tD ks),some t]=some (true,[some (tD ks),some t])
theorem fX (T:TOk ks) {os:List Str} (hl:os.length≤10) (hz:∀ z∈os,(li z).length≤20) (h:¬ OT ks os):Bad ks (tD os):=by
 by_cases h5:5≤os.length
 ·exact eo (qp (by rw [List.length_map]; exact .inr h5))
 obtain ⟨b,hb⟩:=Gp hl fun z q=>by have:=hz z q; omega
 obtain ⟨_,e,rfl⟩:=(vF T (by omega) hz hb).ex
 unfold Bad
 rw [e,decide_eq_false fun q=>h (ot_iff.mp q),Bool.and_false]
 rfl
theorem pj {t:D} (h:Bad ks t):bd [tD ks,t]=none∧bJ [tD ks,t]=some ("NoTongue" : Str):=by
 have h':Cnd ([tD ks,t].map some++List.replicate 0 none)=some (true,[some (tD ks),some t]):=h
 constructor
 ·exact tK (IW h' rfl)
 ·show cU [some (tD ks),some t]=_
  unfold cU
  exact (tL h).trans rfl
theorem nj (T:TOk ks) {os:List Str} (O:OT ks os):bd [tD ks,tD os]=some (.none,[none,none]):=by
 have h:Cnd [some (tD ks),some (tD os)]=_:=Ek T O
 have e:di [some (tD ks),some (tD os)]=some (.nx [some (tD ks),some (tD os)]):=by
  show sIf Cnd iS br _=_
  unfold sIf
  rw [h]
  rfl
 show (di [some (tD ks),some (tD os)]).bind _=_
 rw [e]
 rfl
def ex (K O:List Nat) (c:Nat):Nat:=O.getD (K.idxOf c) 0
def exT (ks os:List Str) (z:Str):Str:=ofL ((li z).map (ex (aD ks) (aD os)))
theorem qg {K O:List Nat} (hl:O.length=K.length) {c:Nat} (hc:c∈K):K.idxOf c < O.length:=by rw [hl]; exact List.idxOf_lt_length_of_mem hc
theorem Iv {K O:List Nat} (hl:O.length=K.length) {c:Nat} (hc:c∈K):ex K O c∈O:=by
 unfold ex
 rw [List.getD_eq_getElem?_getD,List.getElem?_eq_getElem (qg hl hc)]
 exact List.getElem_mem _
theorem Ee {K O:List Nat} (hl:O.length=K.length) (nd:O.Nodup) {c:Nat} (hc:c∈K):ex O K (ex K O c)=c:=by
 have h1:=qg hl hc
 have e:ex K O c=O[K.idxOf c]:=by
  unfold ex
  rw [List.getD_eq_getElem?_getD,List.getElem?_eq_getElem h1]
  rfl
 rw [e]
 unfold ex
 have h2:O.idxOf O[K.idxOf c]=K.idxOf c:=by
  have h3:=List.idxOf_lt_length_of_mem (List.getElem_mem h1)
  have h4:O[O.idxOf O[K.idxOf c]]'h3=O[K.idxOf c]:=List.getElem_idxOf h3
  exact (List.getElem?_inj h3 nd).mp (by rw [List.getElem?_eq_getElem h3,List.getElem?_eq_getElem h1,h4])
 rw [h2,List.getD_eq_getElem?_getD,List.getElem?_eq_getElem (List.idxOf_lt_length_of_mem hc)]
 exact List.getElem_idxOf _
theorem ny (ks os:List Str) (z:Str):li (exT ks os z)=(li z).map (ex (aD ks) (aD os)):=rfl
theorem lh {os:List Str} (O:OT ks os) {m:Nat} {z:Str} (g:GZ ks m z):GZ os m (exT ks os z):=by
 refine ⟨by rw [ny,List.length_map]; exact g.1,fun c hc=>?_⟩
 rw [ny] at hc
 obtain ⟨d,hd,rfl⟩:=List.mem_map.mp hc
 exact Iv O.per.length_eq (g.2 d hd)
theorem i6 (T:TOk ks) {os:List Str} (O:OT ks os) {m:Nat} {z:Str} (g:GZ ks m z):exT os ks (exT ks os z)=z:=by
 have:li (exT os ks (exT ks os z))=li z:=by
  rw [ny,ny,List.map_map]
  refine (List.map_congr_left fun c hc=>?_).trans (List.map_id _)
  exact Ee O.per.length_eq (O.tok T).nd (g.2 c hc)
 obtain ⟨⟨a⟩⟩:=z
 have e:(li (exT os ks (exT ks os ⟨⟨a⟩⟩))).toArray=(⟨a⟩:Array Nat):=by rw [this]
 exact congrArg Str.mk e
end W39
namespace W39
open PySem L2 Tg
variable {ks os:List Str}
theorem kj:∀ cs:List Nat,aD (cs.map mk1)=cs
 | []=>rfl
 | c :: cs=>by
  rw [List.map_cons,ii,kj cs]
  rfl
theorem nG {cs:List Nat} (h:cs.length≤1000):joinD "" [.list ((cs.map mk1).map .str)]=some (.str (ofL cs)):=by
 have:=(la (ks:=cs.map mk1) (by rw [kj]; exact h) (by rw [List.length_map]; exact h)).2
 rw [kj] at this
 exact this
def nD (ns:List Nat):D:=.list (ns.map fun n:Nat=>.int (n:Nat))
def ixF (ks:List Str) (t:D):D:=match t with
 | .str z=>.int (((aD ks).idxOf ((li z).headD 0):Nat):Int)
 | _=>.none
theorem GF (T:TOk ks) {z:Str} (g:GZ ks 100 z):W (iJ [tD ks,.str z]) (fun r=>r=(nD ((li z).map fun c=>(aD ks).idxOf c),[none,none])):=by
 have g1:=g.1
 simp only [iJ,oZ,ws]
 refine W.use (qz T) ?_
 rintro _ rfl
 simp only [ws]
 have hl:(bz z).length=(li z).length:=by unfold bz; rw [List.length_map]
 refine eH (ixF ks) (by rw [hl]; exact sz (by omega)) (fun t ht=>?_) fun o'=>?_
 ·obtain ⟨c,hc,rfl⟩:=List.mem_map.mp ht
  obtain ⟨rest,hr⟩:=pv (z:=sgs ks) (c:=c) T.nd (g.2 c hc)
  have e:nJ (sgs ks) [.str (mk1 c)]=some (.int (((aD ks).idxOf c:Nat):Int)):=by
   show (match Builtin.Str.occurrences (sgs ks) (mk1 c) 0 (sgs ks).length 1 with
    | i :: _=>some (PyData.int (i:Nat))
    | []=>none)=_
   rw [hr]
   rfl
  simp only [pS,ws,e]
  rfl
 ·have em:(bz z).map (ixF ks)=((li z).map fun c=>(aD ks).idxOf c).map fun a:Nat=>PyData.int (a:Nat):=by
   unfold bz
   rw [List.map_map,List.map_map]
   rfl
  rw [em]
  simp only [ws]
  rfl
def atF (os:List Str) (t:D):D:=match t with
 | .int n=>.str (mk1 ((aD os).getD n.toNat 0))
 | _=>.none
theorem Dc (T:TOk os) {ns:List Nat} (hl:ns.length≤100) (hn:∀ n∈ns,n < (aD os).length):W (hW [tD os,nD ns]) (fun r=>r=(.str (ofL (ns.map fun n=>(aD os).getD n 0)),[none,none])):=by
 have t12:=T.l12
 have lz:(sgs os).length=(aD os).length:=cZ _
 simp only [hW,m4,ws]
 refine W.use (qz T) ?_
 rintro _ rfl
 simp only [ws,nD]
 refine eH (atF os) (by rw [List.length_map]; exact sz (by omega)) (fun t ht=>?_) fun o'=>?_
 ·obtain ⟨n,hn',rfl⟩:=List.mem_map.mp ht
  have h:=hn n hn'
  have e:atI (li (sgs os)) (n:Int)=some ((aD os).getD n 0):=by
   rw [bn]
   show (aD os)[n]?=_
   rw [List.getD_eq_getElem?_getD,List.getElem?_eq_getElem h]
   rfl
  simp only [oi,ws,e]
  exact ⟨sz (by omega),rfl⟩
 ·have em:(ns.map fun n:Nat=>PyData.int (n:Nat)).map (atF os)=((ns.map fun n=>(aD os).getD n 0).map mk1).map PyData.str:=by
   rw [List.map_map,List.map_map,List.map_map]
   rfl
  rw [em]
  simp only [ws,nG (show (ns.map fun n=>(aD os).getD n 0).length≤1000 by rw [List.length_map]; omega)]
theorem jN (T:TOk ks) (O:OT ks os) {z:Str} (g:GZ ks 100 z):W (cJ [tD ks,tD os,.str z]) (fun r=>r=(.str (exT ks os z),[none,none,none])):=by
 simp only [cJ,kH,ws]
 refine W.use (GF T g) ?_
 rintro _ rfl
 simp only [ws]
 refine W.use (Dc (O.tok T) (by rw [List.length_map]; exact g.1) fun n hn=>?_) ?_
 ·obtain ⟨c,hc,rfl⟩:=List.mem_map.mp hn
  exact qg O.per.length_eq (g.2 c hc)
 ·rintro _ rfl
  simp only [ws]
  rw [List.map_map]
  rfl
def byF (ks os:List Str) (t:D):D:=match t with
 | .str z=>.str (mk1 (ex (aD ks) (aD os) ((li z).headD 0)))
 | _=>.none
theorem nW (T:TOk ks) (O:OT ks os) {z:Str} (g:GZ ks 100 z):W (fy [tD ks,tD os,.str z]) (fun r=>r=(.str (exT ks os z),[none,none,none])):=by
 have g1:=g.1
 have T2:=O.tok T
 have t12:=T2.l12
 have lz:(sgs os).length=(aD os).length:=cZ _
 have hl:(bz z).length=(li z).length:=by unfold bz; rw [List.length_map]
 simp only [fy,m5,ws,fH T,fH T2]
 refine eH (byF ks os) (by rw [hl]; exact sz (by omega)) (fun t ht=>?_) fun o'=>?_
 ·obtain ⟨c,hc,rfl⟩:=List.mem_map.mp ht
  obtain ⟨rest,hr⟩:=pv (z:=sgs ks) (c:=c) T.nd (g.2 c hc)
  have e:qf (sgs ks) [.str (mk1 c)]=some (.int (((aD ks).idxOf c:Nat):Int)):=by
   show some (PyData.int (match Builtin.Str.occurrences (sgs ks) (mk1 c) 0 (sgs ks).length 1 with
    | i :: _=>(i:Int)
    | []=>-1))=_
   rw [hr]
   rfl
  have h:=qg O.per.length_eq (g.2 c hc)
  have e2:atI (li (sgs os)) (((aD ks).idxOf c:Nat):Int)=some (ex (aD ks) (aD os) c):=by
   rw [bn]
   show (aD os)[(aD ks).idxOf c]?=_
   unfold ex
   rw [List.getD_eq_getElem?_getD,List.getElem?_eq_getElem h]
   rfl
  simp only [om,ws,e,e2]
  exact ⟨sz (by omega),rfl⟩
 ·have em:(bz z).map (byF ks os)=(((li z).map (ex (aD ks) (aD os))).map mk1).map PyData.str:=by
   unfold bz
   rw [List.map_map,List.map_map,List.map_map]
   rfl
  rw [em]
  simp only [ws,nG (show ((li z).map (ex (aD ks) (aD os))).length≤1000 by rw [List.length_map]; omega)]
  rfl
theorem pE (T:TOk ks) (O:OT ks os) {z:Str} (g:GZ ks 100 z):W (bF [tD ks,tD os,.str z]) (fun r=>r=(.str (exT ks os z),[none,none,none])):=by
 simp only [bF,gI,ws]
 refine W.of (nj T O) ?_
 simp only [ws]
 refine W.use (jN T O g) ?_
 rintro _ rfl
 simp only [ws]
end W39
namespace W39
open PySem L2 Tg
variable {ks os:List Str}
def swap (ks os:List Str):Sn→Sn
 | .often z m=>.often (exT ks os z) m
 | .without z=>.without (exT ks os z)
 | .begins z=>.begins (exT ks os z)
 | .ends z=>.ends (exT ks os z)
 | .no s=>.no (swap ks os s)
 | .both s t=>.both (swap ks os s) (swap ks os t)
 | .either s t=>.either (swap ks os s) (swap ks os t)
 | s=>s
theorem nwh (n:Nat) (hl:1≤n):¬ (HT.sIx n 0 (some 1)=0∧HT.sIx n n none=n):=by
 rw [show HT.sIx n 0 (some 1)=min 1 n from HT.sIx_nat n 0 1]
 omega
theorem gm (T:TOk ks) (O:OT ks os) {m:Nat}:∀ {s:Sn},XG ks m s→swap os ks (swap ks os s)=s
 | .long _ _,_=>rfl
 | .least _ _,_=>rfl
 | .apart,_=>rfl
 | .often z k,g=>by show Sn.often (exT os ks (exT ks os z)) k=_; rw [i6 T O g.1]
 | .without z,g=>by show Sn.without (exT os ks (exT ks os z))=_; rw [i6 T O g]
 | .begins z,g=>by show Sn.begins (exT os ks (exT ks os z))=_; rw [i6 T O g]
 | .ends z,g=>by show Sn.ends (exT os ks (exT ks os z))=_; rw [i6 T O g]
 | .no s,g=>by show Sn.no (swap os ks (swap ks os s))=_; rw [gm T O (s:=s) g]
 | .both s t,g=>by show Sn.both (swap os ks (swap ks os s)) (swap os ks (swap ks os t))=_; rw [gm T O g.1,gm T O g.2]
 | .either s t,g=>by show Sn.either (swap os ks (swap ks os s)) (swap os ks (swap ks os t))=_; rw [gm T O g.1,gm T O g.2]
theorem iE (O:OT ks os) {m:Nat}:∀ {s:Sn},XG ks m s→XG os m (swap ks os s)
 | .long _ _,g=>g
 | .least _ _,g=>g
 | .apart,g=>g
 | .often z k,g=>⟨lh O g.1,g.2⟩
 | .without z,g=>lh O g
 | .begins z,g=>lh O g
 | .ends z,g=>lh O g
 | .no s,g=>iE O (s:=s) g
 | .both s t,g=>⟨iE O g.1,iE O g.2⟩
 | .either s t,g=>⟨iE O g.1,iE O g.2⟩
theorem gK:∀ s:Sn,dep (swap ks os s)=dep s
 | .long _ _=>rfl
 | .least _ _=>rfl
 | .apart=>rfl
 | .often z k=>rfl
 | .without z=>rfl
 | .begins z=>rfl
 | .ends z=>rfl
 | .no s=>by show dep (swap ks os s)+1=_; rw [gK s]; rfl
 | .both s t=>by show max (dep (swap ks os s)) (dep (swap ks os t))+1=_; rw [gK s,gK t]; rfl
 | .either s t=>by show max (dep (swap ks os s)) (dep (swap ks os t))+1=_; rw [gK s,gK t]; rfl
theorem XG.mono {m k:Nat} (h:m≤k):∀ {s:Sn},XG ks m s→XG ks k s
 | .long _ _,g=>g
 | .least _ _,g=>g
 | .apart,g=>g
 | .often z _,g=>⟨⟨Nat.le_trans g.1.1 h,g.1.2⟩,g.2⟩
 | .without z,g=>⟨Nat.le_trans g.1 h,g.2⟩
 | .begins z,g=>⟨Nat.le_trans g.1 h,g.2⟩
 | .ends z,g=>⟨Nat.le_trans g.1 h,g.2⟩
 | .no s,g=>XG.mono h (s:=s) g
 | .both s t,g=>⟨XG.mono h g.1,XG.mono h g.2⟩
 | .either s t,g=>⟨XG.mono h g.1,XG.mono h g.2⟩
theorem szB {n:Nat} (h:n≤100000):n≤sizeLine:=by
 have:sizeLine=16777216:=by decide
 omega
theorem GC {n:Nat} (h:n < 100000):n < sizeLine:=by
 have:sizeLine=16777216:=by decide
 omega
theorem z0:decide ((0:Int) < 0)=false:=by decide
theorem z1:decide ((0:Int) < 1)=true:=by decide
theorem z2:decide ((0:Int) < 2)=true:=by decide
theorem gp (T:TOk ks) (O:OT ks os):∀ (n:Nat) (s:Sn),dep s≤n→XG ks 100 s→W (aG n [tD ks,tD os,sD s]) (fun r=>r=(sD (swap ks os s),[none,none,none]))
 | 0,s,h,_=>by have:=iG s; omega
 | n+1,s,h,g=>by
  show W (fnF 1 [0,0,0] (aS (aG n)) _) _
  cases s with
  | no s =>
   have h':dep s+1≤n+1:=h
   have c1:dA [PyData.str "not",sD s] (some 1) none=[sD s]:=rfl
   simp only [sD,aS,a8,bi,ws,hds,z1,c1,cO]
   refine W.use (gp T O n s (by omega) g) ?_
   rintro _ rfl
   simp only [ws,swap,sD]
   exact szB (show 2≤100000 by decide)
  | both s t =>
   have h':max (dep s) (dep t)+1≤n+1:=h
   have c1:dA [PyData.str "both",sD s,sD t] (some 1) none=[sD s,sD t]:=rfl
   simp only [sD,aS,a8,bi,ws,hds,z2,c1,cO]
   refine W.use (gp T O n s (by omega) g.1) ?_
   rintro _ rfl
   simp only [ws]
   refine W.use (gp T O n t (by omega) g.2) ?_
   rintro _ rfl
   simp only [ws,swap,sD]
   exact szB (show 3≤100000 by decide)
  | either s t =>
   have h':max (dep s) (dep t)+1≤n+1:=h
   have c1:dA [PyData.str "either",sD s,sD t] (some 1) none=[sD s,sD t]:=rfl
   simp only [sD,aS,a8,bi,ws,hds,z2,c1,cO]
   refine W.use (gp T O n s (by omega) g.1) ?_
   rintro _ rfl
   simp only [ws]
   refine W.use (gp T O n t (by omega) g.2) ?_
   rintro _ rfl
   simp only [ws,swap,sD]
   exact szB (show 3≤100000 by decide)
  | long lo hi =>
   simp only [sD,aS,a8,bi,ws,hds,z0,swap]
  | least k m =>
   simp only [sD,aS,a8,bi,ws,hds,z0,swap]
  | apart =>
   simp only [sD,aS,a8,bi,ws,hds,z0,swap]
  | often z m =>
   simp only [sD,aS,a8,bi,ws,hds,z0,swap]
   refine W.use (jN T O g.1) ?_
   rintro _ rfl
   simp only [ws]
  | without z =>
   simp only [sD,aS,a8,bi,ws,hds,z0,swap]
   refine W.use (jN T O g) ?_
   rintro _ rfl
   simp only [ws]
  | begins z =>
   simp only [sD,aS,a8,bi,ws,hds,z0,swap]
   refine W.use (jN T O g) ?_
   rintro _ rfl
   simp only [ws]
  | ends z =>
   simp only [sD,aS,a8,bi,ws,hds,z0,swap]
   refine W.use (jN T O g) ?_
   rintro _ rfl
   simp only [ws]
theorem jH (T:TOk ks) (O:OT ks os):∀ (n:Nat) (s:Sn),dep s≤n→XG ks 100 s→W (aR n [tD ks,tD os,sD s]) (fun r=>r=(sD (swap ks os s),[none,none,none]))
 | 0,s,h,_=>by have:=iG s; omega
 | n+1,s,h,g=>by
  have tup:∀ s:Sn,∃ ts,sD s=.tuple ts:=fun s=>by cases s <;> exact ⟨_,rfl⟩
  have is1:∀ s:Sn,aN "str" (sD s)=some (.bool false):=fun s=>by obtain ⟨ts,e⟩:=tup s; rw [e]; rfl
  have is2:∀ s:Sn,aN "tuple" (sD s)=some (.bool true):=fun s=>by obtain ⟨ts,e⟩:=tup s; rw [e]; rfl
  show W (fnF 2 [0,0,0] (aY (aR n)) _) _
  cases s with
  | no s =>
   have h':dep s+1≤n+1:=h
   have c1:dA [PyData.str "not",sD s] (some 1) none=[sD s]:=rfl
   simp only [sD,aY,ws,c1,a7,is1,is2]
   refine W.use (jH T O n s (by omega) g) ?_
   rintro _ rfl
   simp only [ws,swap,sD]
  | both s t =>
   have h':max (dep s) (dep t)+1≤n+1:=h
   have c1:dA [PyData.str "both",sD s,sD t] (some 1) none=[sD s,sD t]:=rfl
   simp only [sD,aY,ws,c1,a7,is1,is2]
   refine W.use (jH T O n s (by omega) g.1) ?_
   rintro _ rfl
   simp only [ws,is1,is2]
   refine W.use (jH T O n t (by omega) g.2) ?_
   rintro _ rfl
   simp only [ws,swap,sD]
  | either s t =>
   have h':max (dep s) (dep t)+1≤n+1:=h
   have c1:dA [PyData.str "either",sD s,sD t] (some 1) none=[sD s,sD t]:=rfl
   simp only [sD,aY,ws,c1,a7,is1,is2]
   refine W.use (jH T O n s (by omega) g.1) ?_
   rintro _ rfl
   simp only [ws,is1,is2]
   refine W.use (jH T O n t (by omega) g.2) ?_
   rintro _ rfl
   simp only [ws,swap,sD]
  | long lo hi =>
   cases hi <;> simp only [sD,oD,aY,ws,a7,swap]
  | least k m =>
   simp only [sD,aY,ws,a7,swap]
  | apart =>
   simp only [sD,aY,ws,a7,swap]
  | often z m =>
   simp only [sD,aY,ws,a7,swap]
   refine W.use (nW T O g.1) ?_
   rintro _ rfl
   simp only [ws]
  | without z =>
   simp only [sD,aY,ws,a7,swap]
   refine W.use (nW T O g) ?_
   rintro _ rfl
   simp only [ws]
  | begins z =>
   simp only [sD,aY,ws,a7,swap]
   refine W.use (nW T O g) ?_
   rintro _ rfl
   simp only [ws]
  | ends z =>
   simp only [sD,aY,ws,a7,swap]
   refine W.use (nW T O g) ?_
   rintro _ rfl
   simp only [ws]
def rD (ks:List Str) (ss:List Sn):D:=.tuple [tD ks,.tuple (ss.map sD)]
def chF (F:D→Option (D × En)) (t:D):D:=match F t with
 | some (r,_)=>r
 | none=>.none
theorem qi {F:D→Option (D × En)} {t r:D} {e:En} (h:F t=some (r,e)):chF F t=r:=by
 unfold chF
 rw [h]
theorem pF (T:TOk ks) (O:OT ks os) {ss:List Sn} (hl:ss.length≤100) (hs:∀ s∈ss,XG ks 100 s∧dep s≤6):W (bG [rD ks ss,tD os]) (fun r=>r=(rD ks (ss.map (swap ks os)),[none,none])):=by
 simp only [bG,gJ,ws,rD]
 refine W.of (nj T O) ?_
 simp only [ws]
 have key:∀ s∈ss,aG 6 [tD ks,tD os,sD s]=some (sD (swap ks os s),[none,none,none]):=fun s h=>by
  obtain ⟨_,e,rfl⟩:=(gp T O 6 s (hs s h).2 (hs s h).1).ex
  exact e
 refine eH (chF fun t=>aG 6 [tD ks,tD os,t]) (by rw [List.length_map]; exact sz (by omega)) (fun t ht=>?_) fun o=>?_
 ·obtain ⟨s,h,rfl⟩:=List.mem_map.mp ht
  simp only [iA,ws]
  refine W.of (key s h) ?_
  simp only [ws]
  rw [qi (F:=fun t=>aG 6 [tD ks,tD os,t]) (key s h)]
 ·have em:(ss.map sD).map (chF fun t=>aG 6 [tD ks,tD os,t])=(ss.map (swap ks os)).map sD:=by
   rw [List.map_map,List.map_map]
   refine List.map_congr_left fun s h=>?_
   exact qi (key s h)
  rw [em]
  simp only [ws]
theorem IA (T:TOk ks) (O:OT ks os) {ss:List Sn} (hl:ss.length≤100) (hs:∀ s∈ss,XG ks 100 s∧dep s≤6) {Q:List D × En→Prop} (h:∀ o,Q ((ss.map (swap ks os)).map sD,[o,some (tD ks),some (tD os)])) :
  W (lcF (gN 0) cY rL (ss.map sD) [] [none,some (tD ks),some (tD os)]) Q:=by
 have key:∀ s∈ss,aR 6 [tD ks,tD os,sD s]=some (sD (swap ks os s),[none,none,none]):=fun s h=>by
  obtain ⟨_,e,rfl⟩:=(jH T O 6 s (hs s h).2 (hs s h).1).ex
  exact e
 refine eH (chF fun t=>aR 6 [tD ks,tD os,t]) (by rw [List.length_map]; exact sz (by omega)) (fun t ht=>?_) fun o=>?_
 ·obtain ⟨s,h,rfl⟩:=List.mem_map.mp ht
  simp only [rL,ws]
  refine W.of (key s h) ?_
  simp only [ws]
  rw [qi (F:=fun t=>aR 6 [tD ks,tD os,t]) (key s h)]
 ·have em:(ss.map sD).map (chF fun t=>aR 6 [tD ks,tD os,t])=(ss.map (swap ks os)).map sD:=by
   rw [List.map_map,List.map_map]
   refine List.map_congr_left fun s h=>?_
   exact qi (key s h)
  rw [em]
  exact h o
end W39
namespace W39
open PySem L2 Tg
variable {ks os:List Str}
def eX:D:=oQ "NoTongue"
theorem Ja:cP kn0 [] eX=some (.bool false):=rfl
theorem u4:cP kn0 ["NoTongue"] eX=some (.bool true):=rfl
theorem wO {ts:List D} {b:D} {j:Nat} (h:aA b=true∧aE ts=true∧bt ts≤60∧ts.length≤sizeLine) (hj:(ts.findIdx? fun t=>peq t b)=some j):gP (.list ts) b=some (.int (j:Nat)):=by
 show (if aA b=true∧aE ts=true∧bt ts≤60∧ts.length≤sizeLine then (ts.findIdx? fun t=>peq t b).map (fun j=>PyData.int (j:Nat)) else none)=_
 rw [if_pos h,hj]
 rfl
theorem DA:W (ey [eX]) (fun r=>r=(.int 0,[none])):=by
 have c1:iH (.list [.bool true,.bool false,.bool false,.bool false,.bool false,.bool false,.bool false,.bool false,.bool false,.bool false,.bool false,.bool false,.bool false]) (.bool true)=some (.int 1):=rfl
 have c2:gP (.list [.bool true,.bool false,.bool false,.bool false,.bool false,.bool false,.bool false,.bool false,.bool false,.bool false,.bool false,.bool false,.bool false]) (.bool true)=some (.int 0):=by
  exact wO ⟨rfl,rfl,by decide,szB (by show 13≤100000; decide)⟩ rfl
 simp only [ws,ey,kK,gq,e8,ig,ie,gt,iK,jC,jD,kP,iO,iL,iN,iM,e7,Ja,u4]
 refine ⟨szB (by show 8≤100000; decide),szB (by show 12≤100000; decide),?_⟩
 simp only [ws,c1,c2,u4]
 all_goals exact GC (by show 12 < 100000; decide)
theorem pP {kn:List Str} {kp:List Nat} {j:Nat} {b hs:MS} {m:MN} {en e:En} {x:Str} {Q:Fl→Prop} (h:b en=none) (hm:m (hidE kp en)=some x) (hx:x∈kn) (h2:hs (en.set j (some (oQ x)))=some (.nx e)) (hq:Q (.nx (e.set j none))):W (nc kn kp j b m hs en) Q:=by
 refine W.of ?_ hq
 unfold nc
 rw [h]
 show (m (hidE kp en)).bind _=_
 rw [hm]
 show (if x∈kn then _ else _)=_
 rw [if_pos hx]
 show (hs (en.set j (some (oQ x)))).bind _=_
 rw [h2]
 rfl
theorem vw {t:D} {w:Str} (h:Bad ks t):bF [tD ks,t,.str w]=none∧de [tD ks,t,.str w]=some ("NoTongue" : Str):=by
 obtain ⟨r1,r2⟩:=pj h
 have ea:(ad (ah 0) (ad (ah 1) ak)) [some (tD ks),some t,some (.str w)]=some ([.inl (tD ks),.inl t],[some (tD ks),some t,some (.str w)]):=rfl
 constructor
 ·exact tK (sH (nk (lQ ea rfl r1)))
 ·show eA [some (tD ks),some t,some (.str w)]=_
  unfold eA
  rw [lT ea rfl,r2]
theorem vx {t:D} {ss:List Sn} (h:Bad ks t):bG [rD ks ss,t]=none∧df [rD ks ss,t]=some ("NoTongue" : Str):=by
 obtain ⟨r1,r2⟩:=pj h
 have ea:(ad (e2 ixA (ah 0) (eC (.int 0))) (ad (ah 1) ak)) [some (rD ks ss),some t]=some ([.inl (tD ks),.inl t],[some (rD ks ss),some t]):=rfl
 constructor
 ·exact tK (sH (nk (lQ ea rfl r1)))
 ·show eD [some (rD ks ss),some t]=_
  unfold eD
  rw [lT ea rfl,r2]
theorem wQ {t:D} {w:Str} {ss:List Sn} (h:Bad ks t):W (eL [tD ks,t,.str w,rD ks ss]) (fun r=>r=(.bool true,[none,none,none,none])):=by
 have t2:Int.toNat 2=2:=rfl
 simp only [ws,eL,jB,t2]
 refine ⟨by decide,?_⟩
 refine gC (fun i en=>∃ o5 o6,en=[some (tD ks),some t,some (.str w),some (rD ks ss),some (.list ((List.range i).map fun _=>.bool true)),o5,o6,none]) ⟨none,none,rfl⟩ (fun i u en ht ⟨o5,o6,e⟩=>?_) fun en ⟨o5,o6,e⟩=>?_
 ·subst e
  obtain ⟨hi,rfl⟩:=gn ht
  have ll:(List.range i).length < sizeLine:=by rw [List.length_range]; exact GC (by omega)
  have nn:iU eX .none=some (.bool true):=rfl
  have e00:decide ((0:Int)=0)=true:=rfl
  have fin:∀ x5:Option D,W ((dF (gg 4 (ki (e2 iU (ah 6) (eC .none)) (e2 eqD (ay ey (ad (ah 6) ak)) (eC (.int 0)))))) [some (tD ks),some t,some (.str w),some (rD ks ss),some (.list ((List.range i).map fun _=>.bool true)),x5,some eX,none]) (fun fl=>∃ o5 o6,fl=.nx [some (tD ks),some t,some (.str w),some (rD ks ss),some (.list ((List.range (i+1)).map fun _=>.bool true)),o5,o6,none]):=fun x5=>by
   have hr:(List.range (i+1)).map (fun _=>PyData.bool true)=(List.range i).map (fun _=>PyData.bool true)++[PyData.bool true]:=by rw [List.range_succ,List.map_append]; rfl
   simp only [ws,nn]
   refine W.use DA ?_
   rintro _ rfl
   simp only [ws,e00,List.length_map]
   exact ⟨ll,_,_,by rw [hr]⟩
  have i2:i=0∨i=1:=by omega
  simp only [ws,kO]
  rcases i2 with rfl | rfl
  ·obtain ⟨r1,r2⟩:=vw (w:=w) h
   refine pP (x:="NoTongue") (e:=[some (tD ks),some t,some (.str w),some (rD ks ss),some (.list ((List.range 0).map fun _=>.bool true)),some (.int (0+(0:Nat))),some eX,some eX]) ?_ ?_ (by decide) rfl ?_
   ·show sIf (tV (e2 eqD (ah 5) (eC (.int 0)))) _ _ _=none
    unfold sIf
    rw [show (tV (e2 eqD (ah 5) (eC (.int 0)))) [some (tD ks),some t,some (.str w),some (rD ks ss),some (.list ((List.range 0).map fun _=>.bool true)),some (.int (0+(0:Nat))),some .none,none]=some (true,[some (tD ks),some t,some (.str w),some (rD ks ss),some (.list ((List.range 0).map fun _=>.bool true)),some (.int (0+(0:Nat))),some .none,none]) from rfl]
    exact nk (lQ (ts:=[tD ks,t,.str w]) rfl rfl r1)
   ·show nIf _ _ _ [some (tD ks),some t,some (.str w),some (rD ks ss),none,some (PyData.int (0+(0:Nat))),some .none,none]=_
    rw [tL (b:=true) (en1:=[some (tD ks),some t,some (.str w),some (rD ks ss),none,some (PyData.int (0+(0:Nat))),some .none,none]) rfl]
    exact (lT (ts:=[tD ks,t,.str w]) rfl rfl).trans r2
   ·refine W.use (fin _) ?_
    rintro _ ⟨o5,o6,rfl⟩
    exact ⟨o5,o6,rfl⟩
  ·obtain ⟨r1,r2⟩:=vx (ss:=ss) h
   refine pP (x:="NoTongue") (e:=[some (tD ks),some t,some (.str w),some (rD ks ss),some (.list ((List.range 1).map fun _=>.bool true)),some (.int (0+(1:Nat))),some eX,some eX]) ?_ ?_ (by decide) rfl ?_
   ·show sIf (tV (e2 eqD (ah 5) (eC (.int 0)))) _ _ _=none
    unfold sIf
    rw [show (tV (e2 eqD (ah 5) (eC (.int 0)))) [some (tD ks),some t,some (.str w),some (rD ks ss),some (.list ((List.range 1).map fun _=>.bool true)),some (.int (0+(1:Nat))),some .none,none]=some (false,[some (tD ks),some t,some (.str w),some (rD ks ss),some (.list ((List.range 1).map fun _=>.bool true)),some (.int (0+(1:Nat))),some .none,none]) from rfl]
    exact nk (lQ (ts:=[rD ks ss,t]) rfl rfl r1)
   ·show nIf _ _ _ [some (tD ks),some t,some (.str w),some (rD ks ss),none,some (PyData.int (0+(1:Nat))),some .none,none]=_
    rw [tL (b:=false) (en1:=[some (tD ks),some t,some (.str w),some (rD ks ss),none,some (PyData.int (0+(1:Nat))),some .none,none]) rfl]
    exact (lT (ts:=[rD ks ss,t]) rfl rfl).trans r2
   ·refine W.use (fin _) ?_
    rintro _ ⟨o5,o6,rfl⟩
    exact ⟨o5,o6,rfl⟩
 ·subst e
  rw [gL]
  have e2:eqD (.list ((List.range 2).map fun _=>PyData.bool true)) (.list [.bool true,.bool true])=some (.bool true):=rfl
  simp only [ws,e2]
end W39
namespace W39
open PySem L2 Tg
variable {ks os:List Str}
theorem qM:∀ {l m:List Nat},l.Nodup→(∀ x∈l,x∈m)→l.length≤m.length
 | [],_,_,_=>Nat.zero_le _
 | x :: l,m,h,hs=>by
  obtain ⟨h1,h2⟩:=List.nodup_cons.mp h
  have hx:=hs x List.mem_cons_self
  have:=qM (m:=m.erase x) h2 fun y hy=>(List.mem_erase_of_ne (fun (e:y=x)=>h1 (e ▸ hy))).mpr (hs y (List.mem_cons_of_mem _ hy))
  rw [List.length_erase_of_mem hx] at this
  have hp:=List.length_pos_of_mem hx
  rw [List.length_cons]
  omega
def odd:Str:="azb0c1d2e3f4!"
theorem G9:(li odd).Nodup:=by decide +kernel
theorem sG:(li odd).length=13:=by decide +kernel
theorem apart {a:Str} {ka:List Str} (T:TOk (a :: ka)) {c:Nat} (h1:c∈li a) (h2:c∈aD ka):False:=by
 have:=T.nd
 rw [ii,List.nodup_append] at this
 exact this.2.2 c h1 c h2 rfl
theorem jY {z:Str} {os:List Str} (h:z∈os) {c:Nat} (hc:c∈li z):c∈aD os:=List.mem_flatten.mpr ⟨li z,List.mem_map.mpr ⟨z,h,rfl⟩,hc⟩
theorem JZ (T:TOk ks) (O:OT ks os) {x:Nat} (hx:x ∉ aD ks) {f:Str} {rest:List Str} (hf:os=f :: rest) {f1:Str} {f0:Nat} (e1:li f=f0 :: li f1) :
  Bad ks (tD rest)∧Bad ks (tD (os++[mk1 x]))∧Bad ks (tD ((mk1 x++f1) :: rest))∧Bad ks (tD (f1 :: rest))∧Bad ks (tD ((f++mk1 f0) :: rest))∧Bad ks (tD (os++[mk1 f0]))∧Bad ks (tD [("" : Str)])∧Bad ks (tD ((f++mk1 x) :: rest))∧Bad ks (.tuple (.none :: rest.map .str))∧Bad ks (.tuple (.list (bz f) :: rest.map .str)):=by
 have T2:=O.tok T
 have n4:=T2.n4
 have ol:=O.l
 subst hf
 obtain ⟨a,ka,rfl⟩:∃ a ka,ks=a :: ka:=by
  cases ks with
  | nil=>cases ol
  | cons a ka=>exact ⟨a,ka,rfl⟩
 have pf:=O.p 0 a f rfl rfl
 have lf:=pf.length_eq
 have ff:=T2.fu f List.mem_cons_self
 rw [List.length_cons] at n4
 have lr:rest.length=ka.length:=by simpa using ol
 have hr:∀ z∈rest,(li z).length≤20:=fun z h=>by have:=(T2.fu z (List.mem_cons_of_mem _ h)).2; omega
 have l1:(li f).length=(li f1).length+1:=by rw [e1]; rfl
 have cons:∀ {y:Str},(li y).length≤20→∀ z∈y :: rest,(li z).length≤20:=fun hy z h=>by
  rcases List.mem_cons.mp h with rfl | h
  ·exact hy
  ·exact hr z h
 have snoc:∀ {y:Str},(li y).length≤20→∀ z∈(f :: rest)++[y],(li z).length≤20:=fun hy z h=>by
  rcases List.mem_append.mp h with h | h
  ·exact cons (by omega) z h
  ·rw [List.mem_singleton.mp h]; exact hy
 have lm:∀ c,(li (mk1 c)).length=1:=fun _=>rfl
 have lc:∀ y z:Str,(li (y++z)).length=(li y).length+(li z).length:=fun y z=>by rw [eE,List.length_append]
 have len:∀ {y:Str},(li y).length≠(li f).length→¬ OT (a :: ka) (y :: rest):=fun hy q=>hy (by rw [(q.p 0 a _ rfl rfl).length_eq,lf])
 have kr:∀ t∈rest.map PyData.str,∃ b,W (bR [t]) (fun r=>r=(.bool b,[none])):=fun t ht=>by
  obtain ⟨z,h,rfl⟩:=List.mem_map.mp ht
  exact qS (by have:=hr z h; omega)
 have form:∀ {u:D},aN "str" u=some (.bool false)→Bad (a :: ka) (.tuple (u :: rest.map .str)):=fun {u} hu=>by
  have ku:=wD hu
  refine eo (uy (by simp) (by simp; omega) (fun t ht=>?_) ⟨u,List.mem_cons_self,qa ku⟩)
  rcases List.mem_cons.mp ht with rfl | ht
  ·exact ⟨_,ku⟩
  ·exact kr t ht
 refine ⟨fX T (by omega) hr fun q=>?_,fX T (by simp; omega) (snoc (by rw [lm]; decide)) fun q=>?_,fX T (by simp; omega) (cons (by rw [lc,lm]; omega)) fun q=>?_,fX T (by simp; omega) (cons (by omega)) (len (by omega)),fX T (by simp; omega) (cons (by rw [lc,lm]; omega)) (len (by rw [lc,lm]; omega)),fX T (by simp; omega) (snoc (by rw [lm]; decide)) fun q=>?_,fX T (by simp) (fun z h=>by rw [List.mem_singleton.mp h]; decide) fun q=>?_,fX T (by simp; omega) (cons (by rw [lc,lm]; omega)) (len (by rw [lc,lm]; omega)),form rfl,form rfl⟩
 ·have:=q.l
  rw [List.length_cons] at this
  omega
 ·have:=q.l
  simp at this
  omega
 ·have:=(q.p 0 a _ rfl rfl).mem_iff.mp (show x∈li (mk1 x++f1) by rw [eE]; exact List.mem_append_left _ (show x∈[x] by simp))
  exact hx (jY List.mem_cons_self this)
 ·have:=q.l
  simp at this
  omega
 ·have:=(q.p 0 a _ rfl rfl).length_eq
  have z:(li ("" : Str)).length=0:=rfl
  have:=ff.1
  omega
theorem J1 (T:TOk ks) (O:OT ks os) {f g:Str} {rest:List Str} (hf:os=f :: g :: rest) {f1 g1:Str} {f0 g0:Nat} (e1:li f=f0 :: li f1) (e2:li g=g0 :: li g1) :
  Bad ks (tD os.reverse)∧Bad ks (tD ((mk1 g0++f1) :: (mk1 f0++g1) :: rest)):=by
 have T2:=O.tok T
 have n4:=T2.n4
 have ol:=O.l
 obtain ⟨a,ka,rfl⟩:∃ a ka,ks=a :: ka:=by
  cases ks with
  | nil=>rw [hf] at ol; cases ol
  | cons a ka=>exact ⟨a,ka,rfl⟩
 have hz:∀ z∈os,(li z).length≤6:=fun z h=>(T2.fu z h).2
 refine ⟨fX T (by rw [List.length_reverse]; omega) (fun z h=>by have:=hz z (List.mem_reverse.mp h); omega) fun q=>?_,fX T (by rw [hf] at n4; simp only [List.length_cons] at n4 ⊢; omega) (fun z h=>?_) fun q=>?_⟩
 ·have h2:2≤os.length:=by rw [hf]; simp
  have hl:os.length - 1 < os.length:=by omega
  have e0:os.reverse[0]?=some os[os.length - 1]:=by
   rw [List.getElem?_reverse (by omega),List.getElem?_eq_getElem (by omega)]
   rfl
  have p0:=q.p 0 a _ rfl e0
  have kl:os.length - 1 < (a :: ka).length:=by rw [← ol]; exact hl
  have p1:=O.p (os.length - 1) _ _ (List.getElem?_eq_getElem kl) (List.getElem?_eq_getElem hl)
  have fa:=(T.fu a List.mem_cons_self).1
  obtain ⟨c,hc⟩:∃ c,c∈li a:=List.exists_mem_of_length_pos fa
  have hc2:=p1.mem_iff.mp (p0.mem_iff.mpr hc)
  have e3:(a :: ka)[os.length - 1]'kl∈ka:=by
   have:(a :: ka)[os.length - 1]?=ka[os.length - 2]?:=by
    rw [show os.length - 1=os.length - 2+1 by omega]
    rfl
   rw [List.getElem?_eq_getElem kl] at this
   exact List.mem_of_getElem? this.symm
  exact apart T hc (jY e3 hc2)
 ·have hfz:=hz f (by rw [hf]; simp)
  have hgz:=hz g (by rw [hf]; simp)
  have l1:(li f).length=(li f1).length+1:=by rw [e1]; rfl
  have l2:(li g).length=(li g1).length+1:=by rw [e2]; rfl
  rcases List.mem_cons.mp h with rfl | h
  ·rw [eE,List.length_append,show (li (mk1 g0)).length=1 from rfl]; omega
  rcases List.mem_cons.mp h with rfl | h
  ·rw [eE,List.length_append,show (li (mk1 f0)).length=1 from rfl]; omega
  ·have:=hz z (by rw [hf]; simp [h]); omega
 ·subst hf
  cases ka with
  | nil=>cases ol
  | cons b kb' =>
   have h1:=(q.p 0 a _ rfl rfl).mem_iff.mp (show g0∈li (mk1 g0++f1) by rw [eE]; exact List.mem_append_left _ (show g0∈[g0] by simp))
   have h2:=(O.p 1 b g rfl rfl).mem_iff.mp (show g0∈li g by rw [e2]; exact List.mem_cons_self)
   exact apart T h1 (jY List.mem_cons_self h2)
end W39
namespace W39
open PySem L2 Tg
variable {ks os:List Str}
theorem Dh (n d:Nat) (h:1≤n):HT.sIx n d (some 1)=1:=by
 rw [show HT.sIx n d (some 1)=min 1 n from HT.sIx_nat n d 1]
 omega
theorem xm {α:Type} (x:α) (l:List α):dA (x :: l) (some 1) none=l:=by
 unfold dA
 rw [Dh _ _ (by simp),HT.sIx_none]
 exact List.take_of_length_le (by simp)
theorem xl {α:Type} (x y:α) (l:List α):dA (x :: y :: l) (some 2) none=l:=by
 unfold dA
 rw [show HT.sIx (x :: y :: l).length 0 (some 2)=min 2 (x :: y :: l).length from HT.sIx_nat _ _ 2,HT.sIx_none,Nat.min_eq_left (by simp)]
 exact List.take_of_length_le (by simp)
theorem hd {z:Str} (h:1≤(li z).length):∃ c y,li z=c :: li y∧atI (li z) 0=some c∧(⟨(db z.cps.toList (some 1) none).toArray⟩:Str)=y:=by
 cases e:li z with
 | nil=>rw [e] at h; cases h
 | cons c r =>
  refine ⟨c,ofL r,rfl,bn _ 0,?_⟩
  have:db z.cps.toList (some 1) none=r:=by
   show db (li z) (some ((1:Nat):Int)) none=_
   rw [jk,e]
   rfl
  rw [this]
  rfl
theorem uQ (T:TOk ks) (O:OT ks os):W (cH [tD ks,tD os]) (fun r=>∃ ts,r=(.list ts,[none,none])∧1≤ts.length∧ts.length≤19∧∀ t∈ts,Bad ks t):=by
 have T2:=O.tok T
 have t12:=T.l12
 have o12:=T2.l12
 have n4:=T2.n4
 have n1:=T2.n1
 have lz:(sgs os).length=(aD os).length:=cZ _
 have ej:=fH T
 have ej2:=fH T2
 obtain ⟨x,fl,hfl,hx⟩:∃ x fl,(bz odd).filter (fun t=>!decide (((txt t).cps.toList.headD 0)∈aD ks))=.str (mk1 x) :: fl∧x ∉ aD ks:=by
  cases e:(bz odd).filter (fun t=>!decide (((txt t).cps.toList.headD 0)∈aD ks)) with
  | nil =>
   exfalso
   rw [List.filter_eq_nil_iff] at e
   have:=qM G9 fun c hc=>by
    have:=e (.str (mk1 c)) (List.mem_map.mpr ⟨c,hc,rfl⟩)
    simpa [txt,mk1] using this
   rw [sG] at this
   omega
  | cons t fl =>
   have ht:t∈(bz odd).filter (fun t=>!decide (((txt t).cps.toList.headD 0)∈aD ks)):=by rw [e]; exact List.mem_cons_self
   obtain ⟨h1,h2⟩:=List.mem_filter.mp ht
   obtain ⟨c,_,rfl⟩:=List.mem_map.mp h1
   refine ⟨c,fl,rfl,?_⟩
   simpa [txt,mk1] using h2
 simp only [ws,cH,gl]
 refine vK (fun t=>!decide (((txt t).cps.toList.headD 0)∈aD ks)) (fun t=>t) (by unfold bz; rw [List.length_map]; exact sz (by show (li odd).length≤1000; rw [sG]; decide)) (fun t ht=>?_) (fun t ht _=>?_) fun o'=>?_
 ·obtain ⟨c,hc,rfl⟩:=List.mem_map.mp ht
  have e:jL (sgs ks) (mk1 c)=decide (c∈aD ks):=StrLaws.found_one (sgs ks) c
  simp only [ij,ws,ej,e]
  rfl
 ·simp only [il,ws]
 ·rw [List.map_id']
  have hfl':List.filter (fun t=>!decide (((txt t).cps.toList.headD 0)∈aD ks)) (bz (Str.ofString "azb0c1d2e3f4!"))=.str (mk1 x) :: fl:=hfl
  rw [hfl']
  have ax:atI (PyData.str (mk1 x) :: fl) 0=some (.str (mk1 x)):=bn _ 0
  cases os with
  | nil=>cases n1
  | cons f rest =>
  have ff:=T2.fu f List.mem_cons_self
  obtain ⟨f0,f1,e1,af,cf⟩:=hd ff.1
  obtain ⟨b1,b2,b3,b4,b5,b6,b7,b8,b9,b10⟩:=JZ T O hx rfl e1
  have c1:dA ((f :: rest).map PyData.str) (some 1) none=rest.map .str:=xm _ _
  have a0:atI ((f :: rest).map PyData.str) 0=some (.str f):=bn _ 0
  have a0':((f :: rest).map PyData.str)[0]?=some (.str f):=rfl
  have nw:=nwh (f :: rest).length (by simp)
  have ej3:joinD "" [PyData.tuple ((f :: rest).map PyData.str)]=some (.str (sgs (f :: rest))):=ej2
  have dn:∀ en:En,qh en=some (.dict [],en):=fun _=>rfl
  have lf:=ll f
  have lf1:f1.length≤6:=by
    rw [← ll]
    have:(li f).length=(li f1).length+1:=by rw [e1]; rfl
    omega
  have lx:∀ c,(mk1 c).length=1:=fun _=>rfl
  have lr:rest.length≤3:=by rw [List.length_cons] at n4; omega
  have lfr:(f :: rest).length≤4:=n4
  have bL:Bad ks (.list ((f :: rest).map .str)):=eo (jE rfl)
  have bS:Bad ks (.str (sgs (f :: rest))):=eo (jE rfl)
  have bN:Bad ks .none:=eo (jE rfl)
  have bI:Bad ks (.int 0):=eo (jE rfl)
  have bB:Bad ks (.bool true):=eo (jE rfl)
  have bT:Bad ks (.tuple []):=eo (qp (.inl rfl))
  have bD:Bad ks (.dict []):=eo (jE rfl)
  have b2':Bad ks (.tuple ((f :: rest).map .str++[.str (mk1 x)])):=by have:=b2; unfold tD at this; rw [List.map_append] at this; exact this
  have b6':Bad ks (.tuple ((f :: rest).map .str++[.str (mk1 f0)])):=by have:=b6; unfold tD at this; rw [List.map_append] at this; exact this
  have first:∀ t∈[PyData.tuple (rest.map .str),.tuple ((f :: rest).map .str++[.str (mk1 x)]),.tuple (.str (mk1 x++f1) :: rest.map .str),.tuple (.str f1 :: rest.map .str),.list ((f :: rest).map .str),.str (sgs (f :: rest)),.none,.int 0,.bool true,.tuple [],.dict [],.tuple (.str (f++mk1 f0) :: rest.map .str),.tuple ((f :: rest).map .str++[.str (mk1 f0)]),.tuple [.str ""],.tuple (.str (f++mk1 x) :: rest.map .str),.tuple (.none :: rest.map .str),.tuple (.list (bz f) :: rest.map .str)],Bad ks t:=fun t ht=>by
   simp only [List.mem_cons,List.not_mem_nil,or_false] at ht
   rcases ht with h | h | h | h | h | h | h | h | h | h | h | h | h | h | h | h | h <;> rw [h] <;> first | exact b1 | exact b2' | exact b3 | exact b4 | exact bL | exact bS | exact bN | exact bI | exact bB | exact bT | exact bD | exact b5 | exact b6' | exact b7 | exact b8 | exact b9 | exact b10
  have lD:lU [.str f]=some (.list (bz f)):=if_pos (szB (show f.cps.size≤100000 by have e:f.length=f.cps.size:=rfl; omega))
  by_cases h1:(1:Int) < ((f :: rest).length:Nat)
  ·cases rest with
   | nil=>exact absurd h1 (show ¬ (1:Int) < 1 by decide)
   | cons g rest =>
   have fg:=T2.fu g (by simp)
   obtain ⟨g0,g1,eg,ag,cg⟩:=hd fg.1
   obtain ⟨d1,d2⟩:=J1 T O rfl e1 eg
   have lg:=ll g
   have lg1:g1.length≤6:=by
    rw [← ll]
    have:(li g).length=(li g1).length+1:=by rw [eg]; rfl
    omega
   have a1:atI ((f :: g :: rest).map PyData.str) 1=some (.str g):=bn _ 1
   have a1':((f :: g :: rest).map PyData.str)[1]?=some (.str g):=rfl
   have c2:dA ((f :: g :: rest).map PyData.str) (some 2) none=rest.map .str:=xl _ _ _
   have nw2:¬ (HT.sIx (f :: g :: rest).length 0 (some 2)=0∧HT.sIx (f :: g :: rest).length (f :: g :: rest).length none=(f :: g :: rest).length):=by
    rw [show HT.sIx (f :: g :: rest).length 0 (some 2)=min 2 (f :: g :: rest).length from HT.sIx_nat _ _ 2]
    simp only [List.length_cons]
    omega
   have d1':Bad ks (.tuple ((f :: g :: rest).map PyData.str).reverse):=by have:=d1; unfold tD at this; rw [List.map_reverse] at this; exact this
   simp only [List.length_cons] at lfr lr
   simp only [ws,ax,tD,c1,a0,a0',cf,af,nw,ej3,dn,not_false_eq_true,true_and,h1,lD,a1,a1',c2,nw2,ag,cg]
   repeat refine ⟨szB (by first | omega | (simp only [List.length_cons,List.length_nil,lx]; omega)),?_⟩
   refine ⟨_,rfl,by simp,by simp,fun t ht=>?_⟩
   simp only [List.mem_cons,List.not_mem_nil,or_false] at ht
   rcases ht with h | h | h | h | h | h | h | h | h | h | h | h | h | h | h | h | h | h | h <;> rw [h] <;> first | exact b1 | exact b2' | exact b3 | exact b4 | exact bL | exact bS | exact bN | exact bI | exact bB | exact bT | exact bD | exact b5 | exact b6' | exact b7 | exact b8 | exact b9 | exact b10 | exact d1' | exact d2
  ·simp only [ws,ax,tD,c1,a0,a0',cf,af,nw,ej3,dn,not_false_eq_true,true_and,h1,lD]
   repeat refine ⟨szB (by first | omega | (simp only [List.length_cons,List.length_nil,lx]; omega)),?_⟩
   exact ⟨_,rfl,by simp,by simp,first⟩
end W39
namespace W39
open PySem L2 Tg
variable {ks os:List Str}
theorem sT (a b:Str):neD (.str a) (.str b)=some (.bool (!decide (a=b))):=by
 show grd _ _=_
 unfold grd
 rw [if_pos ⟨rfl,rfl,show (0:Nat)≤60 by decide⟩]
 show some (PyData.bool (!(a == b)))=_
 by_cases h:a=b
 ·rw [h]; simp
 ·rw [decide_eq_false h]; simp [h]
theorem wn {t:D} (h:aA t=true) (h2:cG t≤60) (h3:peq t t=true):neD t t=some (.bool false):=by
 show grd _ _=_
 unfold grd
 rw [if_pos ⟨h,h,by omega⟩,h3]
 rfl
theorem vQ (T:TOk ks) (O:OT ks os) {p:D} {n:Nat} {x0 x1 x5 x6 x7 x9 x10 x11:Option D} (hp:Pn n p) (hn:n≤50000) {Q:Fl→Prop} (h:∀ p' w o9 o10,Pn (n+300) p'→Q (.nx [x0,x1,some p',some (tD ks),some (tD os),x5,x6,x7,some (.str w),o9,o10,x11])) :
  W (eh (gN 9) rJ (kW 0 3) [x0,x1,some p,some (tD ks),some (tD os),x5,x6,x7,some (.str ""),x9,x10,x11]) Q:=by
 refine gC (fun i en=>∃ p' w o9 o10,en=[x0,x1,some p',some (tD ks),some (tD os),x5,x6,x7,some (.str w),o9,o10,x11]∧GZ ks 60 w∧Pn (n+70 * i) p') ⟨p, "",x9,x10,rfl,⟨by decide,fun c hc=>by cases hc⟩,hp⟩ (fun i t en ht ⟨p',w,o9,o10,e,g,hp'⟩=>?_) fun en ⟨p',w,o9,o10,e,g,hp'⟩=>?_
 ·subst e
  obtain ⟨hi,rfl⟩:=gn ht
  have g1:GZ ks 100 w:=⟨by have:=g.1; omega,g.2⟩
  have g2:GZ os 100 (exT ks os w):=lh O g1
  have e1:=sT (exT ks os w) (exT ks os w)
  rw [decide_eq_true rfl] at e1
  have e2:=sT w w
  rw [decide_eq_true rfl] at e2
  have T2:=O.tok T
  have bk:=i6 T O g1
  simp only [ws,rJ]
  refine W.use (pE T O g1) ?_
  rintro _ rfl
  simp only [ws]
  refine W.use (nW T O g1) ?_
  rintro _ rfl
  simp only [ws,e1]
  refine W.use (pE T2 O.sym g2) ?_
  rintro _ rfl
  rw [bk]
  simp only [ws,e2]
  refine ⟨by decide,?_⟩
  have i3:i=0∨i=1∨i=2:=by omega
  have next:∀ m:Nat,m=9∨m=60→∀ {Q2:D × En→Prop},(∀ z p2,GZ ks 60 z→Pn (n+70 * (i+1)) p2→Q2 (.str z,[some p2,none,none]))→W (cS [p',tD ks,.int (m:Nat)]) Q2:=fun m hm Q2 hQ2=>by
   refine W.use (su T hp' (m:=m) (by omega) (by omega) (by omega)) ?_
   rintro _ ⟨z,p2,rfl,gz,hp2⟩
   exact hQ2 z p2 ⟨by have:=gz.lm; omega,gz.mem⟩ (hp2.mono (by omega))
  rcases i3 with rfl | rfl | rfl
  ·refine W.of (show atI [PyData.int 9,PyData.int 60] ((0+((0:Nat):Int)) % 2)=some (.int 9) from rfl) ?_
   simp only [ws]
   refine next 9 (.inl rfl) fun z p2 gz hp2=>?_
   simp only [ws]
   exact ⟨p2,z,_,_,rfl,gz,hp2⟩
  ·refine W.of (show atI [PyData.int 9,PyData.int 60] ((0+((1:Nat):Int)) % 2)=some (.int 60) from rfl) ?_
   simp only [ws]
   refine next 60 (.inr rfl) fun z p2 gz hp2=>?_
   simp only [ws]
   exact ⟨p2,z,_,_,rfl,gz,hp2⟩
  ·refine W.of (show atI [PyData.int 9,PyData.int 60] ((0+((2:Nat):Int)) % 2)=some (.int 9) from rfl) ?_
   simp only [ws]
   refine next 9 (.inl rfl) fun z p2 gz hp2=>?_
   simp only [ws]
   exact ⟨p2,z,_,_,rfl,gz,hp2⟩
 ·subst e
  rw [gL] at hp'
  exact h p' w o9 o10 (hp'.mono (by omega))
theorem lR:∀ s:Sn,aA (sD s)=true
 | .long _ none=>rfl
 | .long _ (some _)=>rfl
 | .least _ _=>rfl
 | .apart=>rfl
 | .often _ _=>rfl
 | .without _=>rfl
 | .begins _=>rfl
 | .ends _=>rfl
 | .no s=>by simp only [sD,aA,aE,lR s]; rfl
 | .both s t=>by simp only [sD,aA,aE,lR s,lR t]; rfl
 | .either s t=>by simp only [sD,aA,aE,lR s,lR t]; rfl
theorem oR:∀ s:Sn,cG (sD s)≤dep s
 | .long _ none=>by simp [sD,oD,cG,bt,dep]
 | .long _ (some _)=>by simp [sD,oD,cG,bt,dep]
 | .least _ _=>by simp [sD,cG,bt,dep]
 | .apart=>by simp [sD,cG,bt,dep]
 | .often _ _=>by simp [sD,cG,bt,dep]
 | .without _=>by simp [sD,cG,bt,dep]
 | .begins _=>by simp [sD,cG,bt,dep]
 | .ends _=>by simp [sD,cG,bt,dep]
 | .no s=>by have:=oR s; simp only [sD,cG,bt,dep]; omega
 | .both s t=>by have:=oR s; have:=oR t; simp only [sD,cG,bt,dep]; omega
 | .either s t=>by have:=oR s; have:=oR t; simp only [sD,cG,bt,dep]; omega
theorem uR:∀ ss:List Sn,aE (ss.map sD)=true
 | []=>rfl
 | s :: ss=>by rw [List.map_cons]; simp only [aE,lR,uR ss]; rfl
theorem C7:∀ {ss:List Sn},(∀ s∈ss,dep s≤6)→bt (ss.map sD)≤6
 | [],_=>Nat.zero_le _
 | s :: ss,h=>by
  have h1:=h s List.mem_cons_self
  have h2:=C7 fun x hx=>h x (List.mem_cons_of_mem _ hx)
  have:=oR s
  rw [List.map_cons]
  simp only [bt]
  omega
theorem CP {ss:List Sn} (h:∀ s∈ss,dep s≤6):neD (rD ks ss) (rD ks ss)=some (.bool false):=by
 have n:aA (rD ks ss)=true:=by
  unfold rD tD
  simp only [aA,aE,oB,uR]
  rfl
 refine wn n ?_ (jU _ n)
 have:=C7 h
 unfold rD tD
 simp only [cG,bt,lp]
 omega
def rvS (z:Str):Str:=⟨z.cps.toList.reverse.toArray⟩
theorem Jc {m:Nat} {z:Str} (g:GZ ks m z):GZ ks m (rvS z):=⟨by show z.cps.toList.reverse.length≤m; rw [List.length_reverse]; exact g.1,fun c hc=>g.2 c (List.mem_reverse.mp (show c∈z.cps.toList.reverse from hc))⟩
theorem orS {P:Str→Prop} {R:En→Prop} {f g:ME} {en:En} {K:D × En→Prop} (h1:W (f en) (fun r=>∃ z en',r=(.str z,en')∧R en'∧P z∧z.length≤sizeLine)) (h2:∀ en',R en'→∃ z,P z∧W (g en') (fun r=>r=(.str z,en'))) (h:∀ z en',R en'→P z→K (.str z,en')):W (lj f g en) K:=by
 obtain ⟨_,e,z,en',rfl,hr,pz,hz⟩:=h1.ex
 by_cases h0:z.length=0
 ·obtain ⟨y,py,hy⟩:=h2 en' hr
  obtain ⟨_,e2,rfl⟩:=hy.ex
  refine W.of ?_ (h y en' hr py)
  unfold lj
  rw [e]
  show (if z.length≤sizeLine then (if z.length=0 then g en' else some (.str z,en')) else none)=_
  rw [if_pos hz,if_pos h0,e2]
 ·refine W.of ?_ (h z en' hr pz)
  unfold lj
  rw [e]
  show (if z.length≤sizeLine then (if z.length=0 then g en' else some (.str z,en')) else none)=_
  rw [if_pos hz,if_neg h0]
theorem wv:Hk ut:=by
 intro ns hn
 suffices W (ut [.list (ns.map .int)]) (fun r=>∃ o,r=(.bool true,o)) by
  obtain ⟨_,e,o,rfl⟩:=this.ex
  exact ⟨o,e⟩
 have t2:Int.toNat 2=2:=rfl
 have t3:Int.toNat 3=3:=rfl
 have t4:Int.toNat 4=4:=rfl
 simp only [ws,ut,xD,t2]
 refine ⟨by decide,?_⟩
 refine gC (fun i en=>∃ o1 o2 o3 o4 o5 o6 o7 o8 o9 o10 o11,en=[some (.list (ns.map .int)),o1,o2,o3,o4,o5,o6,o7,o8,o9,o10,o11]) ⟨none,none,none,none,none,none,none,none,none,none,none,rfl⟩ (fun i t en ht ⟨o1,o2,o3,o4,o5,o6,o7,o8,o9,o10,o11,e⟩=>?_) fun en ⟨o1,o2,o3,o4,o5,o6,o7,o8,o9,o10,o11,e⟩=>?_
 ·subst e
  obtain ⟨hi,rfl⟩:=gn ht
  simp only [ws,vM]
  refine Db (by omega) hn fun p hp=>?_
  simp only [ws]
  refine W.use (ux hp) ?_
  rintro _ ⟨ks,p1,rfl,T,hp1⟩
  simp only [ws]
  refine W.use (wg T hp1 (by decide)) ?_
  rintro _ ⟨os,p2,rfl,O,hp2⟩
  have T2:=O.tok T
  simp only [ws]
  have pw:iy 10 9:=by unfold iy; decide
  refine ⟨pw,?_⟩
  refine W.use (Di T hp2 (by decide)) ?_
  rintro _ ⟨ss,p3,rfl,sl5,sg,hp3⟩
  have ej:=fH T
  have t12:=T.l12
  have lz:(sgs ks).length=(aD ks).length:=cZ _
  simp only [ws]
  refine orS (P:=GZ ks 12) (R:=fun en'=>∃ p5,Pn 20200 p5∧en'=[some (PyData.list (List.map PyData.int ns)),some (PyData.int (0+(i:Nat))),some p5,some (tD ks),some (tD os),some (PyData.tuple [tD ks,PyData.tuple (List.map sD ss)]),o6,o7,o8,o9,o10,o11]) ?_ ?_ ?_
  ·simp only [ws,ej]
   refine bK hp3 (by decide) (by decide) (by decide) fun a p4 a0 a3 hp4=>?_
   obtain ⟨a,rfl⟩:=Int.eq_ofNat_of_zero_le a0
   have ca:db (sgs ks).cps.toList (some (a:Int)) none=(aD ks).drop a:=jk _ a
   simp only [ws,ca]
   refine ⟨szB (by omega),bK hp4 (by decide) (by decide) (by decide) fun b p5 b0 b4 hp5=>?_⟩
   obtain ⟨b,rfl⟩:=Int.eq_ofNat_of_zero_le b0
   have cb:db ((aD ks).drop a) none (some (1+(b:Int)))=((aD ks).drop a).take (b+1):=by
    rw [show (1+(b:Int))=((b+1:Nat):Int) by omega]
    exact lu _ _
   have l1:(⟨((aD ks).drop a).toArray⟩:Str).length≤12:=by
    rw [show (⟨((aD ks).drop a).toArray⟩:Str)=ofL ((aD ks).drop a) from rfl,cZ,List.length_drop]
    omega
   have gz1:GZ ks 12 ⟨(((aD ks).drop a).take (b+1)).toArray⟩:=⟨by show (((aD ks).drop a).take (b+1)).length≤12; rw [List.length_take,List.length_drop]; omega,fun c hc=>List.mem_of_mem_drop (List.mem_of_mem_take (show c∈((aD ks).drop a).take (b+1) from hc))⟩
   simp only [ws,cb]
   exact ⟨szB (by omega),_,_,rfl,⟨p5,hp5.mono (by decide),rfl⟩,gz1,szB (by have:=gz1.1; rw [ll] at this; omega)⟩
  ·rintro _ ⟨p5,hp5,rfl⟩
   obtain ⟨f,rest,rfl⟩:∃ f rest,ks=f :: rest:=by
    have:=T.n1
    cases ks with
    | nil=>cases this
    | cons f rest=>exact ⟨f,rest,rfl⟩
   have ff:=T.fu f List.mem_cons_self
   obtain ⟨f0,f1,e1,af,cf⟩:=hd ff.1
   have a0:atI ((f :: rest).map PyData.str) 0=some (.str f):=bn _ 0
   have a0':((f :: rest).map PyData.str)[0]?=some (.str f):=rfl
   refine ⟨mk1 f0,⟨by show 1≤12; decide,fun c hc=>?_⟩,?_⟩
   ·rw [List.mem_singleton.mp (show c∈[f0] from hc)]
    exact jY List.mem_cons_self (by rw [e1]; exact List.mem_cons_self)
   ·simp only [ws,tD,a0,a0',af]
    exact szB (by have:=ll f; omega)
  ·rintro z _ ⟨p5,hp5,rfl⟩ gz
   have gr:GZ ks 12 (rvS z):=Jc gz
   have lzz:z.length≤12:=by rw [← ll]; exact gz.1
   let dp:Sn:=.both (.no (.no (.begins z))) (.either (.often z 3) (.ends (rvS z)))
   let of:Sn:=.often (rvS z) 2
   have eR:PyData.tuple [tD ks,PyData.tuple (ss.map sD++[sD dp,sD of])]=rD ks (ss++[dp,of]):=by
    unfold rD
    rw [List.map_append]
    rfl
   have gS:∀ s∈ss++[dp,of],XG ks 100 s∧dep s≤6:=fun s hs=>by
    rcases List.mem_append.mp hs with h | h
    ·exact ⟨XG.mono (by decide) (sg s h).1,by have:=(sg s h).2; omega⟩
    ·have z1:GZ ks 100 z:=⟨by have:=gz.1; omega,gz.2⟩
     have z2:GZ ks 100 (rvS z):=⟨by have:=gr.1; omega,gr.2⟩
     simp only [List.mem_cons,List.not_mem_nil,or_false] at h
     rcases h with rfl | rfl
     ·exact ⟨⟨z1,⟨z1,by decide⟩,z2⟩,by show max (1+1+1) (max 1 1+1)+1≤6; decide⟩
     ·exact ⟨⟨z2,by decide⟩,by show 1≤6; decide⟩
   have lS:(ss++[dp,of]).length≤100:=by rw [List.length_append]; show _+2≤_; omega
   simp only [ws,t3]
   refine ⟨szB (by omega),szB (by omega),szB (by show ss.length+2≤_; omega),by decide,?_⟩
   rw [show PyData.tuple [tD ks,PyData.tuple (ss.map sD++[PyData.tuple [.str "both",.tuple [.str "not",.tuple [.str "not",.tuple [.str "begins",.str z]]],.tuple [.str "either",.tuple [.str "often",.str z,.int 3],.tuple [.str "ends",.str ⟨z.cps.toList.reverse.toArray⟩]]],.tuple [.str "often",.str ⟨z.cps.toList.reverse.toArray⟩,.int 2]])]=rD ks (ss++[dp,of]) from eR]
   generalize ss++[dp,of]=S at gS lS
   refine vQ T O hp5 (by decide) fun p6 w q9 q10 hp6=>?_
   simp only [ws,rD]
   refine IA T O lS gS fun o=>?_
   simp only [ws]
   refine W.use (pF T O lS gS) ?_
   rintro _ rfl
   have lS':(S.map (swap ks os)).length≤100:=by rw [List.length_map]; exact lS
   have gS':∀ s∈S.map (swap ks os),XG os 100 s∧dep s≤6:=fun s hs=>by
    obtain ⟨r,hr,rfl⟩:=List.mem_map.mp hs
    exact ⟨iE O (gS r hr).1,by rw [gK]; exact (gS r hr).2⟩
   have eB:(S.map (swap ks os)).map (swap os ks)=S:=by
    rw [List.map_map]
    exact (List.map_congr_left fun s hs=>gm T O (gS s hs).1).trans (List.map_id _)
   have ne1:neD (.tuple [tD ks,.tuple ((S.map (swap ks os)).map sD)]) (.tuple [tD ks,.tuple ((S.map (swap ks os)).map sD)])=some (.bool false):=CP fun s hs=>(gS' s hs).2
   have ne2:neD (.tuple [tD os,.tuple (S.map sD)]) (.tuple [tD os,.tuple (S.map sD)])=some (.bool false):=CP fun s hs=>(gS s hs).2
   simp only [ws,rD,ne1]
   refine W.use (pF T2 O.sym lS' gS') ?_
   rintro _ rfl
   rw [eB]
   simp only [ws,rD,ne2]
   refine W.use (uQ T O) ?_
   rintro _ ⟨ts,rfl,l1,l19,hb⟩
   simp only [ws,t4]
   refine ⟨by decide,?_⟩
   refine gC (fun j en=>∃ p' o7 o9 o10 o11,en=[some (.list (ns.map .int)),some (.int (0+(i:Nat))),some p',some (tD ks),some (tD os),some (rD ks S),some (.list ts),o7,some (.str w),o9,o10,o11]∧Pn (20500+j) p') ⟨p6,_,_,_,_,rfl,hp6⟩ (fun j t en ht ⟨p',q7,q9,q10,q11,e,hp'⟩=>?_) fun en ⟨p',q7,q9,q10,q11,e,hp'⟩=>?_
   ·subst e
    obtain ⟨hj,rfl⟩:=gn ht
    simp only [ws,vN]
    refine bK hp' (by omega) (by omega) (by omega) fun r p7 r0 r1 hp7=>?_
    obtain ⟨k,rfl⟩:=Int.eq_ofNat_of_zero_le r0
    have hk:k < ts.length:=by omega
    have ek:atI ts (k:Int)=some ts[k]:=by rw [bn,List.getElem?_eq_getElem hk]
    simp only [ws,ek]
    refine W.use (wQ (hb _ (List.getElem_mem hk))) ?_
    rintro _ rfl
    simp only [ws]
    exact ⟨p7,_,_,_,_,rfl,hp7⟩
   ·subst e
    simp only [ws]
    exact ⟨_,_,_,_,_,_,_,_,_,_,_,rfl⟩
 ·subst e
  simp only [ws]
  exact ⟨_,rfl⟩
end W39
set_option maxHeartbeats 4000000
namespace W39
open PySem L2
theorem k9 {α β:Type} {us:List α} {x0:β} (h:us.length=[x0].length):∃ a0,us=[a0]:=by
 cases us with
 | nil=>cases h
 | cons a0 r=>exact ⟨a0,by rw [List.length_eq_zero_iff.mp (show r.length=0 from Nat.succ.inj h)]⟩
theorem dJ {α β:Type} {us:List α} {x0 x1:β} (h:us.length=[x0,x1].length):∃ a0 a1,us=[a0,a1]:=by
 cases us with
 | nil=>cases h
 | cons a0 r=>obtain ⟨a1,rfl⟩:=k9 (us:=r) (x0:=x1) (Nat.succ.inj h); exact ⟨a0,a1,rfl⟩
theorem cC {α β:Type} {us:List α} {x0 x1 x2:β} (h:us.length=[x0,x1,x2].length):∃ a0 a1 a2,us=[a0,a1,a2]:=by
 cases us with
 | nil=>cases h
 | cons a0 r=>obtain ⟨a1,a2,rfl⟩:=dJ (us:=r) (x0:=x1) (x1:=x2) (Nat.succ.inj h); exact ⟨a0,a1,a2,rfl⟩
theorem JQ {α β:Type} {us:List α} {x0 x1 x2 x3:β} (h:us.length=[x0,x1,x2,x3].length):∃ a0 a1 a2 a3,us=[a0,a1,a2,a3]:=by
 cases us with
 | nil=>cases h
 | cons a0 r=>obtain ⟨a1,a2,a3,rfl⟩:=cC (us:=r) (x0:=x1) (x1:=x2) (x2:=x3) (Nat.succ.inj h); exact ⟨a0,a1,a2,a3,rfl⟩
theorem all_mk {l:PySem.W.OpenLaw} {w:World} {K:PySem.W.Frag} {h:Heap} {mg:Str→Option Value} {fa f0 f1 f2 f3 f4 f5 f6 f7 f8 f9 f10 f11 f12 f13 f14 f15 f16 f17 f18 f19 f20 f21 f22 f23 f24 f25 f26 f27:Addr} {tk0:Tok} {tk1:Tok} {tk2:Tok} {tk3:Tok} {tk4:Tok} {tk5:Tok} (X:K.In h) (G:h.Ns mainGlobals mg) (hfa:mg "law"=some (.ref fa))
  (d0:Df K "is_sign" mU f0)
  (d1:Df K "is_kind" kt f1)
  (d2:Df K "are_unlike" ju f2)
  (d3:Df K "signs_of" lC f3)
  (d4:Df K "is_tongue" iD f4)
  (d5:Df K "row_of" lZ f5)
  (d6:Df K "word_of" kq f6)
  (d7:Df K "how_many_parts" gD f7)
  (d8:Df K "refuse_other_signs" bx f8)
  (d9:Df K "exchanged" kw f9)
  (d10:Df K "exchanged_word" eV f10)
  (d11:Df K "exchanged_sentence" dg f11)
  (d12:Df K "exchanged_rule" dw f12)
  (d13:Df K "_law_pen" lF f13)
  (d14:Df K "_law_draw" kA f14)
  (d15:Df K "_law_tongue" gE f15)
  (d16:Df K "_law_text" kx f16)
  (d17:Df K "_law_plain" jv f17)
  (d18:Df K "_law_sentence" hC f18)
  (d19:Df K "_law_weight" i9 f19)
  (d20:Df K "_law_rule" ky f20)
  (d21:Df K "_law_other" jw f21)
  (d22:Df K "_law_by" kB f22)
  (d23:Df K "_law_sentence_by" fO f23)
  (d24:Df K "_law_mark" kz f24)
  (d25:Df K "_law_heard" jx f25)
  (d26:Df K "_law_no_tongues" er f26)
  (d27:Df K "law" lE f27)
  (y0:PySem.W.nsIn K mainGlobals "LOWEST_CODE"=some (some (.int 33 tk0)))
  (y1:PySem.W.nsIn K mainGlobals "HIGHEST_CODE"=some (some (.int 126 tk1)))
  (y2:PySem.W.nsIn K mainGlobals "PERCENT_CODE"=some (some (.int 37 tk2)))
  (y3:PySem.W.nsIn K mainGlobals "MOST_SIGNS_OF_A_KIND"=some (some (.int 6 tk3)))
  (y4:PySem.W.nsIn K mainGlobals "MOST_SIGNS"=some (some (.int 12 tk4)))
  (y5:PySem.W.nsIn K mainGlobals "MOST_KINDS"=some (some (.int 4 tk5)))
  (qNoTongue:PySem.W.nsIn K mainGlobals "NoTongue"=some (some (.ref (clK K "NoTongue"))))
  (qWordError:PySem.W.nsIn K mainGlobals "WordError"=some (some (.ref (clK K "WordError"))))
  (qNoSentence:PySem.W.nsIn K mainGlobals "NoSentence"=some (some (.ref (clK K "NoSentence"))))
  (qTooMany:PySem.W.nsIn K mainGlobals "TooMany"=some (some (.ref (clK K "TooMany"))))
  (qTooMuch:PySem.W.nsIn K mainGlobals "TooMuch"=some (some (.ref (clK K "TooMuch"))))
  (qNoNumber:PySem.W.nsIn K mainGlobals "NoNumber"=some (some (.ref (clK K "NoNumber"))))
  (qNoWord:PySem.W.nsIn K mainGlobals "NoWord"=some (some (.ref (clK K "NoWord"))))
  (qNoFit:PySem.W.nsIn K mainGlobals "NoFit"=some (some (.ref (clK K "NoFit"))))
  (qElder:PySem.W.nsIn K mainGlobals "Elder"=some (some (.ref (clK K "Elder"))))
  (qNear:PySem.W.nsIn K mainGlobals "Near"=some (some (.ref (clK K "Near"))))
  (qNoBack:PySem.W.nsIn K mainGlobals "NoBack"=some (some (.ref (clK K "NoBack"))))
  (qNoText:PySem.W.nsIn K mainGlobals "NoText"=some (some (.ref (clK K "NoText"))))
  (qNoLine:PySem.W.nsIn K mainGlobals "NoLine"=some (some (.ref (clK K "NoLine"))))
  (qNoName:PySem.W.nsIn K mainGlobals "NoName"=some (some (.ref (clK K "NoName"))))
  (rNoTongue:PySem.W.excIn K (clK K "NoTongue") vE "ValueError.__new__"=true)
  (rWordError:PySem.W.excIn K (clK K "WordError") vE "ValueError.__new__"=true)
  (bWordError:C4 K kn0 "WordError"=true)
  (tNoTongue:bV K kn0 gq (.ref (clK K "NoTongue"))=true)
  (tNoSentence:bV K kn0 e8 (.ref (clK K "NoSentence"))=true)
  (tTooMany:bV K kn0 ig (.ref (clK K "TooMany"))=true)
  (tTooMuch:bV K kn0 ie (.ref (clK K "TooMuch"))=true)
  (tNoNumber:bV K kn0 gt (.ref (clK K "NoNumber"))=true)
  (tNoWord:bV K kn0 iK (.ref (clK K "NoWord"))=true)
  (tNoFit:bV K kn0 jC (.ref (clK K "NoFit"))=true)
  (tElder:bV K kn0 jD (.ref (clK K "Elder"))=true)
  (tNear:bV K kn0 kP (.ref (clK K "Near"))=true)
  (tNoBack:bV K kn0 iO (.ref (clK K "NoBack"))=true)
  (tNoText:bV K kn0 iL (.ref (clK K "NoText"))=true)
  (tNoLine:bV K kn0 iN (.ref (clK K "NoLine"))=true)
  (tNoName:bV K kn0 iM (.ref (clK K "NoName"))=true)
  (tValueError:bV K kn0 e7 (.type "ValueError")=true)
  (z0:PySem.W.nsIn K mainGlobals "ValueError"=some none)
  (z1:PySem.W.nsIn K mainGlobals "all"=some none)
  (z2:PySem.W.nsIn K mainGlobals "int"=some none)
  (z3:PySem.W.nsIn K mainGlobals "isinstance"=some none)
  (z4:PySem.W.nsIn K mainGlobals "len"=some none)
  (z5:PySem.W.nsIn K mainGlobals "list"=some none)
  (z6:PySem.W.nsIn K mainGlobals "max"=some none)
  (z7:PySem.W.nsIn K mainGlobals "ord"=some none)
  (z8:PySem.W.nsIn K mainGlobals "range"=some none)
  (z9:PySem.W.nsIn K mainGlobals "set"=some none)
  (z10:PySem.W.nsIn K mainGlobals "sorted"=some none)
  (z11:PySem.W.nsIn K mainGlobals "str"=some none)
  (z12:PySem.W.nsIn K mainGlobals "sum"=some none)
  (z13:PySem.W.nsIn K mainGlobals "tuple"=some none) :
  ∃ fd:FuncData,(∀ (s:Shared) (v:Value),BindsTo s fd ⟨[v],[]⟩ [("_law_script",v)])∧∀ base:Heap,K.In base→base.Ns mainGlobals mg→FnOk l.prog w K mg base CX0 12 fa fd ["_law_script"] (nb K):=by
 have e:=hfa.symm.trans (PySem.W.mg_of X G d27.a)
 cases e
 have v0:=PySem.W.mg_of X G y0
 have v1:=PySem.W.mg_of X G y1
 have v2:=PySem.W.mg_of X G y2
 have v3:=PySem.W.mg_of X G y3
 have v4:=PySem.W.mg_of X G y4
 have v5:=PySem.W.mg_of X G y5
 have mqNoTongue:=PySem.W.mg_of X G qNoTongue
 have mqWordError:=PySem.W.mg_of X G qWordError
 have mqNoSentence:=PySem.W.mg_of X G qNoSentence
 have mqTooMany:=PySem.W.mg_of X G qTooMany
 have mqTooMuch:=PySem.W.mg_of X G qTooMuch
 have mqNoNumber:=PySem.W.mg_of X G qNoNumber
 have mqNoWord:=PySem.W.mg_of X G qNoWord
 have mqNoFit:=PySem.W.mg_of X G qNoFit
 have mqElder:=PySem.W.mg_of X G qElder
 have mqNear:=PySem.W.mg_of X G qNear
 have mqNoBack:=PySem.W.mg_of X G qNoBack
 have mqNoText:=PySem.W.mg_of X G qNoText
 have mqNoLine:=PySem.W.mg_of X G qNoLine
 have mqNoName:=PySem.W.mg_of X G qNoName
 have HWordError:ExcK K mg kn0 "WordError":=⟨bWordError,mqWordError,rWordError⟩
 have T:Bl mg:=⟨PySem.W.mg_none_of X G z0,PySem.W.mg_none_of X G z1,PySem.W.mg_none_of X G z2,PySem.W.mg_none_of X G z3,PySem.W.mg_none_of X G z4,PySem.W.mg_none_of X G z5,PySem.W.mg_none_of X G z6,PySem.W.mg_none_of X G z7,PySem.W.mg_none_of X G z8,PySem.W.mg_none_of X G z9,PySem.W.mg_none_of X G z10,PySem.W.mg_none_of X G z11,PySem.W.mg_none_of X G z12,PySem.W.mg_none_of X G z13⟩
 obtain ⟨oc,od,kV,dc,pm,an,cd,ct,sl,ll,lc⟩:=d27.l
 have FL:=nL (st:=lE) ll lc d27.k
 refine ⟨PySem.W.fnOf "law" "law" (eJ lE) (da lE) (av lE) .none kV dc pm an cd ct,fun s v=>.of_eq rfl,fun base _ _=>?_⟩
 have g0:Kn l.prog w K mg base 1 "is_sign" ["sign"] (spF K [0] 3 dB):=d0.kn X G (fun _ _ _ _ _ _ us hl=>by obtain ⟨a0,rfl⟩:=k9 hl; rfl) fun _ F=>uK (k:=0) T v0 v1 v2    F
 have g1:Kn l.prog w K mg base 2 "is_kind" ["thing"] (spF K [0] 3 bR):=d1.kn X G (fun _ _ _ _ _ _ us hl=>by obtain ⟨a0,rfl⟩:=k9 hl; rfl) fun _ F=>uL (k:=1) T v3 (g0.mono (by decide))   F
 have g2:Kn l.prog w K mg base 1 "are_unlike" ["signs"] (spF K [0] 3 dC):=d2.kn X G (fun _ _ _ _ _ _ us hl=>by obtain ⟨a0,rfl⟩:=k9 hl; rfl) fun _ F=>qI (k:=0) T     F
 have g3:Kn l.prog w K mg base 1 "signs_of" ["tongue"] (spF K [0] 3 cA):=d3.kn X G (fun _ _ _ _ _ _ us hl=>by obtain ⟨a0,rfl⟩:=k9 hl; rfl) fun _ F=>tI (k:=0) T     F
 have g4:Kn l.prog w K mg base 3 "is_tongue" ["thing"] (spF K [0] 3 ba):=d4.kn X G (fun _ _ _ _ _ _ us hl=>by obtain ⟨a0,rfl⟩:=k9 hl; rfl) fun _ F=>rP (k:=2) T v4 v5 (g3.mono (by decide)) (g2.mono (by decide)) (g1.mono (by decide))   F
 have g5:Kn l.prog w K mg base 2 "row_of" ["tongue", "word"] (spF K [0,0] 3 iJ):=d5.kn X G (fun _ _ _ _ _ _ us hl=>by obtain ⟨a0,a1,rfl⟩:=dJ hl; rfl) fun _ F=>wl (k:=1) T  (g3.mono (by decide))   F
 have g6:Kn l.prog w K mg base 2 "word_of" ["tongue", "row"] (spF K [0,0] 3 hW):=d6.kn X G (fun _ _ _ _ _ _ us hl=>by obtain ⟨a0,a1,rfl⟩:=dJ hl; rfl) fun _ F=>uJ (k:=1) T  (g3.mono (by decide))   F
 have g7:Kn l.prog w K mg base 1 "how_many_parts" ["head"] (spF K [0] 3 a8):=d7.kn X G (fun _ _ _ _ _ _ us hl=>by obtain ⟨a0,rfl⟩:=k9 hl; rfl) fun _ F=>mG (k:=0) T     F
 have g8:Kn l.prog w K mg base 4 "refuse_other_signs" ["tongue", "other"] (spF K [0,0] 3 bd):=d8.kn X G (fun _ _ _ _ _ _ us hl=>by obtain ⟨a0,a1,rfl⟩:=dJ hl; rfl) fun _ F=>jW (k:=3) T  (g4.mono (by decide))   F
 have g8N:KnX l.prog w K mg base 4 "refuse_other_signs" ["tongue", "other"] (spN K [0,0] (clK K) bJ):=d8.knX X G (fun _ _ _ _ _ _ us hl=>by obtain ⟨a0,a1,rfl⟩:=dJ hl; rfl) fun _ F=>kh (k:=3) T  (g4.mono (by decide)) mqNoTongue rNoTongue F
 have g9:Kn l.prog w K mg base 3 "exchanged" ["tongue", "other", "text"] (spF K [0,0,0] 3 cJ):=d9.kn X G (fun _ _ _ _ _ _ us hl=>by obtain ⟨a0,a1,a2,rfl⟩:=cC hl; rfl) fun _ F=>rQ (k:=2) T  (g6.mono (by decide)) (g5.mono (by decide))   F
 have g10:Kn l.prog w K mg base 5 "exchanged_word" ["tongue", "other", "word"] (spF K [0,0,0] 3 bF):=d10.kn X G (fun _ _ _ _ _ _ us hl=>by obtain ⟨a0,a1,a2,rfl⟩:=cC hl; rfl) fun _ F=>mH (k:=4) T  (g8.mono (by decide)) (g9.mono (by decide))   F
 have g10N:KnX l.prog w K mg base 5 "exchanged_word" ["tongue", "other", "word"] (spN K [0,0,0] (clK K) de):=d10.knX X G (fun _ _ _ _ _ _ us hl=>by obtain ⟨a0,a1,a2,rfl⟩:=cC hl; rfl) fun _ F=>mP (k:=4) T  (g8.mono (by decide)) (g9.mono (by decide)) (g8N.mono (by decide)) F
 have g11r0:Kn l.prog w K mg base 3 "exchanged_sentence" ["tongue", "other", "sentence"] (spF K [0,0,0] 0 (aG 0)):=d11.none X G (fun _ _ _ _ _ _ us hl=>by obtain ⟨a0,a1,a2,rfl⟩:=cC hl; rfl)
 have g11r1:Kn l.prog w K mg base 4 "exchanged_sentence" ["tongue", "other", "sentence"] (spF K [0,0,0] 0 (aG 1)):=d11.kn X G (fun _ _ _ _ _ _ us hl=>by obtain ⟨a0,a1,a2,rfl⟩:=cC hl; rfl) fun _ F=>bU (k:=3) T  (g7.mono (by decide)) (g9.mono (by decide)) g11r0 F
 have g11r2:Kn l.prog w K mg base 5 "exchanged_sentence" ["tongue", "other", "sentence"] (spF K [0,0,0] 0 (aG 2)):=d11.kn X G (fun _ _ _ _ _ _ us hl=>by obtain ⟨a0,a1,a2,rfl⟩:=cC hl; rfl) fun _ F=>bU (k:=4) T  (g7.mono (by decide)) (g9.mono (by decide)) g11r1 F
 have g11r3:Kn l.prog w K mg base 6 "exchanged_sentence" ["tongue", "other", "sentence"] (spF K [0,0,0] 0 (aG 3)):=d11.kn X G (fun _ _ _ _ _ _ us hl=>by obtain ⟨a0,a1,a2,rfl⟩:=cC hl; rfl) fun _ F=>bU (k:=5) T  (g7.mono (by decide)) (g9.mono (by decide)) g11r2 F
 have g11r4:Kn l.prog w K mg base 7 "exchanged_sentence" ["tongue", "other", "sentence"] (spF K [0,0,0] 0 (aG 4)):=d11.kn X G (fun _ _ _ _ _ _ us hl=>by obtain ⟨a0,a1,a2,rfl⟩:=cC hl; rfl) fun _ F=>bU (k:=6) T  (g7.mono (by decide)) (g9.mono (by decide)) g11r3 F
 have g11r5:Kn l.prog w K mg base 8 "exchanged_sentence" ["tongue", "other", "sentence"] (spF K [0,0,0] 0 (aG 5)):=d11.kn X G (fun _ _ _ _ _ _ us hl=>by obtain ⟨a0,a1,a2,rfl⟩:=cC hl; rfl) fun _ F=>bU (k:=7) T  (g7.mono (by decide)) (g9.mono (by decide)) g11r4 F
 have g11:Kn l.prog w K mg base 9 "exchanged_sentence" ["tongue", "other", "sentence"] (spF K [0,0,0] 0 (aG 6)):=d11.kn X G (fun _ _ _ _ _ _ us hl=>by obtain ⟨a0,a1,a2,rfl⟩:=cC hl; rfl) fun _ F=>bU (k:=8) T  (g7.mono (by decide)) (g9.mono (by decide)) g11r5 F
 have g12:Kn l.prog w K mg base 10 "exchanged_rule" ["rule", "other"] (spF K [0,0] 0 bG):=d12.kn X G (fun _ _ _ _ _ _ us hl=>by obtain ⟨a0,a1,rfl⟩:=dJ hl; rfl) fun _ F=>mI (k:=9) T  (g8.mono (by decide)) (g11.mono (by decide))   F
 have g12N:KnX l.prog w K mg base 10 "exchanged_rule" ["rule", "other"] (spN K [0,0] (clK K) df):=d12.knX X G (fun _ _ _ _ _ _ us hl=>by obtain ⟨a0,a1,rfl⟩:=dJ hl; rfl) fun _ F=>mQ (k:=9) T  (g8.mono (by decide)) (g11.mono (by decide)) (g8N.mono (by decide)) F
 have g13:Kn l.prog w K mg base 1 "_law_pen" ["_law_script", "_law_k"] (spF K [0,0] 3 F_law_pen):=d13.kn X G (fun _ _ _ _ _ _ us hl=>by obtain ⟨a0,a1,rfl⟩:=dJ hl; rfl) fun _ F=>tJ (k:=0) T     F
 have g14:Kn l.prog w K mg base 1 "_law_draw" ["_law_pen_here", "_law_many"] (spF K [1,0] 0 F_law_draw):=d14.kn X G (fun _ _ _ _ _ _ us hl=>by obtain ⟨a0,a1,rfl⟩:=dJ hl; rfl) fun _ F=>rV (k:=0) T     F
 have g15:Kn l.prog w K mg base 2 "_law_tongue" ["_law_pen_here", "_law_most"] (spF K [1,0] 0 dS):=d15.kn X G (fun _ _ _ _ _ _ us hl=>by obtain ⟨a0,a1,rfl⟩:=dJ hl; rfl) fun _ F=>pW (k:=1) T  (g14.mono (by decide))   F
 have g16:Kn l.prog w K mg base 2 "_law_text" ["_law_pen_here", "_law_tongue_here", "_law_most"] (spF K [1,0,0] 0 cS):=d16.kn X G (fun _ _ _ _ _ _ us hl=>by obtain ⟨a0,a1,a2,rfl⟩:=cC hl; rfl) fun _ F=>rR (k:=1) T  (g14.mono (by decide))   F
 have g17:Kn l.prog w K mg base 3 "_law_plain" ["_law_pen_here", "_law_tongue_here"] (spF K [1,0] 0 dD):=d17.kn X G (fun _ _ _ _ _ _ us hl=>by obtain ⟨a0,a1,rfl⟩:=dJ hl; rfl) fun _ F=>qJ (k:=2) T  (g14.mono (by decide)) (g16.mono (by decide))   F
 have g18r0:Kn l.prog w K mg base 3 "_law_sentence" ["_law_pen_here", "_law_tongue_here", "_law_deep"] (spF K [1,0,0] 0 (bu 0)):=d18.none X G (fun _ _ _ _ _ _ us hl=>by obtain ⟨a0,a1,a2,rfl⟩:=cC hl; rfl)
 have g18r1:Kn l.prog w K mg base 4 "_law_sentence" ["_law_pen_here", "_law_tongue_here", "_law_deep"] (spF K [1,0,0] 0 (bu 1)):=d18.kn X G (fun _ _ _ _ _ _ us hl=>by obtain ⟨a0,a1,a2,rfl⟩:=cC hl; rfl) fun _ F=>cM (k:=3) T  (g17.mono (by decide)) (g14.mono (by decide)) g18r0 F
 have g18r2:Kn l.prog w K mg base 5 "_law_sentence" ["_law_pen_here", "_law_tongue_here", "_law_deep"] (spF K [1,0,0] 0 (bu 2)):=d18.kn X G (fun _ _ _ _ _ _ us hl=>by obtain ⟨a0,a1,a2,rfl⟩:=cC hl; rfl) fun _ F=>cM (k:=4) T  (g17.mono (by decide)) (g14.mono (by decide)) g18r1 F
 have g18r3:Kn l.prog w K mg base 6 "_law_sentence" ["_law_pen_here", "_law_tongue_here", "_law_deep"] (spF K [1,0,0] 0 (bu 3)):=d18.kn X G (fun _ _ _ _ _ _ us hl=>by obtain ⟨a0,a1,a2,rfl⟩:=cC hl; rfl) fun _ F=>cM (k:=5) T  (g17.mono (by decide)) (g14.mono (by decide)) g18r2 F
 have g18r4:Kn l.prog w K mg base 7 "_law_sentence" ["_law_pen_here", "_law_tongue_here", "_law_deep"] (spF K [1,0,0] 0 (bu 4)):=d18.kn X G (fun _ _ _ _ _ _ us hl=>by obtain ⟨a0,a1,a2,rfl⟩:=cC hl; rfl) fun _ F=>cM (k:=6) T  (g17.mono (by decide)) (g14.mono (by decide)) g18r3 F
 have g18r5:Kn l.prog w K mg base 8 "_law_sentence" ["_law_pen_here", "_law_tongue_here", "_law_deep"] (spF K [1,0,0] 0 (bu 5)):=d18.kn X G (fun _ _ _ _ _ _ us hl=>by obtain ⟨a0,a1,a2,rfl⟩:=cC hl; rfl) fun _ F=>cM (k:=7) T  (g17.mono (by decide)) (g14.mono (by decide)) g18r4 F
 have g18:Kn l.prog w K mg base 9 "_law_sentence" ["_law_pen_here", "_law_tongue_here", "_law_deep"] (spF K [1,0,0] 0 (bu 6)):=d18.kn X G (fun _ _ _ _ _ _ us hl=>by obtain ⟨a0,a1,a2,rfl⟩:=cC hl; rfl) fun _ F=>cM (k:=8) T  (g17.mono (by decide)) (g14.mono (by decide)) g18r5 F
 have g19r0:Kn l.prog w K mg base 0 "_law_weight" ["_law_tongue_here", "_law_sentence_here"] (spF K [0,0] 3 (bE 0)):=d19.none X G (fun _ _ _ _ _ _ us hl=>by obtain ⟨a0,a1,rfl⟩:=dJ hl; rfl)
 have g19r1:Kn l.prog w K mg base 1 "_law_weight" ["_law_tongue_here", "_law_sentence_here"] (spF K [0,0] 3 (bE 1)):=d19.kn X G (fun _ _ _ _ _ _ us hl=>by obtain ⟨a0,a1,rfl⟩:=dJ hl; rfl) fun _ F=>dk (k:=0) T  g19r0 F
 have g19r2:Kn l.prog w K mg base 2 "_law_weight" ["_law_tongue_here", "_law_sentence_here"] (spF K [0,0] 3 (bE 2)):=d19.kn X G (fun _ _ _ _ _ _ us hl=>by obtain ⟨a0,a1,rfl⟩:=dJ hl; rfl) fun _ F=>dk (k:=1) T  g19r1 F
 have g19r3:Kn l.prog w K mg base 3 "_law_weight" ["_law_tongue_here", "_law_sentence_here"] (spF K [0,0] 3 (bE 3)):=d19.kn X G (fun _ _ _ _ _ _ us hl=>by obtain ⟨a0,a1,rfl⟩:=dJ hl; rfl) fun _ F=>dk (k:=2) T  g19r2 F
 have g19r4:Kn l.prog w K mg base 4 "_law_weight" ["_law_tongue_here", "_law_sentence_here"] (spF K [0,0] 3 (bE 4)):=d19.kn X G (fun _ _ _ _ _ _ us hl=>by obtain ⟨a0,a1,rfl⟩:=dJ hl; rfl) fun _ F=>dk (k:=3) T  g19r3 F
 have g19r5:Kn l.prog w K mg base 5 "_law_weight" ["_law_tongue_here", "_law_sentence_here"] (spF K [0,0] 3 (bE 5)):=d19.kn X G (fun _ _ _ _ _ _ us hl=>by obtain ⟨a0,a1,rfl⟩:=dJ hl; rfl) fun _ F=>dk (k:=4) T  g19r4 F
 have g19:Kn l.prog w K mg base 6 "_law_weight" ["_law_tongue_here", "_law_sentence_here"] (spF K [0,0] 3 (bE 6)):=d19.kn X G (fun _ _ _ _ _ _ us hl=>by obtain ⟨a0,a1,rfl⟩:=dJ hl; rfl) fun _ F=>dk (k:=5) T  g19r5 F
 have g20:Kn l.prog w K mg base 10 "_law_rule" ["_law_pen_here", "_law_tongue_here", "_law_most"] (spF K [1,0,0] 0 fM):=d20.kn X G (fun _ _ _ _ _ _ us hl=>by obtain ⟨a0,a1,a2,rfl⟩:=cC hl; rfl) fun _ F=>rS (k:=9) T  (g14.mono (by decide)) (g18.mono (by decide)) (g19.mono (by decide))   F
 have g21:Kn l.prog w K mg base 2 "_law_other" ["_law_pen_here", "_law_tongue_here"] (spF K [1,0] 0 eK):=d21.kn X G (fun _ _ _ _ _ _ us hl=>by obtain ⟨a0,a1,rfl⟩:=dJ hl; rfl) fun _ F=>qK (k:=1) T  (g14.mono (by decide))   F
 have g22:Kn l.prog w K mg base 1 "_law_by" ["_law_tongue_here", "_law_other_here", "_law_text_here"] (spF K [0,0,0] 3 fy):=d22.kn X G (fun _ _ _ _ _ _ us hl=>by obtain ⟨a0,a1,a2,rfl⟩:=cC hl; rfl) fun _ F=>uM (k:=0) T     F
 have g23r0:Kn l.prog w K mg base 1 "_law_sentence_by" ["_law_tongue_here", "_law_other_here", "_law_sentence_here"] (spF K [0,0,0] 0 (aR 0)):=d23.none X G (fun _ _ _ _ _ _ us hl=>by obtain ⟨a0,a1,a2,rfl⟩:=cC hl; rfl)
 have g23r1:Kn l.prog w K mg base 2 "_law_sentence_by" ["_law_tongue_here", "_law_other_here", "_law_sentence_here"] (spF K [0,0,0] 0 (aR 1)):=d23.kn X G (fun _ _ _ _ _ _ us hl=>by obtain ⟨a0,a1,a2,rfl⟩:=cC hl; rfl) fun _ F=>bZ (k:=1) T  (g22.mono (by decide)) g23r0 F
 have g23r2:Kn l.prog w K mg base 3 "_law_sentence_by" ["_law_tongue_here", "_law_other_here", "_law_sentence_here"] (spF K [0,0,0] 0 (aR 2)):=d23.kn X G (fun _ _ _ _ _ _ us hl=>by obtain ⟨a0,a1,a2,rfl⟩:=cC hl; rfl) fun _ F=>bZ (k:=2) T  (g22.mono (by decide)) g23r1 F
 have g23r3:Kn l.prog w K mg base 4 "_law_sentence_by" ["_law_tongue_here", "_law_other_here", "_law_sentence_here"] (spF K [0,0,0] 0 (aR 3)):=d23.kn X G (fun _ _ _ _ _ _ us hl=>by obtain ⟨a0,a1,a2,rfl⟩:=cC hl; rfl) fun _ F=>bZ (k:=3) T  (g22.mono (by decide)) g23r2 F
 have g23r4:Kn l.prog w K mg base 5 "_law_sentence_by" ["_law_tongue_here", "_law_other_here", "_law_sentence_here"] (spF K [0,0,0] 0 (aR 4)):=d23.kn X G (fun _ _ _ _ _ _ us hl=>by obtain ⟨a0,a1,a2,rfl⟩:=cC hl; rfl) fun _ F=>bZ (k:=4) T  (g22.mono (by decide)) g23r3 F
 have g23r5:Kn l.prog w K mg base 6 "_law_sentence_by" ["_law_tongue_here", "_law_other_here", "_law_sentence_here"] (spF K [0,0,0] 0 (aR 5)):=d23.kn X G (fun _ _ _ _ _ _ us hl=>by obtain ⟨a0,a1,a2,rfl⟩:=cC hl; rfl) fun _ F=>bZ (k:=5) T  (g22.mono (by decide)) g23r4 F
 have g23:Kn l.prog w K mg base 7 "_law_sentence_by" ["_law_tongue_here", "_law_other_here", "_law_sentence_here"] (spF K [0,0,0] 0 (aR 6)):=d23.kn X G (fun _ _ _ _ _ _ us hl=>by obtain ⟨a0,a1,a2,rfl⟩:=cC hl; rfl) fun _ F=>bZ (k:=6) T  (g22.mono (by decide)) g23r5 F
 have g24:Kn l.prog w K mg base 1 "_law_mark" ["_law_e"] (spF K [0] 3 ey):=d24.kn X G (fun _ _ _ _ _ _ us hl=>by obtain ⟨a0,rfl⟩:=k9 hl; rfl) fun _ F=>rT (k:=0) T   mqNoTongue tNoTongue mqNoSentence tNoSentence mqTooMany tTooMany mqTooMuch tTooMuch mqNoNumber tNoNumber mqNoWord tNoWord mqNoFit tNoFit mqElder tElder mqNear tNear mqNoBack tNoBack mqNoText tNoText mqNoLine tNoLine mqNoName tNoName tValueError  F
 have g25:Kn l.prog w K mg base 11 "_law_heard" ["_law_tongue_here", "_law_thing", "_law_word", "_law_rule_here"] (spF K [0,0,0,0] 3 eL):=d25.kn X G (fun _ _ _ _ _ _ us hl=>by obtain ⟨a0,a1,a2,a3,rfl⟩:=JQ hl; rfl) fun _ F=>qL (k:=10) T  (g10.mono (by decide)) (g12.mono (by decide)) (g24.mono (by decide)) (g10N.mono (by decide)) (g12N.mono (by decide)) HWordError  F
 have g26:Kn l.prog w K mg base 1 "_law_no_tongues" ["_law_tongue_here", "_law_other_here"] (spF K [0,0] 0 cH):=d26.kn X G (fun _ _ _ _ _ _ us hl=>by obtain ⟨a0,a1,rfl⟩:=dJ hl; rfl) fun _ F=>l7 (k:=0) T     F
 exact (IV (k:=11) T  (g13.mono (by decide)) (g15.mono (by decide)) (g21.mono (by decide)) (g20.mono (by decide)) (g12.mono (by decide)) (g26.mono (by decide)) (g10.mono (by decide)) (g16.mono (by decide)) (g25.mono (by decide)) (g22.mono (by decide)) (g23.mono (by decide)) (g14.mono (by decide))   FL).imp fun vs H Q E h=>Hj wv h
theorem walk {l:PySem.W.OpenLaw} {q:Program} {loose:List Str} {XP:(Str→Option Value)→Heap→Prop} {YP:World→Heap→Prop} {d:DefRec} {K:Params→PySem.W.Frag} (hn:l.most=some 63) (hdf:d.params.defaults=[]) (hq:PyProof.Rows.importsNone q=true)
  (hY:∀ (w:World) (h:Heap),YP w h→(K w.params).In h)
  (F:∀ (w:World) (mg:Str→Option Value) (fa:Addr) (h:Heap),(K w.params).In h→h.Ns mainGlobals mg→mg d.name=some (.ref fa) →
   ∃ fd:FuncData,(∀ (s:Shared) (u:Value),BindsTo s fd ⟨[u],[]⟩ [("_law_script",u)])∧∀ base:Heap,(K w.params).In base→base.Ns mainGlobals mg→FnOk l.prog w (K w.params) mg base CX0 12 fa fd ["_law_script"] (nb (K w.params))) :
  PySem.W.WalkO q loose XP YP l.row.toRowW d [] (fun f vs=>PySem.call f vs) :=
 L2.walk_of (n:=63) (k:=12) (x:="_law_script") (CX:=fun _=>CX0) (sp:=fun w=>nb (K w.params)) hn (by decide) hdf ⟨rfl,by decide,by decide,rfl⟩ hq hY F (fun _ _ a ns hl hO hS=>⟨a,ns,rfl,hS,hO,hl,fun _=>rfl⟩) fun _ _ _ _ _ z=>z
end W39
open PySem PySem.W PyProof.Rows
set_option maxRecDepth 100000 in
set_option maxHeartbeats 0 in
theorem PySem.Challenge.cw_wordrules_k39_words_and_rules_exchanged_holds : PySem.Challenge.rw_wordrules_k39_words_and_rules_exchanged.Holds := by
 w_on; o_law; k_head; (case hw=>w_witness2)
 k_fill
 refine W39.walk (l:=PySem.Challenge.rw_wordrules_k39_words_and_rules_exchanged) rfl rfl rfl (fun w h Y=>PySem.W.kIn_of Y) ?F
 case F =>
  intro w mg fa h KX G hmg
  refine' W39.all_mk KX G hmg (.mk' ?_ ?_ ?_ ?_) (.mk' ?_ ?_ ?_ ?_) (.mk' ?_ ?_ ?_ ?_) (.mk' ?_ ?_ ?_ ?_) (.mk' ?_ ?_ ?_ ?_) (.mk' ?_ ?_ ?_ ?_) (.mk' ?_ ?_ ?_ ?_) (.mk' ?_ ?_ ?_ ?_) (.mk' ?_ ?_ ?_ ?_) (.mk' ?_ ?_ ?_ ?_) (.mk' ?_ ?_ ?_ ?_) (.mk' ?_ ?_ ?_ ?_) (.mk' ?_ ?_ ?_ ?_) (.mk' ?_ ?_ ?_ ?_) (.mk' ?_ ?_ ?_ ?_) (.mk' ?_ ?_ ?_ ?_) (.mk' ?_ ?_ ?_ ?_) (.mk' ?_ ?_ ?_ ?_) (.mk' ?_ ?_ ?_ ?_) (.mk' ?_ ?_ ?_ ?_) (.mk' ?_ ?_ ?_ ?_) (.mk' ?_ ?_ ?_ ?_) (.mk' ?_ ?_ ?_ ?_) (.mk' ?_ ?_ ?_ ?_) (.mk' ?_ ?_ ?_ ?_) (.mk' ?_ ?_ ?_ ?_) (.mk' ?_ ?_ ?_ ?_) (.mk' ?_ ?_ ?_ ?_) ?_ ?_ ?_ ?_ ?_ ?_ ?kx0 ?kx1 ?kx2 ?kx3 ?kx4 ?kx5 ?kx6 ?kx7 ?kx8 ?kx9 ?kx10 ?kx11 ?kx12 ?kx13 ?kx14 ?kx15 ?kx16 ?kx17 ?kx18 ?kx19 ?kx20 ?kx21 ?kx22 ?kx23 ?kx24 ?kx25 ?kx26 ?kx27 ?kx28 ?kx29 ?kx30 ?_ ?_ ?_ ?_ ?_ ?_ ?_ ?_ ?_ ?_ ?_ ?_ ?_ ?_
  case kx0=>kernel_rfl
  case kx1=>kernel_rfl
  case kx2=>kernel_rfl
  case kx3=>kernel_rfl
  case kx4=>kernel_rfl
  case kx5=>kernel_rfl
  case kx6=>kernel_rfl
  case kx7=>kernel_rfl
  case kx8=>kernel_rfl
  case kx9=>kernel_rfl
  case kx10=>kernel_rfl
  case kx11=>kernel_rfl
  case kx12=>kernel_rfl
  case kx13=>kernel_rfl
  case kx14=>kernel_rfl
  case kx15=>kernel_rfl
  case kx16=>kernel_rfl
  case kx17=>kernel_rfl
  case kx18=>kernel_rfl
  case kx19=>kernel_rfl
  case kx20=>kernel_rfl
  case kx21=>kernel_rfl
  case kx22=>kernel_rfl
  case kx23=>kernel_rfl
  case kx24=>kernel_rfl
  case kx25=>kernel_rfl
  case kx26=>kernel_rfl
  case kx27=>kernel_rfl
  case kx28=>kernel_rfl
  case kx29=>kernel_rfl
  case kx30=>kernel_rfl
  all_goals (try k_is)
