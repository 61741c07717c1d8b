import PyProof.Rows.All
import Wide.All
import OpenK.AllK
import Wide.FinOn
import Lean
import PyProof.EqAt
import PyProof.EqKinds
import PyProof.TupleCall
import PyProof.NeKinds
import PyProof.ConsumeWalk
import PyProof.ZipIter
import PyProof.EnumMake
import PyProof.EnumFor
import PyProof.StrWalks
import PyProof.ListStr
import PyProof.SliceStr2
import PyProof.StrBlockI
import PyProof.Rows.StrWeight2
import PyProof.Rows.ZipGen
import PyProof.Rows.StrIndexOr
import PyProof.Draws
import PyProof.RaisesStr
import PyProof.Rows.StrCountLaw
import PyProof.SumWalk
import PyProof.ReprRoads
import PyProof.ReprLen
import PyProof.CallFns
import PyProof.SumAny
import PyProof.SumAnyB
import KE.KRevIter
import PyProof.Rows.SetFrom
import PySem.Challenge.RW_wordrules_k45_places_in_small_plans
set_option Elab.async false
set_option linter.all false
set_option maxRecDepth 100000
set_option compiler.extract_closed false
noncomputable section
section
open PySem PyProof.Rows
def zaa:=@Option.bind_eq_some_iff
def zab:=@Option.map_eq_some_iff
def zac:=@List.length_cons
def zad:=@List.length_map
def zae:=@List.length_append
def zaf:=@Heap.get?_push_of_some
def zag:=@Nat.lt_of_lt_of_le
def zah:=@List.getElem?_eq_some_iff
def zai:=@List.size_toArray
def zaj:=@List.mem_cons_of_mem
def zak:=@List.getElem?_eq_getElem
def zal:=@Heap.lt_size
def zam:=@wpAny_bind
def zan:=@Heap.get?_push_size
def zao:=@List.getElem?_map
def zaq:=@List.mem_cons_self
def zar:=@List.map_cons
def zas:=@List.lookup_cons
def zat:=@Option.some.inj
def zau:=@Nat.le_trans
def zav:=@Nat.le_refl
def zaw:=@Nat.ne_of_lt
def zax:=@List.mem_append
def zay:=@List.mem_cons
def zaz:=@List.mem_map
def zaA:=@decide_eq_false
def zaB:=@decide_eq_true
def zaC:=@List.map_append
def zaD:=@List.append_assoc
def zaE:=@List.length_take
def zaF:=@List.length_drop
def zaG:=@List.mem_singleton
def zaH:=@Nat.lt_irrefl
def zaI:=@Nat.lt_succ_self
def zaJ:=@List.getElem_mem
def zaK:=@Int.toNat_natCast
def zaL:=@Int.eq_ofNat_of_zero_le
def zaN:=@List.getElem?_set_ne
def zaO:=@List.getElem?_set_self
def zaP:=@List.take_length
def zaQ:=@List.map_map
def zaR:=@List.getElem?_append_left
def zaS:=@wpAny_pure
def zaT:=@PySem.mem_of_lookup
def zaU:=@List.length_set
def zaW:=@List.mem_of_getElem?
def zaX:=@Array.length_toList
def zaY:=@List.cons_append
def zaZ:=@List.map_nil
def za0:=@Prod.mk.injEq
def za2:=@List.drop_zero
def za3:=@Nat.zero_add
def za7:=@List.length_eq_zero_iff
def zbc:=@List.nodup_cons
def zbd:=@List.nodup_append
def zbe:=@List.length_range
def zbf:=@List.mem_append_left
def zbg:=@List.mem_append_right
def zbh:=@List.getD_eq_getElem?_getD
def zbj:=@Nat.zero_le
def zbk:=@Bool.and_self
def zbl:=@List.getElem?_eq_none
def zbm:=@Bool.and_eq_true
def zbn:=@Bool.false_ne_true
def zbo:=@List.find?_cons
def zbq:=@List.mem_range
def zbr:=@List.append_nil
def zbt:=@List.filter_cons_of_pos
def zbu:=@Heap.size_push
def zbv:=@List.map_congr_left
def zby:=@wpAny_truthy_bool
def zbz:=@wpAny_callSpecial?_slot
def zbA:=@List.filter_map
def zbB:=@List.mem_filter
def zbD:=@List.getElem?_drop
def zbG:=@List.getElem?_append_right
def zbH:=@List.mem_reverse
def zbJ:=@List.range_succ
def zbK:=@List.drop_eq_getElem_cons
def zbL:=@List.any_eq_true
def zbM:=@beq_eq_false_iff_ne
def zbO:=@wpAny_holding
def zbS:=@Bool.and_true
def zbT:=@Bool.and_false
abbrev zbU:=PySem.W.Frag
end
namespace PySem.W.Fast
def tw10028222418195953736:=0
def tw10043274408180483470:=0
def tw10078468831585329981:=0
def tw10090930196496168496:=0
def tw10239669195788948885:=0
def tw10291553050307014156:=0
def tw10321802665233231492:=0
def tw10386857398489041728:=0
def tw10437633471488992044:=0
def tw10442426636002115144:=0
def tw10655458553425214958:=0
def tw10669839273226822978:=0
def tw10750090103009341458:=0
def tw1081885323193693244:=0
def tw10913142319792260416:=0
def tw10971845350846126412:=0
def tw11040896765376869221:=0
def tw11042136238713642710:=0
def tw1106229755699640405:=0
def tw11113993354596545202:=0
def tw11139724979849754401:=0
def tw11157223728000960197:=0
def tw11218161225173336291:=0
def tw11253747129153738531:=0
def tw1126712619822611328:=0
def tw11285137306247272612:=0
def tw11374319788474387529:=0
def tw11604295427914971298:=0
def tw1173510833467988985:=0
def tw117723841628293095:=0
def tw11787199738561337616:=0
def tw11929364458354674419:=0
def tw12073747512787985519:=0
def tw12230665376818847741:=0
def tw12404485256878827656:=0
def tw12456923090680088446:=0
def tw1247477915238149074:=0
def tw12483049694639251726:=0
def tw1251876333547215449:=0
def tw12567178539403740197:=0
def tw12593907087931331363:=0
def tw12616196950968976039:=0
def tw12638179002598945050:=0
def tw12692003415978521075:=0
def tw12813282871751097875:=0
def tw12846750354291407205:=0
def tw12879335030713546003:=0
def tw13026601580086241684:=0
def tw13098689339100060785:=0
def tw13107942896358209837:=0
def tw13120044798898774188:=0
def tw13137361246464507063:=0
def tw13149329686673074158:=0
def tw13153116267386378532:=0
def tw13175810455758315313:=0
def tw13247986495434411676:=0
def tw13262584045236113744:=0
def tw13292211520092036218:=0
def tw13331696193627278388:=0
def tw13360320944096153501:=0
def tw13391261194709665531:=0
def tw13450538148960139050:=0
def tw13536431558878483905:=0
def tw13561682055322546212:=0
def tw13600530741722894439:=0
def tw13622655940678644247:=0
def tw13647634953705914935:=0
def tw1367135449272727873:=0
def tw13761505727981047558:=0
def tw13762487081879545068:=0
def tw13860132685586891343:=0
def tw13868649706891942495:=0
def tw13945923024019955821:=0
def tw13982693566996863031:=0
def tw14049192415817553826:=0
def tw14108315878621163636:=0
def tw14147467150852577331:=0
def tw14235036745782072071:=0
def tw14393004940163897643:=0
def tw14483231102268955189:=0
def tw14510683691206876104:=0
def tw14645157570389880821:=0
def tw14831862449799973787:=0
def tw14838295876474438457:=0
def tw14886539392291030412:=0
def tw14918712596916207692:=0
def tw14931269181147348360:=0
def tw14936937955226505259:=0
def tw14993367781749923564:=0
def tw15073339537091813360:=0
def tw15174699170367214612:=0
def tw15242325216008639452:=0
def tw15368492570290671508:=0
def tw15378092677478068649:=0
def tw15424817093661802683:=0
def tw15457372694488365485:=0
def tw15479813654162441523:=0
def tw15593180976152917412:=0
def tw15690628228796603899:=0
def tw15714271332137506471:=0
def tw15752341830946232563:=0
def tw15791378882722162130:=0
def tw15833921983863775561:=0
def tw15851422963875741642:=0
def tw15917637279127431539:=0
def tw16008163169554652039:=0
def tw16109736156087848347:=0
def tw16138087170575958244:=0
def tw16188984585070390815:=0
def tw16239270060079049905:=0
def tw16241640449943460426:=0
def tw16315238113397344652:=0
def tw16451131176155698323:=0
def tw16488020816886790112:=0
def tw16568940336077087418:=0
def tw16582774044408233198:=0
def tw16598629432556826864:=0
def tw16619870910240287289:=0
def tw16644442936438924522:=0
def tw16653193124074256923:=0
def tw16668564832260905268:=0
def tw16792829691107980851:=0
def tw1681680052168964973:=0
def tw16853542521037490299:=0
def tw16867351263278990841:=0
def tw16906720473086998585:=0
def tw16938411158517534527:=0
def tw16967641949776113810:=0
def tw1710279407533589399:=0
def tw1712371030845311384:=0
def tw17179681107592314262:=0
def tw17212979723968942140:=0
def tw17330256143484351911:=0
def tw17462537904189608302:=0
def tw17692697481033669758:=0
def tw17707796548554917413:=0
def tw17708185827427268458:=0
def tw17810422991155835908:=0
def tw17891756384856834450:=0
def tw17931785038641355496:=0
def tw18073198760800907543:=0
def tw18092332812537570180:=0
def tw18139658864515389346:=0
def tw18253050607586810860:=0
def tw1860014008299712630:=0
def tw1938651642044484832:=0
def tw195404389777844490:=0
def tw199189562423011182:=0
def tw2057686191724436920:=0
def tw2108295839840691456:=0
def tw2134752609516180037:=0
def tw2152397154572518372:=0
def tw2208834695241411482:=0
def tw2578519084391665584:=0
def tw2580657495482944590:=0
def tw2674429847548803514:=0
def tw2695674035638161565:=0
def tw2970285007481735238:=0
def tw3038965784897394501:=0
def tw3276422307136794559:=0
def tw3437155214760441876:=0
def tw3553101303744085059:=0
def tw3597878907256861117:=0
def tw3627045431517645287:=0
def tw3635958887787846667:=0
def tw3654949070046045836:=0
def tw3711140716218095275:=0
def tw3810253834181814117:=0
def tw3908185714420034912:=0
def tw402479316076435647:=0
def tw4063763008972335844:=0
def tw4156194803834284058:=0
def tw4389476329660163644:=0
def tw4396881796770547622:=0
def tw4619351128318544709:=0
def tw4650140944496531557:=0
def tw4729695191845364057:=0
def tw4870094633896624154:=0
def tw4872704380305686681:=0
def tw4897434497440195389:=0
def tw4919464492725421072:=0
def tw4976719690427388224:=0
def tw5034913844276876949:=0
def tw50425460479740935:=0
def tw5060407764850956929:=0
def tw511633627917774169:=0
def tw5117385221823344805:=0
def tw5156250887905305709:=0
def tw5198000940476852763:=0
def tw5213210815472440743:=0
def tw5268056655749296267:=0
def tw528310486384487980:=0
def tw5296540774185953289:=0
def tw5342552044320129976:=0
def tw5487355190459928741:=0
def tw5600772417255307395:=0
def tw5619340677648051295:=0
def tw5663516147175533206:=0
def tw5721996124611344051:=0
def tw5830174773341009689:=0
def tw5842229579892612707:=0
def tw5890254909878223414:=0
def tw593254066224781427:=0
def tw6001162040048454838:=0
def tw6007067548691045632:=0
def tw6095893158203568351:=0
def tw6106742346418878381:=0
def tw6229992678551950515:=0
def tw6234786179895035633:=0
def tw6609303643785425605:=0
def tw6646613931677379502:=0
def tw6666020837885467282:=0
def tw6782014872256077489:=0
def tw6826773405200374959:=0
def tw6857935417504079717:=0
def tw686580524558427205:=0
def tw6971634849756529369:=0
def tw697547093574547670:=0
def tw7139392394273050506:=0
def tw7185374054134261326:=0
def tw7336807631085143603:=0
def tw7345797409478931829:=0
def tw7461229294832414531:=0
def tw746697427834661631:=0
def tw7503816602923649927:=0
def tw7649788248206231927:=0
def tw775059608371881794:=0
def tw7875267689565266740:=0
def tw7898208394004360007:=0
def tw7985589102656975364:=0
def tw8079264811536075053:=0
def tw8083303894789828886:=0
def tw8109617199001748792:=0
def tw8144335675686290505:=0
def tw8164198536089205855:=0
def tw8194638730762567472:=0
def tw8250505285284835158:=0
def tw8269769458223767579:=0
def tw8323116560951886916:=0
def tw8342053985747434268:=0
def tw8367326176212657080:=0
def tw8476929883018370844:=0
def tw8588481035300936781:=0
def tw8602285925454920595:=0
def tw8701691299763535134:=0
def tw8870869874661439352:=0
def tw8936411152670607513:=0
def tw8964683024715375365:=0
def tw9010686015550567645:=0
def tw9243157958926955356:=0
def tw9419072639911020274:=0
def tw9440928770678347072:=0
def tw946054220774026661:=0
def tw9463599869087965038:=0
def tw9533978142357539062:=0
def tw9565002220862614170:=0
def tw9571469464177585584:=0
def tw9664027501108573581:=0
def tw9737321657035883005:=0
end PySem.W.Fast
namespace L2
variable{prog P:Program}{w:World}{A:Around}{E Q:Value->Shared->Prop}{s s':Shared}{v u:Value}{h h' base:Heap}{a b it dx C f:Addr}{n t' i j k:Nat}{x name m qual:Str}{e c tg:Expr}{K:zbU}{ρ:List (Addr×Obj)}{g':Array GenState}{d':Drawn}{ch fp:List Addr}{N ps:List Str}{M:Model}{pos pos' p:Pos}{op:CmpOp}{es:List Expr}{g:Int->Int->Int}{body:List Stmt}{us:List Value}{mA:Str->Option Value}{kw:List (Str×Value)}{fd:FuncData}{outer:List Env}{scope:Scope}
open PySem PySem.Spec PyProof.Rows
abbrev Key:=Sum Int Str
noncomputable def kl:Key->Value->Bool
 |.inl k,v=>Value.isInt k v
 |.inr x,v=>Value.isStrOf x v
noncomputable def Bd(w:World):Key->Int
 |.inl k=>hashInt k
 |.inr x=>hashStr w x
def br:∀{k:Key} {v:Value},kl k v=true->(∃i t,k=Sum.inl i/\v=Value.int i t)\/(∃x t,k=Sum.inr x/\v=Value.str x t)
 |.inl i,v,h=>by
  obtain⟨t,e⟩:=Value.isInt_shape (k:=i) (v:=v) h;exact .inl ⟨i,t,rfl,e⟩
 |.inr x,v,h=>by
  obtain⟨t,e⟩:=Value.isStrOf_shape (x:=x) (v:=v) h;exact .inr ⟨x,t,rfl,e⟩
def zv(i:Int)(t:Tok):kl (.inl i) (.int i t)=true:=by simp[kl,Value.isInt]
def zu(x:Str)(t:Tok):kl (.inr x) (.str x t)=true:=by simp[kl,Value.isStrOf]
def zt(a b:Int):decide ((Sum.inl a:Key)=Sum.inl b)=(a==b):=by
 by_cases e:a=b
 .subst e;simp
 .have h:¬(Sum.inl a:Key)=Sum.inl b:=λq=>e (Sum.inl.inj q);rw[zaA h];exact(zbM.mpr e).symm
def zo(a b:Str):decide ((Sum.inr a:Key)=Sum.inr b)=decide (a=b):=by
 by_cases e:a=b
 .subst e;simp
 .have h:¬(Sum.inr a:Key)=Sum.inr b:=λq=>e (Sum.inr.inj q);rw[zaA h,zaA e]
def zq(a:Int)(b:Str):decide ((Sum.inl a:Key)=Sum.inr b)=false:=zaA (λq=>nomatch q)
def zp(a:Str)(b:Int):decide ((Sum.inr a:Key)=Sum.inl b)=false:=zaA (λq=>nomatch q)
def cD(prog:Program)(w:World):PySem.KeyKind prog w Key where
 is:=kl
 hash:=Bd w
 inj:=λv a b ha hb=>by
  rcases br ha with⟨i,t,rfl,rfl⟩|⟨x,t,rfl,rfl⟩
  .rcases br hb with⟨j,u,rfl,e⟩|⟨y,u,rfl,e⟩
   .injection e with e1 _;rw[e1]
   .exact nomatch e
  .rcases br hb with⟨j,u,rfl,e⟩|⟨y,u,rfl,e⟩
   .exact nomatch e
   .injection e with e1 _;rw[e1]
 byValue:=λk v h=>by
  rcases br h with⟨i,t,rfl,rfl⟩|⟨x,t,rfl,rfl⟩<;>rfl
 pyHash:=λhv h=>by
  rcases br hv with⟨i,t,rfl,rfl⟩|⟨x,t,rfl,rfl⟩
  .exact wpAny_pyHash_int h
  .exact wpAny_pyHash_str h
 eqBool:=λhu hv h=>by
  rcases br hu with⟨i,t,rfl,rfl⟩|⟨x,t,rfl,rfl⟩
  .rcases br hv with⟨j,u,rfl,rfl⟩|⟨y,u,rfl,rfl⟩
   .rw[zt]at h;exact wpAny_eqBool_int h
   .rw[zq]at h;exact SeqAt.EqAt.int_str i t y u _ _ _ _ h
  .rcases br hv with⟨j,u,rfl,rfl⟩|⟨y,u,rfl,rfl⟩
   .rw[zp]at h;exact SeqAt.EqAt.str_int x t j u _ _ _ _ h
   .rw[zo]at h;exact wpAny_eqBool_str h
 «strs»:=λk x t v h=>by
  rcases br h with⟨i,u,rfl,e⟩|⟨y,u,rfl,e⟩
  .exact nomatch e
  .injection e with e1 _
   subst e1;cases v<;>rfl
def vg(prog:Program)(w:World)(i:Int)(t:Tok):(cD prog w).is (.inl i) (.int i t)=true:=zv i t
def vf(prog:Program)(w:World)(x:Str)(t:Tok):(cD prog w).is (.inr x) (.str x t)=true:=zu x t
def zG{Q:Int->Shared->Prop}(h:Q (reduceHash 0xFCA86420) { s with toks:=s.toks+1 }):wpAny (model prog w) A (pyHash .none) Q E s:=by
 have ty:s.TypeIs .none "NoneType":=rfl;show wpAny _ _ (pyHashByItsType .none) Q E s;refine PySem.W.pyHash_slot ty F.slot_NoneType_hash F.entry_NoneType_hash (F.args_NoneType_hash_1 _) (by decide) (.inl rfl) ?_;obtain⟨hp,g,d,tk,os⟩:=s;unfold Builtin.«NoneType.__hash__»
 wp_walk
 exact⟨_,_,rfl,h⟩
def jd:Option Key->Value->Bool
 |none,.none=>true
 |none,_=>false
 |some k,v=>kl k v
def cI(h:jd none v=true):v=.none:=by
 cases v<;>first|rfl|cases h
def cC(prog:Program)(w:World):PySem.KeyKind prog w (Option Key) where
 is:=jd
 hash:=λk=>match k with
  |none=>reduceHash 0xFCA86420
  |some k=>Bd w k
 inj:=λv a b ha hb=>by
  cases a with
  |none=>
   cases b with
   |none=>rfl
   |some k=>
    rw[cI ha]at hb;cases k<;>cases hb
  |some k=>
   cases b with
   |none=>
    rw[cI hb]at ha;cases k<;>cases ha
   |some j=>rw[(cD prog w).inj v k j ha hb]
 byValue:=λk v h=>by
  cases k with
  |none=>rw[cI h];rfl
  |some k=>exact(cD prog w).byValue k v h
 pyHash:=λ{A E s k v Q} hv h=>by
  cases k with
  |none=>rw[cI hv];exact zG h
  |some k=>exact(cD prog w).pyHash (k:=k) hv h
 eqBool:=λ{A E s a b u v Q} hu hv h=>by
  cases a with
  |none=>
   rw[cI hu];cases b with
   |none=>
    rw[cI hv];unfold PySem.eqBool;exact zam (wpAny_rule (zaS (by simpa using h)))
   |some k=>
    have e:decide ((none:Option Key)=some k)=false:=rfl;rw[e]at h;rcases br hv with⟨i,t,rfl,rfl⟩|⟨x,t,rfl,rfl⟩
    .exact SeqAt.EqAt.none_int i t _ _ _ _ h
    .exact SeqAt.EqAt.none_str x t _ _ _ _ h
  |some k=>
   cases b with
   |none=>
    rw[cI hv];have e:decide (some k=(none:Option Key))=false:=rfl;rw[e]at h;rcases br hu with⟨i,t,rfl,rfl⟩|⟨x,t,rfl,rfl⟩
    .exact SeqAt.EqAt.int_none i t _ _ _ _ h
    .exact SeqAt.EqAt.str_none x t _ _ _ _ h
   |some j=>
    refine(cD prog w).eqBool (a:=k) (b:=j) hu hv ?_;have e:decide (k=j)=decide (some k=some j):=by
     rw[decide_eq_decide];exact⟨λz=>by rw[z],λz=>zat z⟩
    rw[e];exact h
 «strs»:=λk x t v h=>by
  cases k with
  |none=>cases h
  |some k=>exact(cD prog w).strs k x t v h
section
open SeqAt (EqAt RcAt)
noncomputable def KyN:Nat->Type
 |0=>Option Key
 |n+1=>Option Key ⊕ List (KyN n)
def ES:∀n,DecidableEq (KyN n)
 |0=>inferInstanceAs (DecidableEq (Option Key))
 |n+1=>by
  have:=ES n;exact inferInstanceAs (DecidableEq (Option Key ⊕ List (KyN n)))
instance (n:Nat):DecidableEq (KyN n):=ES n
structure IKind(K:Type)[DecidableEq K] where
 is:Heap->K->Value->Prop
 hash:World->K->Int
 draws:K->Nat
 lv:Nat
 inj:∀{h:Heap} {v:Value} {a b:K},is h a v->is h b v->a=b
 keeps:∀{h h':Heap} {k:K} {v:Value} {d:Addr} {o:Obj} {es ep},is h k v->h.get? d=some o->o.data=.dict es ep->Heap.SameBut d h h'->is h' k v
 pyHash:∀{prog:Program} {w:World} {A:Around} {E:Value->Shared->Prop} {s:Shared} {k:K} {v:Value} {Q:Int->Shared->Prop},A.units+lv<cLine->is s.heap k v->Q (hash w k) { s with toks:=s.toks+draws k }->wpAny (model prog w) A (PySem.pyHash v) Q E s
 eq:∀{A:Around} {s:Shared} {a b:K} {u v:Value},A.units+lv<cLine->is s.heap a u->is s.heap b v->EqAt A s u v (decide (a=b))
 quiet:∀{prog:Program} {w:World} {A:Around} {E:Value->Shared->Prop} {s:Shared} {k:K} {v:Value} {Q:Bool->Shared->Prop} (n:Nat),lv<=n->is s.heap k v->Q true s->wpAny (model prog w) A (eqIsQuiet n v) Q E s
section
variable{K:Type}[DecidableEq K](κ:IKind K)
theorem sm{α β:Type}{F G:α->β->Prop}:∀{l₁:List α} {l₂:List β},Paired F l₁ l₂->(∀a b,F a b->G a b)->Paired G l₁ l₂
 |_,_,.nil,_=>.nil
 |_,_,.cons r t,f=>.cons (f _ _ r) (sm t f)
def IsTK(h:Heap)(ks:List K)(a:Addr):Prop:=∃o items n,h.get? a=some o/\o.cls=.type "tuple"/\o.data=.seq items n/\Paired (κ.is h) ks items.toList
variable{κ}
theorem Ey{h:Heap}:∀{x y:List K} {vs:List Value},Paired (κ.is h) x vs->Paired (κ.is h) y vs->x=y
 |_,_,_,.nil,.nil=>rfl
 |_,_,_,.cons a r,.cons b t=>by rw[κ.inj a b,Ey r t]
def IsTK.inj{x y:List K}(hx:IsTK κ h x a)(hy:IsTK κ h y a):x=y:=by
 obtain⟨o,items,n,ho,_,hd,hi⟩:=hx;obtain⟨o',items',n',ho',_,hd',hi'⟩:=hy;obtain rfl:o=o':=zat (ho.symm.trans ho');rw[hd]at hd';injection hd' with h1 _
 subst h1;exact Ey hi hi'
def IsTK.keeps{h h':Heap}{ks:List K}{a d:Addr}{o:Obj}{es ep}(x:IsTK κ h ks a)(ho:h.get? d=some o)(hd:o.data=.dict es ep)(hs:Heap.SameBut d h h'):IsTK κ h' ks a:=by
 obtain⟨o',items,n,ho',hc,hd',hi⟩:=x;have hne:a≠d:=by
  rintro rfl;obtain rfl:o'=o:=zat (ho'.symm.trans ho);rw[hd]at hd';exact nomatch hd'
 exact⟨o',items,n,(hs.2 a hne).trans ho',hc,hd',sm hi λa b z=>κ.keeps z ho hd hs⟩
def IsTK.isTuple{ks:List K}(x:IsTK κ h ks a):∃items:Array Value,h.IsTuple a items/\Paired (κ.is h) ks items.toList:=
 let⟨o,items,n,ho,hc,hd,hi⟩:=x;⟨items,⟨o,ho,hc,n,hd⟩,hi⟩
def IsTK.typeIs{ks:List K}(x:IsTK κ s.heap ks a):s.TypeIs (.ref a) "tuple":=let⟨o,_,_,ho,hc,_⟩:=x;⟨o,ho,hc⟩
noncomputable def oy(κ:IKind K)(w:World)(ks:List K):Int:=reduceHash (Builtin.Tuple.tupleHashOf (ks.map (κ.hash w)))
noncomputable def cT(κ:IKind K):List K->Nat
 |[]=>1
 |k::ks=>κ.draws k+cT κ ks
def v9{ks:List K}{Q:Int->Shared->Prop}(hu:A.units+(κ.lv+1)<cLine)(hk:IsTK κ s.heap ks a)(h:Q (oy κ w ks) { s with toks:=s.toks+cT κ ks }):
  wpAny (model prog w) A (pyHash (.ref a)) Q E s:=by
 have hT:=hk.typeIs;obtain⟨o,items,n,ho,_,hd,hi⟩:=hk;unfold pyHash
 first|unfold pyHashByItsType|skip
 refine zam (wpAny_cRoomFor_or (.inr (by omega)) ?_);refine zam (wpAny_specialOf hT F.slot_tuple_hash.lookup ?_);show wpAny _ _ (if(some (Value.builtin "tuple.__hash__")==some Value.none)=true then _ else _) Q E s;rw[if_neg (by rw[beq_builtin_none];exact zbn)];refine zam (wpAny_specialOf hT F.slot_tuple_hash.lookup ?_);show wpAny _ _ (callSpecialIfBoundUnlessNone? (.ref a) "__hash__" _ >>= _) Q E s;refine zam (wpAny_callSpecialIfBoundUnlessNone?_slot hT F.slot_tuple_hash (wpAny_call_entry F.slot_tuple_hash hT F.entry_tuple_hash ?_ (F.args_tuple_hash_1 _)));show wpAny _ _ (Builtin.Tuple.tupleItemsOf (.ref a) >>= _) _ _ s;refine zam (wpAny_tupleItemsOf ho hd ?_);refine zam ?_;rw[<-Array.forIn_toList];refine wpAny_forIn_list _
  (λrest (b:Array Int) s'=>∃done left,ks=done++left/\Paired (κ.is s.heap) left rest/\b.toList=done.map (κ.hash w)/\∃t,s'={ s with toks:=t }/\t+cT κ left=s.toks+cT κ ks)
  _ ?_ ?_ _ _ ⟨[],ks,rfl,hi,rfl,s.toks,rfl,rfl⟩
 .rintro x rest b s' ⟨done,left,rfl,hl,hb,t,rfl,ht⟩;cases hl with
  |@cons k _ ks' _ h1 hl'=>
   refine zam (κ.pyHash (by show A.units+1+κ.lv<_;omega) h1 ?_);have fin:∃d l,done++k::ks'=d++l/\Paired (κ.is s.heap) l rest/\(b.push (κ.hash w k)).toList=d.map (κ.hash w)/\∃t',({ s with toks:=t+κ.draws k }:Shared)={ s with toks:=t' }/\t'+cT κ l=s.toks+cT κ (done++k::ks'):=⟨done++[k],ks',by simp,hl',by simp[hb],_,rfl,by
    rw[<-ht];show t+κ.draws k+cT κ ks'=t+(κ.draws k+cT κ ks');omega⟩
   first
    |exact zaS fin
    |exact zam (zaS (zaS fin))
 .rintro b s' ⟨done,left,rfl,hl,hb,t,rfl,ht⟩;cases hl;rw[zbr]at h ht;have et:t+1=s.toks+cT κ done:=ht;show wpAny _ _ (retInt (Builtin.Tuple.tupleHashOf b.toList)) _ _ _;rw[hb];refine wpAny_ret_mkInt ?_;show wpAny _ _ (if(decide (-(2:Int) ^ 63<=Builtin.Tuple.tupleHashOf (done.map (κ.hash w)))&&decide (Builtin.Tuple.tupleHashOf (done.map (κ.hash w))<2 ^ 63))=true then _ else _) Q E _;rw[<-et]at h;unfold oy reduceHash at h;by_cases hr:(decide (-(2:Int) ^ 63<=Builtin.Tuple.tupleHashOf (done.map (κ.hash w)))&&decide (Builtin.Tuple.tupleHashOf (done.map (κ.hash w))<2 ^ 63))=true
  .rw[if_pos hr];rw[if_pos hr]at h;exact zaS h
  .rw[if_neg hr];rw[if_neg hr]at h;exact zam (wpAny_rule (zaS h))
noncomputable def eqK(x y:List K)(j:Nat):Bool:=match x[j]?,y[j]? with
 |some a,some b=>decide (a=b)
 |_,_=>true
theorem wo:∀(x y:List K),((List.range (min x.length y.length)).all (eqK x y)&&x.length==y.length)=decide (x=y)
 |[],[]=>rfl
 |[],_::_=>by simp
 |_::_,[]=>by simp
 |a::x,b::y=>by
  have ih:=wo x y;rw[show min (a::x).length (b::y).length=min x.length y.length+1 by simp only[zac];omega,List.range_succ_eq_map,List.all_cons,List.all_map];have e0:eqK (a::x) (b::y) 0=decide (a=b):=rfl;have e1:(eqK (a::x) (b::y)∘Nat.succ)=eqK x y:=funext λj=>rfl;have e2:((a::x).length==(b::y).length)=(x.length==y.length):=by
   rw[zac,zac,Bool.eq_iff_iff,beq_iff_eq,beq_iff_eq];omega
  rw[e0,e1,e2,Bool.and_assoc,ih,Bool.eq_iff_iff,zbm,decide_eq_true_iff,decide_eq_true_iff,decide_eq_true_iff];exact⟨λ⟨p,q⟩=>by rw[p,q],λp=>by injection p with p q;exact⟨p,q⟩⟩
theorem wU{h:Heap}:∀{x:List K} {vs:List Value} (j:Nat) (hj:j<vs.length),Paired (κ.is h) x vs->∃k,x[j]?=some k/\κ.is h k vs[j]
 |_,_,0,_,.cons r _=>⟨_,rfl,r⟩
 |_,_,j+1,hj,.cons _ t=>wU j (Nat.lt_of_succ_lt_succ hj) t
def ER{x y:List K}(hu:A.units+(κ.lv+1)<cLine)(hx:IsTK κ s.heap x a)(hy:IsTK κ s.heap y b):EqAt A s (.ref a) (.ref b) (decide (x=y)):=by
 by_cases e:a=b
 .subst e;obtain rfl:=hx.inj hy;rw[zaB rfl];exact EqAt.same _
 .obtain⟨xs,h1,p1⟩:=hx.isTuple;obtain⟨ys,h2,p2⟩:=hy.isTuple;have z:=RcAt.tuples (e:=eqK x y) h1 h2 (show A.units<cLine by omega) λj j1 j2=>by
   obtain⟨k1,g1,r1⟩:=wU j (by simpa using j1) p1;obtain⟨k2,g2,r2⟩:=wU j (by simpa using j2) p2
   have:eqK x y j=decide (k1=k2):=by unfold eqK;rw[g1,g2]
   rw[this];exact κ.eq (by show A.units+1+κ.lv<_;omega) r1 r2
  have l1:x.length=xs.size:=by rw[Paired.length p1];simp
  have l2:y.length=ys.size:=by rw[Paired.length p2];simp
  rw[<-l1,<-l2,wo]at z;exact EqAt.of_refs e z
def tj{ks:List K}{Q:Bool->Shared->Prop}(hn:κ.lv+1<=n)(hk:IsTK κ s.heap ks a)(h:Q true s):wpAny (model prog w) A (eqIsQuiet n (.ref a)) Q E s:=by
 have hT:=hk.typeIs;obtain⟨o,items,m,ho,_,hd,hi⟩:=hk;obtain⟨n,rfl⟩:∃j,n=j+1:=⟨n-1,by omega⟩;unfold eqIsQuiet;refine zam (wpAny_specialOf hT F.slot_tuple_eq.lookup ?_);show wpAny _ _ (isInstance (.ref a) (.type "tuple") >>= _) _ _ s;refine zam (wpAny_isInstance hT isSubtype_tuple_tuple ?_);simp only[Bool.not_true,Bool.false_eq_true,if_false];refine zam (wpAny_seqItems ho hd ?_);refine zam ?_;show wpAny _ _ (forIn items _ _) _ _ s;rw[<-Array.forIn_toList];refine wpAny_forIn_list _ (λrest r s'=>r.1=none/\s'=s/\∃l,Paired (κ.is s.heap) l rest) _ ?_ ?_ _ _ ⟨rfl,rfl,ks,hi⟩
 .rintro v rest r s' ⟨hr,rfl,l,hl⟩;cases hl with
  |cons r t=>
   refine zam (κ.quiet n (by omega) r ?_);simp only[Bool.not_true,Bool.false_eq_true,if_false];exact zaS ⟨rfl,rfl,_,t⟩
 .rintro⟨r1,r2⟩ s' ⟨hr,rfl,_⟩;simp only at hr;subst hr;exact zaS h
def e7{o:Option Key}(h:jd o v=true):(o=none/\v=.none)\/(∃i t,o=some (.inl i)/\v=.int i t)\/∃x t,o=some (.inr x)/\v=.str x t:=by
 cases o with
 |none=>exact .inl ⟨rfl,cI h⟩
 |some k=>
  rcases br (k:=k) (v:=v) h with⟨i,t,rfl,rfl⟩|⟨x,t,rfl,rfl⟩
  .exact .inr (.inl ⟨i,t,rfl,rfl⟩)
  .exact .inr (.inr ⟨x,t,rfl,rfl⟩)
def JI(w:World):Option Key->Int
 |none=>reduceHash 0xFCA86420
 |some k=>Bd w k
def Ab{a b:Option Key}(hu:jd a u=true)(hv:jd b v=true):EqAt A s u v (decide (a=b)):=λprog w E Q h=>(cC prog w).eqBool (a:=a) (b:=b) hu hv h
def rh{o:Option Key}{ks:List K}(hu:A.units<cLine)(ho:jd o v=true)(hk:IsTK κ s.heap ks a):EqAt A s v (.ref a) false/\EqAt A s (.ref a) v false:=by
 obtain⟨xs,h1,_⟩:=hk.isTuple;rcases e7 ho with⟨_,rfl⟩|⟨i,t,_,rfl⟩|⟨x,t,_,rfl⟩
 .exact⟨.none_tuple h1 hu,.tuple_none h1 hu⟩
 .exact⟨.int_tuple _ _ h1 hu,.tuple_int _ _ h1 hu⟩
 .exact⟨.str_tuple _ _ h1 hu,.tuple_str _ _ h1 hu⟩
def optI:IKind (Option Key) where
 is:=λ_ o v=>jd o v=true
 hash:=JI
 draws:=λ_=>1
 lv:=0
 inj:=λ{h v a b} ha hb=>by
  rcases e7 ha with⟨rfl,rfl⟩|⟨i,t,rfl,rfl⟩|⟨x,t,rfl,rfl⟩<;>rcases e7 hb with⟨rfl,e⟩|⟨i',t',rfl,e⟩|⟨x',t',rfl,e⟩<;>cases e<;>rfl
 keeps:=λh _ _ _=>h
 pyHash:=λ{prog w A E s k v Q} _ hk h=>(cC prog w).pyHash (k:=k) hk (by cases k<;>exact h)
 eq:=λ_ ha hb=>Ab ha hb
 quiet:=λ{prog w A E s k v Q} n _ hk h=>by
  rw[eqIsQuiet_byValue n ((cC prog w).byValue k v hk)];exact zaS h
def upK(κ:IKind K):IKind (Option Key ⊕ List K) where
 is:=λh k v=>match k with
  |.inl o=>jd o v=true
  |.inr ks=>∃a,v=.ref a/\IsTK κ h ks a
 hash:=λw k=>match k with
  |.inl o=>JI w o
  |.inr ks=>oy κ w ks
 draws:=λk=>match k with
  |.inl _=>1
  |.inr ks=>cT κ ks
 lv:=κ.lv+1
 inj:=λ{h v a b} ha hb=>by
  cases a with
  |inl o=>
   cases b with
   |inl o'=>rw[optI.inj (h:=h) ha hb]
   |inr ks=>
    obtain⟨c,rfl,_⟩:=hb;rcases e7 ha with⟨_,e⟩|⟨_,_,_,e⟩|⟨_,_,_,e⟩<;>cases e
  |inr ks=>
   obtain⟨c,rfl,hk⟩:=ha;cases b with
   |inl o=>rcases e7 hb with⟨_,e⟩|⟨_,_,_,e⟩|⟨_,_,_,e⟩<;>cases e
   |inr ls=>
    obtain⟨c',e,hl⟩:=hb;cases e;rw[hk.inj hl]
 keeps:=λ{h h' k v d o es ep} hk ho hd hs=>by
  cases k with
  |inl o=>exact hk
  |inr ks=>
   obtain⟨c,rfl,hk⟩:=hk;exact⟨c,rfl,hk.keeps ho hd hs⟩
 pyHash:=λ{prog w A E s k v Q} hu hk h=>by
  cases k with
  |inl o=>exact optI.pyHash (k:=o) (by show A.units+0<_;omega) hk h
  |inr ks=>
   obtain⟨c,rfl,hk⟩:=hk;exact v9 hu hk h
 eq:=λ{A s a b u v} hu ha hb=>by
  have h0:A.units<cLine:=by omega
  cases a with
  |inl o=>
   cases b with
   |inl o'=>
    have:=Ab (A:=A) (s:=s) ha hb
    rwa[show decide (o=o')=decide ((Sum.inl o:Option Key ⊕ List K)=.inl o')from decide_eq_decide.mpr ⟨λz=>by rw[z],λz=>Sum.inl.inj z⟩]at this
   |inr ks=>
    obtain⟨c,rfl,hk⟩:=hb;rw[zaA λz=>nomatch z];exact(rh h0 ha hk).1
  |inr ks=>
   obtain⟨c,rfl,hk⟩:=ha;cases b with
   |inl o=>
    rw[zaA λz=>nomatch z];exact(rh h0 hb hk).2
   |inr ls=>
    obtain⟨c',rfl,hl⟩:=hb
    have:=ER hu hk hl
    rwa[show decide (ks=ls)=decide ((Sum.inr ks:Option Key ⊕ List K)=.inr ls)from decide_eq_decide.mpr ⟨λz=>by rw[z],λz=>Sum.inr.inj z⟩]at this
 quiet:=λ{prog w A E s k v Q} n hn hk h=>by
  cases k with
  |inl o=>exact optI.quiet (k:=o) n (zbj _) hk h
  |inr ks=>
   obtain⟨c,rfl,hk⟩:=hk;exact tj hn hk h
end
def jf:(n:Nat)->IKind (KyN n)
 |0=>optI
 |n+1=>upK (jf n)
def kh(prog:Program)(w:World):PySem.HeapKind prog w (List (KyN 3)) where
 is:=IsTK (jf 3)
 hash:=oy (jf 3) w
 draws:=cT (jf 3)
 room:=λA=>A.units+4<cLine
 inj:=λhx hy=>hx.inj hy
 keeps:=λx ho hd hs=>x.keeps ho hd hs
 pyHash:=λhu hk h=>v9 hu hk h
 eqBool:=λ{A E s x y a b Q} hu hx hy h=>ER (κ:=jf 3) (A:=A) hu hx hy prog w E Q h
 quiet:=λhk h=>tj (κ:=jf 3) (by decide) hk h
end
inductive V where
 |non|bl (b:Bool)|int (i:Int)|str (x:Str)|byt (b:Array UInt8)|flt (b:UInt64)|ref (a:Addr)|ty (n:String)
 deriving DecidableEq
variable{y:V}{vs:List V}
def RelV:V->Value->Prop
 |.non,u=>u=Value.none
 |.bl b,u=>u=Value.bool b
 |.int i,u=>∃t,u=Value.int i t
 |.str x,u=>∃t,u=Value.str x t
 |.byt b,u=>∃t,u=Value.bytes b t
 |.flt b,u=>∃t,u=Value.float b t
 |.ref a,u=>u=Value.ref a
 |.ty n,u=>u=Value.type n
abbrev Vals:List V->List Value->Prop:=Paired RelV
def Vals.length{xs:List V}{us:List Value}(r:Vals xs us):xs.length=us.length:=Paired.length r
theorem Vals.get:∀{xs:List V} {us:List Value} {i:Nat} {x:V},Vals xs us->xs[i]?=some x->∃u,us[i]?=some u/\RelV x u
 |_,_,_,_,.nil,e=>by simp at e
 |_,_,0,_,.cons r _,e=>by simp at e;subst e;exact⟨_,rfl,r⟩
 |_,_,i+1,x,.cons _ t,e=>by
  obtain⟨u,h1,h2⟩:=Vals.get (i:=i) (x:=x) t (by simpa using e);exact⟨u,by simpa using h1,h2⟩
theorem Vals.set{x:V}{u:Value}(r:RelV x u):∀{xs:List V} {us:List Value} (i:Nat),Vals xs us->Vals (xs.set i x) (us.set i u)
 |_,_,_,.nil=>.nil
 |_,_,0,.cons _ t=>.cons r t
 |_,_,i+1,.cons q t=>.cons q (Vals.set r i t)
theorem Vals.append:∀{xs ys:List V} {us ws:List Value},Vals xs us->Vals ys ws->Vals (xs++ys) (us++ws)
 |_,_,_,_,.nil,s=>s
 |_,_,_,_,.cons r t,s=>.cons r (Vals.append t s)
theorem Vals.take:∀{xs:List V} {us:List Value} (n:Nat),Vals xs us->Vals (xs.take n) (us.take n)
 |_,_,0,_=>.nil
 |_,_,_+1,.nil=>.nil
 |_,_,n+1,.cons r t=>.cons r (Vals.take n t)
theorem Vals.drop:∀{xs:List V} {us:List Value} (n:Nat),Vals xs us->Vals (xs.drop n) (us.drop n)
 |_,_,0,r=>r
 |_,_,_+1,.nil=>.nil
 |_,_,n+1,.cons _ t=>Vals.drop n t
def RelO:Option V->Option Value->Prop
 |some v,some u=>RelV v u
 |none,none=>True
 |_,_=>False
def KV{κ:Type}:List (κ×V)->List (κ×Value)->Prop:=Paired λ(p:κ×V) (q:κ×Value)=>p.1=q.1/\RelV p.2 q.2
noncomputable def kV:Key->V
 |.inl i=>.int i
 |.inr x=>.str x
def oV:Option Key->V
 |none=>.non
 |some k=>kV k
inductive HO where
 |lst (xs:List V)
 |tup (xs:List V)
 |dK (kvs:List (Key×V))|dT (kvs:List (List (Option Key)×V)) (ad:Addr->Prop)
 |dN (kvs:List (List (KyN 3)×V)) (ad:Addr->Prop)
 |set (S:Int->Bool) (n:Nat)
 |ins (C dx:Addr) (fs:List (Str×V))
 |own (x:Addr)
 |xd (fs:List (Str×V))
 |met (f x:Addr)
 |rng (lo hi:Int)
 |frz (o:Obj) (u:HO)
 |tbl (q:Str)
 |ext (φ:Heap->Prop)
variable{o:HO}
abbrev Hp:=Addr->Option HO
variable{H H':Hp}
noncomputable def upd(H:Hp)(a:Addr)(o:HO):Hp:=λb=>if b=a then some o else H b
def aF:upd H a o a=some o:=by unfold upd;rw[if_pos rfl]
def az(h:b≠a):upd H a o b=H b:=by unfold upd;rw[if_neg h]
def xf{u:HO}(h:H a=some o)(h':H b=some u)(d:o≠u):a≠b:=by
 intro e;subst e;rw[h]at h';exact d (zat h')
def bN(h:H a=some o)(h':H b=none):a≠b:=by
 intro e;subst e;rw[h]at h';cases h'
def IsTupN(h:Heap)(a:Addr)(its:Array Value):Prop:=∃o,h.get? a=some o/\o.cls=.type "tuple"/\∃n,o.data=.seq its n/\o.dict=none
def IsTupN.tup{h:Heap}{a:Addr}{its:Array Value}(x:IsTupN h a its):IsTup h a its:=by
 obtain⟨o,h1,h2,n,h3,_⟩:=x;exact⟨o,h1,h2,n,h3⟩
def IsTupN.lt{its:Array Value}(x:IsTupN h a its):a<h.objs.size:=zal x.choose_spec.1
def IsTupN.new(h:Heap)(its:Array Value):IsTupN (h.push { cls:=.type "tuple",data:=.seq its }) h.objs.size its:=⟨_,zan _ rfl,rfl,_,rfl,rfl⟩
def KyV(H:Hp)(ad:Addr->Prop):(n:Nat)->KyN n->V->Prop
 |0,o,v=>v=oV o
 |_+1,.inl o,v=>v=oV o
 |n+1,.inr ks,v=>∃a vs,v=.ref a/\H a=some (.tup vs)/\ad a/\Paired (KyV H ad n) ks vs
def KyT(H:Hp)(ad:Addr->Prop)(ks:List (KyN 3))(a:Addr):Prop:=∃vs,H a=some (.tup vs)/\ad a/\Paired (KyV H ad 3) ks vs
theorem KyV.mono{H H':Hp}{ad ad':Addr->Prop}(ha:∀b,ad b->ad' b)(ht:∀b xs,ad b->H b=some (.tup xs)->H' b=some (.tup xs)):∀(n:Nat) {k:KyN n} {v:V},KyV H ad n k v->KyV H' ad' n k v
 |0,_,_,h=>h
 |n+1,.inl _,_,h=>h
 |n+1,.inr ks,v,h=>by
  obtain⟨a,vs,e,h1,h2,h3⟩:=h;exact⟨a,vs,e,ht _ _ h2 h1,ha _ h2,sm h3 λ_ _ z=>KyV.mono ha ht n z⟩
def KyT.mono{H H':Hp}{ad ad':Addr->Prop}{ks:List (KyN 3)}{a:Addr}(ha:∀b,ad b->ad' b)(ht:∀b xs,ad b->H b=some (.tup xs)->H' b=some (.tup xs))(h:KyT H ad ks a):KyT H' ad' ks a:=by
 obtain⟨vs,h1,h2,h3⟩:=h;exact⟨vs,ht _ _ h2 h1,ha _ h2,sm h3 λ_ _ z=>KyV.mono ha ht 3 z⟩
section
variable(P:Program)(w:World)
def ObjOk(H:Hp)(h:Heap)(a:Addr):HO->Prop
 |.lst xs=>xs.length<=sizeLine/\∃(its:List Value) (n:Nat),Vals xs its/\h.get? a=some { cls:=.type "list",data:=.seq its.toArray n }
 |.tup xs=>xs.length<=sizeLine/\∃its:List Value,Vals xs its/\IsTupN h a its.toArray
 |.dK kvs=>kvs.length<=sizeLine/\(a==sysModules)=false/\∃vs,KV kvs vs/\h.DictOf (cD P w) a vs
 |.dT kvs ad=>kvs.length<=sizeLine/\(a==sysModules)=false/\∃xs:List (List (Option Key)×Addr×Value),
   Paired (λ(p:List (Option Key)×V) (q:List (Option Key)×Addr×Value)=>p.1=q.1/\(H q.2.1=some (.tup (p.1.map oV))/\ad q.2.1)/\RelV p.2 q.2.2) kvs xs /\
   ∃o es ep,h.get? a=some o/\o.ExactDict/\o.data=.dict es ep/\es.toList=xs.map (entryOfKey (tupleKind (cC P w)))/\(xs.map (·.1)).Nodup
 |.dN kvs ad=>kvs.length<=sizeLine/\(a==sysModules)=false/\∃xs:List (List (KyN 3)×Addr×Value),
   Paired (λ(p:List (KyN 3)×V) (q:List (KyN 3)×Addr×Value)=>p.1=q.1/\KyT H ad p.1 q.2.1/\RelV p.2 q.2.2) kvs xs /\
   ∃o es ep,h.get? a=some o/\o.ExactDict/\o.data=.dict es ep/\es.toList=xs.map (entryOfKey (kh P w))/\(xs.map (·.1)).Nodup
 |.set S n=>h.SetOf (intKind P w) a S n
 |.ins C dx fs=>H dx=some (.own a)/\fs.length<=1000/\dx≠a/\h.get? a=some (PySem.W.instObj C dx) /\
   ∃mA,h.Ns1 dx mA/\(∀f,RelO (fs.lookup f) (mA f))/\PySem.Within mA (fs.map (·.1))
 |.own _=>∃o,h.get? a=some o
 |.xd fs=>∃mA,h.Ns1 a mA/\∀f,RelO (fs.lookup f) (mA f)
 |.rng lo hi=>∃t u v,h.get? a=some { cls:=.type "range",data:=.fields #[.int lo t,.int hi u,.int 1 v] }
 |.frz o u=>h.get? a=some o/\ObjOk H h a u
 |.tbl q=>∃ps:Array Value,h.get? a=some { cls:=.none,data:=.fields ps }/\TriplesOk ps.toList/\∀pos cv,codeAmong pos ps.toList=some cv->∃c oc vs t,cv=.ref c/\H c=some (.frz oc (.own a))/\oc.data=.fields vs/\vs[1]?=some (.str q t)
 |.met f x=>h.get? a=some (PySem.W.methodObj (.ref f) (.ref x))
 |.ext φ=>φ h/\(∃o,h.get? a=some o)/\∀h1 h2:Heap,φ h1->(∀o,h1.get? a=some o->h2.get? a=some o)->φ h2
def HOk(H:Hp)(h:Heap):Prop:=∀a o,H a=some o->ObjOk P w H h a o
end
theorem ObjOk.lt(x:ObjOk P w H h a o):a<h.objs.size:=by
 cases o with
 |lst xs=>obtain⟨_,_,_,_,e⟩:=x;exact zal e
 |tup xs=>obtain⟨_,_,_,p⟩:=x;exact p.lt
 |dK kvs=>obtain⟨_,_,_,_,o,_,_,e,_⟩:=x;exact zal e
 |dT kvs ad=>obtain⟨_,_,_,_,o,_,_,e,_⟩:=x;exact zal e
 |dN kvs ad=>obtain⟨_,_,_,_,o,_,_,e,_⟩:=x;exact zal e
 |set S n=>obtain⟨o,_,_,_,e,_⟩:=x;exact zal e
 |ins C dx fs=>obtain⟨_,_,_,e,_⟩:=x;exact zal e
 |own y=>obtain⟨_,e⟩:=x;exact zal e
 |xd fs=>obtain⟨_,⟨_,_,_,e,_⟩,_⟩:=x;exact zal e
 |rng lo hi=>obtain⟨_,_,_,e⟩:=x;exact zal e
 |frz ob u=>obtain⟨e,_⟩:=x;exact zal e
 |tbl q=>obtain⟨ps,e,_⟩:=(show ∃ps:Array Value,h.get? a=some { cls:=.none,data:=.fields ps }/\_ from x);exact zal e
 |met f y=>exact zal (show h.get? a=some _ from x)
 |ext φ=>obtain⟨_,⟨_,e⟩,_⟩:=x;exact zal e
theorem Paired.mapP{α β:Type}{F G:α->β->Prop}:∀{l₁:List α} {l₂:List β},Paired F l₁ l₂->(∀a b,F a b->G a b)->Paired G l₁ l₂
 |_,_,.nil,_=>.nil
 |_,_,.cons r t,f=>.cons (f _ _ r) (Paired.mapP t f)
def Kpt:HO->Prop
 |.tup _=>True
 |.frz _ (.own _)=>True
 |_=>False
def ObjOk.stay(x:ObjOk P w H h a o)(k:∀b u,(b=a\/H b=some (.own a))->h.get? b=some u->h'.get? b=some u)
  (ho:∀b,H b=some (.own a)->H' b=some (.own a)) (htk:∀b u,Kpt u->H b=some u->H' b=some u):ObjOk P w H' h' a o:=by
 have ht:∀b xs,H b=some (.tup xs)->H' b=some (.tup xs):=λb xs e=>htk b _ trivial e
 induction o with
 |lst xs=>obtain⟨z,its,n,r,e⟩:=x;exact⟨z,its,n,r,k _ _ (.inl rfl) e⟩
 |tup xs=>obtain⟨z,its,r,ob,e,c⟩:=x;exact⟨z,its,r,ob,k _ _ (.inl rfl) e,c⟩
 |dK kvs=>obtain⟨z,y,vs,r,ob,es,ep,e,c⟩:=x;exact⟨z,y,vs,r,ob,es,ep,k _ _ (.inl rfl) e,c⟩
 |dT kvs ad=>
  obtain⟨z,y,xs,r,ob,es,ep,e,c⟩:=x;exact⟨z,y,xs,Paired.mapP r λp q z=>⟨z.1,⟨ht _ _ z.2.1.1,z.2.1.2⟩,z.2.2⟩,ob,es,ep,k _ _ (.inl rfl) e,c⟩
 |dN kvs ad=>
  obtain⟨z,y,xs,r,ob,es,ep,e,c⟩:=x;exact⟨z,y,xs,Paired.mapP r λp q z=>⟨z.1,z.2.1.mono (λ_ z=>z) λb xs _ e=>ht b xs e,z.2.2⟩,ob,es,ep,k _ _ (.inl rfl) e,c⟩
 |set S n=>obtain⟨ob,es,ep,t,e,c⟩:=x;exact⟨ob,es,ep,t,k _ _ (.inl rfl) e,c⟩
 |ins C dx fs=>
  obtain⟨d,z,ne,e,mA,⟨od,es,ep,e2,c⟩,r⟩:=x;exact⟨ho _ d,z,ne,k _ _ (.inl rfl) e,mA,⟨od,es,ep,k _ _ (.inr d) e2,c⟩,r⟩
 |own y=>obtain⟨ob,e⟩:=x;exact⟨ob,k _ _ (.inl rfl) e⟩
 |xd fs=>obtain⟨mA,⟨od,es,ep,e,c⟩,r⟩:=x;exact⟨mA,⟨od,es,ep,k _ _ (.inl rfl) e,c⟩,r⟩
 |rng lo hi=>obtain⟨t,u,v,e⟩:=x;exact⟨t,u,v,k _ _ (.inl rfl) e⟩
 |frz ob u ih=>obtain⟨e,q⟩:=x;exact⟨k _ _ (.inl rfl) e,ih q⟩
 |tbl q=>
  obtain⟨ps,e,t1,t2⟩:=(show ∃ps:Array Value,h.get? a=some { cls:=.none,data:=.fields ps }/\_ from x);exact⟨ps,k a _ (.inl rfl) e,t1,λpos cv hc=>by
   obtain⟨c,oc,vs,t,q1,q2,q3⟩:=t2 pos cv hc;exact⟨c,oc,vs,t,q1,htk _ _ trivial q2,q3⟩⟩
 |met f y=>
  have e:h.get? a=some (PySem.W.methodObj (.ref f) (.ref y)):=x;show h'.get? a=some (PySem.W.methodObj (.ref f) (.ref y));exact k a _ (.inl rfl) e
 |ext φ=>obtain⟨p,⟨o,e⟩,st⟩:=x;exact⟨st _ _ p λo q=>k _ _ (.inl rfl) q,⟨o,k _ _ (.inl rfl) e⟩,st⟩
def HOk.lt(x:HOk P w H h)(e:H a=some o):a<h.objs.size:=(x a o e).lt
def HOk.fresh(x:HOk P w H h)(e:h.objs.size<=a):H a=none:=by
 cases q:H a with
 |none=>rfl
 |some u=>exact absurd (zag (x.lt q) e) (zaH _)
def HOk.kept(x:HOk P w H h)(k:∀b u,h.get? b=some u->h'.get? b=some u):HOk P w H h':=λa o e=>
 (x a o e).stay (λb u _ q=>k b u q) (λ_ q=>q) λ_ _ _ q=>q
def HOk.laid(x:HOk P w H h)(k:∀b u,h.get? b=some u->h'.get? b=some u)(hp:h.objs.size<=a)(new:ObjOk P w (upd H a o) h' a o):HOk P w (upd H a o) h':=λb u e=>by
 have hn:=x.fresh hp;by_cases hb:b=a
 .subst hb;rw[aF]at e;cases e;exact new
 .rw[az hb]at e;exact(x b u e).stay (λc v _ q=>k c v q) (λc q=>by rw[az (bN q hn)];exact q) λc xs _ q=>by rw[az (bN q hn)];exact q
def Rd(H:Hp)(a:Addr)(u:HO):Prop:=H a=some u\/∃o,H a=some (.frz o u)
def Rd.ok{u:HO}(r:Rd H a u)(x:HOk P w H h):ObjOk P w H h a u:=by
 rcases r with r|⟨o,r⟩
 .exact x a u r
 .obtain⟨_,q⟩:=x a _ r;exact q
def Mut:Option HO->Prop
 |some (.lst _)=>True
 |some (.dK _)=>True
 |some (.dT _ _)=>True
 |some (.dN _ _)=>True
 |some (.set _ _)=>True
 |some (.ins _ _ _)=>True
 |some (.ext _)=>True
 |_=>False
section
variable{x e:Addr}{o':HO}
def HOk.write(ok:HOk P w H h)(mu:Mut (H x))(he:e=x\/H e=some (.own x))(k:∀b u,b≠e->h.get? b=some u->h'.get? b=some u)(heo:∃u,h'.get? e=some u)
  (new:ObjOk P w (upd H x o') h' x o'):HOk P w (upd H x o') h':=λb u q=>by
 have nown:∀c y,H c=some (.own y)->c≠x:=λc y r z=>by subst z;rw[r]at mu;exact mu
 have ntup:∀c u,Kpt u->H c=some u->c≠x:=λc u ku r z=>by
  subst z;rw[r]at mu;cases u with
  |tup _=>exact mu
  |frz _ _=>exact mu
  |_=>exact ku
 by_cases hb:b=x
 .subst hb;rw[aF]at q;cases q;exact new
 .rw[az hb]at q;by_cases hbe:b=e
  .have q':H b=some (.own x):=by
    rcases he with z|z
    .exact absurd (hbe.trans z) hb
    .rw[hbe];exact z
   rw[q]at q';cases q';obtain⟨v,hv⟩:=heo;exact⟨v,by rw[hbe];exact hv⟩
  .refine(ok b u q).stay (λc v hc r=>k c v ?_ r) (λc r=>by rw[az (nown c b r)];exact r) λc u ku r=>by rw[az (ntup c u ku r)];exact r
   rcases hc with rfl|hc
   .exact hbe
   .rintro rfl;rcases he with z|z
    .exact nown c b hc z
    .rw[hc]at z;cases z;exact hb rfl
end
structure Un(fs ex:List Addr)(H H':Hp)(h h':Heap):Prop where
 keep:∀b o,h.get? b=some o->H b=none->b∉fs->b∉ex->h'.get? b=some o
 slot:∀b o,h.get? b=some o->H b=none->b∈fs->b∉ex->∃sl,h'.get? b=some { o with slots:=sl }
 free:∀b o,h.get? b=some o->H b=none->b∉ex->H' b=none
 there:∀b o,h.get? b=some o->b∉ex->∃o',h'.get? b=some o'
 tups:∀b xs,H b=some (.tup xs)->H' b=some (.tup xs)
 frzs:∀b o u,H b=some (.frz o u)->H' b=some (.frz o u)
 tbls:∀b ps,H b=some (.tbl ps)->H' b=some (.tbl ps)
section
variable{fs fs' ex ex':List Addr}{H1 H2:Hp}{h1 h2:Heap}{x e:Addr} 
def Un.any(u:Un fs ex H H1 h h1){ob:Obj}(q:h.get? b=some ob)(n:H b=none)(hx:b∉ex):∃sl,h1.get? b=some { ob with slots:=sl }:=by
 by_cases hb:b∈fs
 .exact u.slot b ob q n hb hx
 .exact⟨ob.slots,u.keep b ob q n hb hx⟩
def Un.trans(a:Un fs ex H H1 h h1)(b:Un fs ex H1 H2 h1 h2):Un fs ex H H2 h h2 where
 keep:=λc ob q n hc hx=>b.keep c ob (a.keep c ob q n hc hx) (a.free c ob q n hx) hc hx
 slot:=λc ob q n hc hx=>by
  obtain⟨sl,e1⟩:=a.slot c ob q n hc hx;obtain⟨sl',e2⟩:=b.slot c _ e1 (a.free c ob q n hx) hc hx;exact⟨sl',e2⟩
 free:=λc ob q n hx=>by
  obtain⟨o',e1⟩:=a.there c ob q hx;exact b.free c o' e1 (a.free c ob q n hx) hx
 there:=λc ob q hx=>by
  obtain⟨o',e1⟩:=a.there c ob q hx;exact b.there c o' e1 hx
 tups:=λc xs q=>b.tups c xs (a.tups c xs q)
 frzs:=λc ob xs q=>b.frzs c ob xs (a.frzs c ob xs q)
 tbls:=λc ps q=>b.tbls c ps (a.tbls c ps q)
def Un.kept(k:∀b u,h.get? b=some u->h'.get? b=some u):Un fs ex H H h h':=
 ⟨λb ob q _ _ _=>k b ob q,λb ob q _ _ _=>⟨ob.slots,k b ob q⟩,λ_ _ _ n _=>n,λb ob q _=>⟨ob,k b ob q⟩,λ_ _ q=>q,λ_ _ _ q=>q,λ_ _ q=>q⟩
def Un.refl:Un fs ex H H h h:=Un.kept λ_ _ q=>q
def Un.laid(k:∀b u,h.get? b=some u->h'.get? b=some u)(hp:h.objs.size<=a)(hn:H a=none):Un fs ex H (upd H a o) h h' where
 keep:=λb u q _ _ _=>k b u q
 slot:=λb u q _ _ _=>⟨u.slots,k b u q⟩
 free:=λb u q n _=>by rw[az (zaw (zag (zal q) hp))];exact n
 there:=λb u q _=>⟨u,k b u q⟩
 tups:=λb xs q=>by rw[az (bN q hn)];exact q
 frzs:=λb u xs q=>by rw[az (bN q hn)];exact q
 tbls:=λb ps q=>by rw[az (bN q hn)];exact q
def Un.write(mu:Mut (H x))(he:e=x\/H e=some (.own x))(k:∀b u,b≠e->h.get? b=some u->h'.get? b=some u)(heo:∃u,h'.get? e=some u):Un fs ex H (upd H x o) h h':=by
 have hx:∀b,H b=none->b≠x:=λb n z=>by subst z;rw[n]at mu;exact mu
 have hb:∀b,H b=none->b≠e:=λb n z=>by
  subst z;rcases he with r|r
  .exact hx b n r
  .rw[n]at r;cases r
 have hm:∀b u,H b=some u->¬Mut (some u)->b≠x:=λb u q nm z=>by subst z;rw[q]at mu;exact nm mu
 refine⟨λb u q n _ _=>k b u (hb b n) q,λb u q n _ _=>⟨u.slots,k b u (hb b n) q⟩,λb u q n _=>by rw[az (hx b n)];exact n,λb u q _=>?_,
  λb xs q=>by rw[az (hm b _ q λz=>z)];exact q,λb u xs q=>by rw[az (hm b _ q λz=>z)];exact q,λb ps q=>by rw[az (hm b _ q λz=>z)];exact q⟩
 by_cases hbe:b=e
 .subst hbe;exact heo
 .exact⟨u,k b u hbe q⟩
end
noncomputable def trk(h:Heap)(H:Hp):List Addr:=(List.range h.objs.size).filter λa=>(H a).isSome
def ko(h:Heap)(H:Hp):Heap:=PySem.W.hideAll h (trk h H)
def zF(h:Heap)(H:Hp):(ko h H).objs.size=h.objs.size:=PySem.W.hideAll_size _ _
def BD{o:Obj}(e:h.get? b=some o)(n:H b=none):(ko h H).get? b=some o:=
 PySem.W.hideAll_get _ e λhm=>by
  have q:(H b).isSome=true:=(zbB.mp hm).2;rw[n]at q;simp at q
def FF{o:Obj}(e:(ko h H).get? b=some o):h.get? b=some o/\H b=none:=by
 have e':h.get? b=some o:=PySem.W.of_hideAll (trk h H) e;refine⟨e',?_⟩;cases q:H b with
 |none=>rfl
 |some x=>
  have hm:b∈trk h H:=zbB.mpr ⟨zbq.mpr (zal e'),by simp[q]⟩;have z:(ko h H).get? b=none:=PySem.W.hideAll_none (trk h H) hm;rw[z]at e;cases e
noncomputable def GA(g h:Heap)(L:Addr):List (Addr×Obj):=(List.range h.objs.size).filterMap λa=>if a=L\/(g.get? a).isSome=true then none else(h.get? a).map λo=>(a,o)
def rest(g h:Heap)(L d:Addr):List (Addr×Obj):=(GA g h L).filter λp=>decide (p.1≠d)
structure Mod(K:zbU)(mg:Str->Option Value)(base:Heap):Prop where
 kin:K.In base
 glob:base.Ns mainGlobals mg
 blt:∃mb,base.Ns builtinsNs mb/\∀x:Str,x≠"__name__"->mb x=bootBuiltins x
 nolimit:base.NoLimit
 mods:∃mm,base.Ns sysModules mm
 bm:∃(bm:Addr) (o:Obj),mg "__builtins__"=some (.ref bm)/\bm≠builtinsNs/\base.get? bm=some o/\o.cls=.type "module"/\o.dict=some builtinsNs/\o.data=.plain
noncomputable def mkR(P:Addr)(q:Str):Obj:={ cls:=.none,data:=.fields #[.ref P,.str q 0] }
noncomputable def isR(q:Addr×Obj):Bool:=match q.2.data with
 |.fields _=>decide (q.1=mainGlobals)
 |_=>false
def dZ(K:zbU)(ts:List (Addr×Str)):zbU:=K.filter (λq=>!isR q)++ts.map λt=>(mainGlobals,mkR t.1 t.2)
def Rg(K:zbU)(P:Addr)(q:Str):Prop:=(mainGlobals,mkR P q)∈K
theorem xq{b:Addr}{q:Str}:∀{ts:List (Addr×Str)},ts.lookup b=some q->(b,q)∈ts
 |[],h=>nomatch h
 | (a,u)::r,h=>by
  rw[zas]at h;by_cases e:b=a
  .subst e
   have:(b==b)=true:=by simp
   rw[this]at h;cases h;exact zaq
  .have:(b==a)=false:=by simp[e]
   rw[this]at h;exact zaj _ (xq h)
def Rg.of{ts:List (Addr×Str)}{P:Addr}{q:Str}(h:Rg (dZ K ts) P q):(P,q)∈ts:=by
 rcases zax.mp h with h|h
 .have:=(zbB.mp h).2;simp[isR,mkR]at this
 .obtain⟨⟨P',q'⟩,h1,h2⟩:=zaz.mp h;have e:=(Prod.mk.inj h2).2;unfold mkR at e;injection e with _ _ e _
  injection e with e
  injection e with e
  injection e with e1 e
  injection e with e2 _
  injection e1 with e1
  injection e2 with e2 _
  subst e1 e2;exact h1
structure Cx where
 prog:Program
 w:World
 K:zbU
 mg:Str->Option Value
 base:Heap
 A:Around
 N:List Str
 s₀:Shared
 H₀:Hp
 env:Env
 outer:List Env
 stack:List Env
 ex:List Addr
 fn:Str->Bool
 calm:Bool
 pn:List (Addr×Obj)
 xe:Value->Shared->Prop
 hide:Nat->Option V:=λ_=>none
variable{X:Cx}
noncomputable def frs(l:List Env):List Addr:=l.filterMap (·.frame)
abbrev Cx.fs(X:Cx):List Addr:=frs X.outer
def Vis(sc:Scope)(x:Str):Prop:=sc.names.lookup x=some .local\/sc.names.lookup x=some .cell\/sc.names.lookup x=some .free
def Loc(sc:Scope)(x:Str):Prop:=sc.names.lookup x=some .local\/sc.names.lookup x=some .cell
def Mb(env:Env)(h:Heap)(m:Str->Option Value)(x:Str)(u:Value):Prop:=
 (env.kindOf x=some .local/\m x=some u)\/((env.kindOf x=some .cell\/env.kindOf x=some .free)/\∃c,env.cells.lookup x=some c/\h.IsCell c (some u))
structure Cx.Ok(X:Cx):Prop where
 mod:Mod X.K X.mg X.base
 kind:X.env.scope.kind=.function
 glob:X.env.globals=mainGlobals
 blt:X.env.builtins=builtinsNs
 above:X.s₀.heap.objs.size<=X.env.locals
 inj:∀x y c,X.env.cells.lookup x=some c->X.env.cells.lookup y=some c->x=y
 has:∀x,(X.env.kindOf x=some .cell\/X.env.kindOf x=some .free)->∃c,X.env.cells.lookup x=some c
 cab:∀x c,X.fn x=true->X.env.cells.lookup x=some c->X.s₀.heap.objs.size<=c
 hd:X.calm=true->X.A.handled=none
 frames:X.A.frames=some X.stack
 stk:X.stack=X.outer\/(X.stack=X.env::X.outer/\X.env.frame=some X.env.locals)
 exf:∀b∈X.ex,b≠X.env.locals/\∀x c,X.env.cells.lookup x=some c->c≠b
 bs:∀b o,X.base.get? b=some o->X.s₀.heap.get? b=some o/\X.H₀ b=none
 bsz:X.base.objs.size<=X.s₀.heap.objs.size
 noex:∀b o,X.base.get? b=some o->b∉X.ex
 exfs:∀b∈X.ex,b∉X.fs
 funs:X.s₀.heap.FunFrames X.base X.outer
 frf:∀b∈X.fs,X.H₀ b=none
 reg:∀P q,Rg X.K P q->X.H₀ P=some (.tbl q)
structure Inv(X:Cx)(ρ:List (Addr×Obj))(σ:List (Option V))(H:Hp)(s:Shared):Prop where
 ok:X.Ok
 os:s.os=X.s₀.os
 bare:AllBare s.gens
 base:Un X.fs X.ex X.H₀ H X.s₀.heap s.heap
 loc:∃m,s.heap.Ns X.env.locals m/\∀(i:Nat) (x:Str) (v:V),X.N[i]?=some x->σ[i]?=some (some v)->Vis X.env.scope x->∃u,RelV v u/\Mb X.env s.heap m x u
 cell:∀x c,X.env.cells.lookup x=some c->∃v,s.heap.IsCell c v
 free:H X.env.locals=none
 freeC:∀x c,X.env.cells.lookup x=some c->H c=none
 pin:∀p∈X.pn++ρ,s.heap.get? p.1=some p.2/\H p.1=none/\p.1≠X.env.locals/\p.1∉X.fs/\∀v,p.2.data≠.cell v
 hok:HOk X.prog X.w H s.heap
 len:σ.length=X.N.length
 hid:∀i u,X.hide i=some u->(∀v,σ[i]?=some (some v)->v=u)/\∀x,X.N[i]?=some x->¬Vis X.env.scope x
section
variable{σ:List (Option V)}  
def Cx.Ok.nofr(ok:X.Ok){o:Obj}(e:X.base.get? b=some o):b∉X.fs:=λhb=>by
 have:=(ok.funs.mem hb).1;rw[e]at this;cases this
def Inv.bs(I:Inv X ρ σ H s):∀b o,X.base.get? b=some o->s.heap.get? b=some o/\H b=none:=λb o e=>
 ⟨I.base.keep b o (I.ok.bs b o e).1 (I.ok.bs b o e).2 (I.ok.nofr e) (I.ok.noex b o e),I.base.free b o (I.ok.bs b o e).1 (I.ok.bs b o e).2 (I.ok.noex b o e)⟩
def Inv.bk(I:Inv X ρ σ H s):∀b o,X.base.get? b=some o->s.heap.get? b=some o:=λb o e=>(I.bs b o e).1
def Inv.mod(I:Inv X ρ σ H s):Mod X.K X.mg X.base:=I.ok.mod
def Inv.kIn(I:Inv X ρ σ H s):X.K.In s.heap:=I.ok.mod.kin.keeps I.bk
def Inv.lt(I:Inv X ρ σ H s):X.env.locals<s.heap.objs.size:=let⟨_,hn,_⟩:=I.loc;hn.lt
def Inv.sz(I:Inv X ρ σ H s):X.s₀.heap.objs.size<=s.heap.objs.size:=zau I.ok.above (Nat.le_of_lt I.lt)
def Inv.nofs(I:Inv X ρ σ H s)(h:s.heap.objs.size<=a):a∉X.fs:=λhb=>by
 obtain⟨_,o,ho,_⟩:=I.ok.funs.mem hb;exact absurd (zag (zal ho) (zau I.sz h)) (zaH _)
def Inv.cne(I:Inv X ρ σ H s):∀x c,X.env.cells.lookup x=some c->c≠X.env.locals:=λx c e z=>by
 obtain⟨v,o,ho,hd⟩:=I.cell x c e;obtain⟨m,⟨o',es,ep,ho',hd',_⟩,_⟩:=I.loc;rw[z,ho']at ho;cases ho;rw[hd']at hd;cases hd
theorem Inv.funs(I:Inv X ρ σ H s):s.heap.FunFrames X.base X.outer:=by
 have all:∀(l:List Env),(∀b∈frs l,b∈X.fs)->X.s₀.heap.FunFrames X.base l->s.heap.FunFrames X.base l:=by
  intro l
  induction l with
  |nil=>intro _ _;trivial
  |cons env r ih=>
   intro hs hl;obtain⟨hk,⟨L,o,hf,hn,ho,hd⟩,hr⟩:=hl;have hL:L∈X.fs:=hs L (by unfold frs;rw[List.filterMap_cons,hf];exact zaq);obtain⟨sl,e⟩:=I.base.slot L o ho (I.ok.frf L hL) hL λz=>I.ok.exfs L z hL;exact⟨hk,⟨L,_,hf,hn,e,hd⟩,ih (λb hb=>hs b (by unfold frs;rw[List.filterMap_cons,hf];exact zaj _ hb)) hr⟩
 exact all X.outer (λ_ hb=>hb) I.ok.funs
def Inv.stack(I:Inv X ρ σ H s):s.heap.FunFrames X.base X.stack:=by
 rcases I.ok.stk with e|⟨e,hf⟩
 .rw[e];exact I.funs
 .rw[e];obtain⟨m,hn,_⟩:=I.loc;refine .cons (by rw[I.ok.kind];decide) hf hn ?_ I.funs;exact Heap.get?_none_of_le (zau I.ok.bsz I.ok.above)
def Inv.stkSub(I:Inv X ρ σ H s):∀b∈frs X.stack,b∈X.env.locals::X.fs:=λb hb=>by
 rcases I.ok.stk with e|⟨e,hf⟩
 .rw[e]at hb;exact zaj _ hb
 .rw[e]at hb;unfold frs at hb;rw[List.filterMap_cons,hf]at hb;exact hb
def Inv.stkFree(I:Inv X ρ σ H s):∀b∈frs X.stack,H b=none:=λb hb=>by
 rcases zay.mp (I.stkSub b hb)with e|hb
 .rw[e];exact I.free
 .obtain⟨_,o,ho,_⟩:=I.ok.funs.mem hb;exact I.base.free b o ho (I.ok.frf b hb) λz=>I.ok.exfs b z hb
def Inv.step(I:Inv X ρ σ H s)
  (hch:∀b∈ch,(b∈X.ex\/X.s₀.heap.objs.size<=b)/\b≠X.env.locals/\(∀x c,X.env.cells.lookup x=some c->c≠b)/\∀p∈X.pn++ρ,p.1≠b)
  (keep:∀b o,b≠X.env.locals->b∉X.fs->b∉ch->s.heap.get? b=some o->H b=none->h'.get? b=some o)
  (slot:∀b o,b≠X.env.locals->b∈X.fs->b∉ch->s.heap.get? b=some o->H b=none->∃sl,h'.get? b=some { o with slots:=sl }) (free:∀b o,b∉ch->s.heap.get? b=some o->H b=none->H' b=none)
  (there:∀b o,b∉ch->s.heap.get? b=some o->∃o',h'.get? b=some o')
  (tups:∀b xs,H b=some (.tup xs)->H' b=some (.tup xs)) (frzs:∀b o u,H b=some (.frz o u)->H' b=some (.frz o u)) (tbls:∀b ps,H b=some (.tbl ps)->H' b=some (.tbl ps))
  (ns:∀m,s.heap.Ns X.env.locals m->h'.Ns X.env.locals m) (hok:HOk X.prog X.w H' h') (hg:AllBare g'):
  Inv X ρ σ H' { s with heap:=h',gens:=g',drawn:=d',toks:=t' }:=by
 have neL:∀b o,X.s₀.heap.get? b=some o->b≠X.env.locals:=λb o e=>zaw (zag (zal e) I.ok.above);have neC:∀b o,X.s₀.heap.get? b=some o->b∉X.ex->b∉ch:=λb o e hx hb=>by
  rcases(hch b hb).1 with z|z
  .exact hx z
  .exact absurd (zag (zal e) z) (zaH _)
 have cellK:∀x c,X.env.cells.lookup x=some c->∀v,s.heap.IsCell c v->h'.IsCell c v:=λx c e v ⟨o,ho,hd⟩=>by
  have nch:c∉ch:=λz=>(hch c z).2.2.1 x c e rfl;by_cases hc:c∈X.fs
  .obtain⟨sl,q⟩:=slot c o (I.cne x c e) hc nch ho (I.freeC x c e);exact⟨_,q,hd⟩
  .exact⟨o,keep c o (I.cne x c e) hc nch ho (I.freeC x c e),hd⟩
 refine⟨I.ok,I.os,hg,⟨λb o e n hb hx=>?_,λb o e n hb hx=>?_,λb o e n hx=>?_,λb o e hx=>?_,λb xs e=>tups b xs (I.base.tups b xs e),λb o xs e=>frzs b o xs (I.base.frzs b o xs e),λb ps e=>?_⟩,?_,λx c e=>?_,?_,λx c e=>?_,λp hp=>?_,hok,I.len,I.hid⟩
 .exact keep b o (neL b o e) hb (neC b o e hx) (I.base.keep b o e n hb hx) (I.base.free b o e n hx)
 .obtain⟨sl,e1⟩:=I.base.slot b o e n hb hx;obtain⟨sl',e2⟩:=slot b _ (neL b o e) hb (neC b o e hx) e1 (I.base.free b o e n hx);exact⟨sl',e2⟩
 .obtain⟨o',e1⟩:=I.base.there b o e hx;exact free b o' (neC b o e hx) e1 (I.base.free b o e n hx)
 .obtain⟨o',e1⟩:=I.base.there b o e hx;exact there b o' (neC b o e hx) e1
 .exact tbls b ps (I.base.tbls b ps e)
 .obtain⟨m,hn,hl⟩:=I.loc;refine⟨m,ns m hn,λi x v e1 e2 e3=>?_⟩;obtain⟨u,r,l⟩:=hl i x v e1 e2 e3;refine⟨u,r,?_⟩;rcases l with l|⟨k,c,e,z⟩
  .exact .inl l
  .exact .inr ⟨k,c,e,cellK x c e _ z⟩
 .obtain⟨v,z⟩:=I.cell x c e;exact⟨v,cellK x c e v z⟩
 .obtain⟨m,⟨o,_,_,ho,_⟩,_⟩:=I.loc;exact free _ o (λz=>(hch _ z).2.1 rfl) ho I.free
 .obtain⟨v,o,ho,hd⟩:=I.cell x c e;exact free c o (λz=>(hch c z).2.2.1 x c e rfl) ho (I.freeC x c e)
 .obtain⟨e,n,ne,nf,d⟩:=I.pin p hp;have nch:p.1∉ch:=λz=>(hch p.1 z).2.2.2 p hp rfl;exact⟨keep p.1 p.2 ne nf nch e n,free p.1 p.2 nch e n,ne,nf,d⟩
def Inv.un(I:Inv X ρ σ H s)(u:Un X.fs [] H H' s.heap h')(hok:HOk X.prog X.w H' h'):Inv X ρ σ H' { s with heap:=h',toks:=t' }:=by
 obtain⟨m,⟨o,es,ep,ho,r⟩,_⟩:=id I.loc;obtain⟨sl,hL⟩:=u.any ho I.free (by simp);exact I.step (g':=s.gens) (d':=s.drawn) (ch:=[]) (λ_ z=>nomatch z) (λb o _ hb _ e n=>u.keep b o e n hb (by simp)) (λb o _ hb _ e n=>u.slot b o e n hb (by simp)) (λb o _ e n=>u.free b o e n (by simp)) (λb o _ e=>u.there b o e (by simp)) u.tups u.frzs u.tbls (λm' hm=>by
  obtain⟨o',es',ep',ho',r'⟩:=hm;rw[ho]at ho';cases ho';exact⟨_,es',ep',hL,r'⟩) hok I.bare
def Inv.call(I:Inv X ρ σ H s)(u:Un (frs X.stack) ch H H' s.heap h')(hok:HOk X.prog X.w H' h')(hg:AllBare g')
  (hch:∀b∈ch,(b∈X.ex\/X.s₀.heap.objs.size<=b)/\b≠X.env.locals/\(∀x c,X.env.cells.lookup x=some c->c≠b)/\∀p∈X.pn++ρ,p.1≠b):
  Inv X ρ σ H' { s with heap:=h',gens:=g',drawn:=d',toks:=t' }:=by
 obtain⟨m,⟨o,es,ep,ho,r⟩,_⟩:=id I.loc;obtain⟨sl,hL⟩:=u.any ho I.free λz=>(hch _ z).2.1 rfl;exact I.step (ch:=ch) hch (λb o hL hb hc e n=>u.keep b o e n (λz=>(zay.mp (I.stkSub b z)).elim hL hb) hc) (λb o _ _ hc e n=>u.any e n hc) (λb o hc e n=>u.free b o e n hc) (λb o hc e=>u.there b o e hc) u.tups u.frzs u.tbls (λm' hm=>by
  obtain⟨o',es',ep',ho',r'⟩:=hm;rw[ho]at ho';cases ho';exact⟨_,es',ep',hL,r'⟩) hok hg
def Inv.turned(I:Inv X ρ σ H s)(k:∀b o,b≠it->s.heap.get? b=some o->h'.get? b=some o)(hn:H it=none)(hL:it≠X.env.locals)
  (h1:it∈X.ex\/X.s₀.heap.objs.size<=it) (h2:∀x c,X.env.cells.lookup x=some c->c≠it) (h3:∀p∈X.pn++ρ,p.1≠it):Inv X ρ σ H { s with heap:=h',toks:=t' }:=by
 have nit:∀b u,H b=some u->b≠it:=λb u e z=>by rw[z,hn]at e;cases e
 refine I.step (g':=s.gens) (d':=s.drawn) (ch:=[it]) (λb hb=>?_) (λb o _ _ hc e _=>k b o (λz=>hc (by simp[z])) e) (λb o _ _ hc e _=>⟨o.slots,k b o (λz=>hc (by simp[z])) e⟩) (λ_ _ _ _ n=>n)
  (λb o hc e=>⟨o,k b o (λz=>hc (by simp[z])) e⟩) (λ_ _ e=>e) (λ_ _ _ e=>e) (λ_ _ e=>e) (λm hm=>?_) (λb u e=>?_) I.bare
 .have e:b=it:=by simpa using hb
  subst e;exact⟨h1,hL,h2,h3⟩
 .obtain⟨o,es,ep,ho,r⟩:=hm;exact⟨o,es,ep,k _ o (Ne.symm hL) ho,r⟩
 .refine(I.hok b u e).stay (λc v hc q=>k c v ?_ q) (λ_ q=>q) λ_ _ _ q=>q;rcases hc with z|z
  .rw[z];exact nit b u e
  .exact nit c _ z
def Inv.tok(I:Inv X ρ σ H s)(t:Nat):Inv X ρ σ H { s with toks:=t }:=I.un (h':=s.heap) (t':=t) Un.refl I.hok
def Inv.kept{t':Nat}(I:Inv X ρ σ H s)(k:∀b u,s.heap.get? b=some u->h'.get? b=some u):Inv X ρ σ H { s with heap:=h',toks:=t' }:=I.un (Un.kept k) (I.hok.kept k)
def Inv.laid{a:Addr}{o:HO}{t':Nat}(I:Inv X ρ σ H s)(k:∀b u,s.heap.get? b=some u->h'.get? b=some u)(hp:s.heap.objs.size<=a)(new:ObjOk X.prog X.w (upd H a o) h' a o):
  Inv X ρ σ (upd H a o) { s with heap:=h',toks:=t' }:=I.un (Un.laid k hp (I.hok.fresh hp)) (I.hok.laid k hp new)
def Inv.write{x e:Addr}{o:HO}{t':Nat}(I:Inv X ρ σ H s)(mu:Mut (H x))(he:e=x\/H e=some (.own x))(k:∀b u,b≠e->s.heap.get? b=some u->h'.get? b=some u)(heo:∃u,h'.get? e=some u)
  (new:ObjOk X.prog X.w (upd H x o) h' x o):Inv X ρ σ (upd H x o) { s with heap:=h',toks:=t' }:=I.un (Un.write mu he k heo) (I.hok.write mu he k heo new)
def Inv.pins_of{pins':List (Addr×Obj)}(I:Inv X ρ σ H s)(h:∀p∈pins',s.heap.get? p.1=some p.2/\H p.1=none/\p.1≠X.env.locals/\p.1∉X.fs/\∀v,p.2.data≠.cell v):Inv X pins' σ H s:=
 ⟨I.ok,I.os,I.bare,I.base,I.loc,I.cell,I.free,I.freeC,λp hp=>(zax.mp hp).elim (λz=>I.pin p (zbf _ z)) (h p),I.hok,I.len,I.hid⟩
def Inv.hidSet{w:Option V}(I:Inv X ρ σ H s)(hi:X.N[i]?=some x)(hx:Vis X.env.scope x):∀j u,X.hide j=some u->(∀v,(σ.set i w)[j]?=some (some v)->v=u)/\∀x,X.N[j]?=some x->¬Vis X.env.scope x:=λj u e=>by
 have ne:i≠j:=λz=>by
  subst z;exact(I.hid i u e).2 x hi hx
 exact⟨λv q=>(I.hid j u e).1 v (by rwa[zaN ne]at q),(I.hid j u e).2⟩
def tI(hN:N.Nodup)(a:N[i]?=some x)(b:N[j]?=some x):i=j:=by
 obtain⟨h1,e1⟩:=zah.mp a;obtain⟨h2,e2⟩:=zah.mp b;exact(List.getElem_inj hN).mp (e1.trans e2.symm)
def qS{v:V}{Q:Unit->Shared->Prop}(I:Inv X ρ σ H s)(hN:X.N.Nodup)(hi:X.N[i]?=some x)(hx:Loc X.env.scope x)(r:RelV v u)
  (h:∀s',Inv X ρ (σ.set i (some v)) H s'->(∃a,Heap.SameBut a s.heap s'.heap/\(a=X.env.locals\/X.env.cells.lookup x=some a))->Q () s') (hf:X.fn x=true\/X.env.scope.names.lookup x=some .local:=by first|exact .inl rfl|exact .inr rfl|assumption):wpAny M A (storeName X.env x u) Q E s:=by
 obtain⟨m,hn,hl⟩:=id I.loc;have hcls:(X.env.scope.kind==.class || (X.env.scope.kind==.module&&X.env.locals != X.env.globals))=false:=by rw[I.ok.kind];rfl
 have hiσ:i<σ.length:=by rw[I.len];exact(zah.mp hi).1
 have cne:=I.cne;have f':∀{a:Addr} {h':Heap},(∃o,s.heap.get? a=some o/\H a=none)->Heap.SameBut a s.heap h'->HOk X.prog X.w H h':=λ{a h'} ha hs b ob e=>by
  obtain⟨_,_,hfree⟩:=ha;refine(I.hok b ob e).stay (λc w' hc q=>(hs.2 c ?_).trans q) (λ_ q=>q) λ_ _ _ q=>q;rintro rfl;rcases hc with rfl|hc
  .rw[hfree]at e;cases e
  .rw[hfree]at hc;cases hc
 rcases hx with hk|hk
 .refine wpAny_storeName_local hk hn (λh' hn' hs=>?_) hcls;obtain⟨oL,_,_,hoL,_⟩:=id hn;refine h _ ⟨I.ok,I.os,I.bare,⟨λb o e n hb hx=>?_,λb o e n hb hx=>?_,I.base.free,λb o e hx=>?_,I.base.tups,I.base.frzs,I.base.tbls⟩,⟨_,hn',λj y v' e1 e2 e3=>?_⟩,λy c e=>?_,I.free,I.freeC,λp hp=>?_,f' ⟨oL,hoL,I.free⟩ hs,by simpa using I.len,I.hidSet hi (.inl hk)⟩ ⟨_,hs,.inl rfl⟩
  .exact(hs.2 b (zaw (zag (zal e) I.ok.above))).trans (I.base.keep b o e n hb hx)
  .obtain⟨sl,e1⟩:=I.base.slot b o e n hb hx;exact⟨sl,(hs.2 b (zaw (zag (zal e) I.ok.above))).trans e1⟩
  .obtain⟨o',e1⟩:=I.base.there b o e hx;exact⟨o',(hs.2 b (zaw (zag (zal e) I.ok.above))).trans e1⟩
  .by_cases hj:j=i
   .subst hj;rw[hi]at e1;cases e1;rw[zaO hiσ]at e2;cases e2;exact⟨u,r,.inl ⟨hk,by simp⟩⟩
   .rw[zaN (Ne.symm hj)]at e2;obtain⟨u',r',q⟩:=hl j y v' e1 e2 e3;refine⟨u',r',?_⟩;rcases q with⟨k,e⟩|⟨k,c,e,z⟩
    .refine .inl ⟨k,?_⟩
     have:y≠x:=λe=>hj (tI hN e1 (e▸hi));simp[this,e]
    .exact .inr ⟨k,c,e,z.sameBut hs (cne y c e)⟩
  .obtain⟨w',z⟩:=I.cell y c e;exact⟨w',z.sameBut hs (cne y c e)⟩
  .obtain⟨e,n,ne,nf,d⟩:=I.pin p hp;exact⟨(hs.2 p.1 ne).trans e,n,ne,nf,d⟩
 .have hfn:X.fn x=true:=by
   rcases hf with z|z
   .exact z
   .rw[z]at hk;cases hk
  obtain⟨c,hc⟩:=I.ok.has x (.inl hk);obtain⟨w',z⟩:=I.cell x c hc;refine wpAny_storeName_cell I.ok.kind hk hc z (λh' hc' hs=>?_);obtain⟨oc,hoc,hocd⟩:=id z;refine h { s with heap:=h' } ⟨I.ok,I.os,I.bare,⟨λb o e n hb hx=>?_,λb o e n hb hx=>?_,I.base.free,λb o e hx=>?_,I.base.tups,I.base.frzs,I.base.tbls⟩,⟨m,hn.sameBut hs (Ne.symm (cne x c hc)),λj y v' e1 e2 e3=>?_⟩,λy c' e=>?_,I.free,I.freeC,λp hp=>?_,f' ⟨oc,hoc,I.freeC x c hc⟩ hs,by simpa using I.len,I.hidSet hi (.inr (.inl hk))⟩ ⟨c,hs,.inr hc⟩
  .exact(hs.2 b (zaw (zag (zal e) (I.ok.cab x c hfn hc)))).trans (I.base.keep b o e n hb hx)
  .obtain⟨sl,e1⟩:=I.base.slot b o e n hb hx;exact⟨sl,(hs.2 b (zaw (zag (zal e) (I.ok.cab x c hfn hc)))).trans e1⟩
  .obtain⟨o',e1⟩:=I.base.there b o e hx;exact⟨o',(hs.2 b (zaw (zag (zal e) (I.ok.cab x c hfn hc)))).trans e1⟩
  .by_cases hj:j=i
   .subst hj;rw[hi]at e1;cases e1;rw[zaO hiσ]at e2;cases e2;exact⟨u,r,.inr ⟨.inl hk,c,hc,hc'⟩⟩
   .rw[zaN (Ne.symm hj)]at e2;obtain⟨u',r',q⟩:=hl j y v' e1 e2 e3;refine⟨u',r',?_⟩;rcases q with q|⟨k,c',e,z'⟩
    .exact .inl q
    .refine .inr ⟨k,c',e,z'.sameBut hs ?_⟩;rintro rfl;exact hj (tI hN e1 (I.ok.inj _ _ _ e hc▸hi))
  .by_cases hcc:c'=c
   .subst hcc;exact⟨_,hc'⟩
   .obtain⟨w2,z2⟩:=I.cell y c' e;exact⟨w2,z2.sameBut hs hcc⟩
  .obtain⟨e,n,ne,nf,d⟩:=I.pin p hp;refine⟨(hs.2 p.1 ?_).trans e,n,ne,nf,d⟩;intro q;rw[q,hoc]at e;have q':oc=p.2:=zat e;exact d w' (by rw[<-q'];exact hocd)
def sO{v:V}{Q:Unit->Shared->Prop}(I:Inv X ρ σ H s)(hN:X.N.Nodup)(hi:X.N[i]?=some x)(hx:Loc X.env.scope x)(r:RelV v u)
  (h:∀s',Inv X ρ (σ.set i (some v)) H s'->Q () s') (hf:X.fn x=true\/X.env.scope.names.lookup x=some .local:=by first|exact .inl rfl|exact .inr rfl|assumption):wpAny M A (storeName X.env x u) Q E s:=
 qS I hN hi hx r (λs' I' _=>h s' I') hf
def Inv.call'(I:Inv X ρ σ H s)(ho:s'.os=s.os)(u:Un (frs X.stack) ch H H' s.heap s'.heap)(hok:HOk X.prog X.w H' s'.heap)(hg:AllBare s'.gens)
  (hch:∀b∈ch,(b∈X.ex\/X.s₀.heap.objs.size<=b)/\b≠X.env.locals/\(∀x c,X.env.cells.lookup x=some c->c≠b)/\∀p∈X.pn++ρ,p.1≠b):Inv X ρ σ H' s':=by
 obtain⟨h',g',d',t',o'⟩:=s';have e:o'=s.os:=ho;subst e;exact I.call (g':=g') (t':=t') (d':=d') u hok hg hch
end
abbrev XK:=Value->Option Addr->Hp->Prop
abbrev St:=List (Option V)
variable{σ:St}
abbrev VK:=V->Hp->Prop
abbrev TE:=St->Hp->VK->Prop
variable{ta tb t te:TE}
abbrev TT:=St->Hp->(Bool->Hp->Prop)->Prop
variable{tc:TT}
abbrev TA:=St->Hp->(List V->Hp->Prop)->Prop
structure Ends where
 nx:St->Hp->Prop
 rt:VK
 bk:St->Hp->Prop:=λ_ _=>False
 ct:St->Hp->Prop:=λ_ _=>False
abbrev TS:=Ends->St->Hp->Prop
inductive EP(X:Cx)(ρ:List (Addr×Obj))(σ:St)(Q:VK)(u:Value)(s':Shared):Prop
 |mk (v:V) (H':Hp) (I:Inv X ρ σ H' s') (r:RelV v u) (q:Q v H')
inductive TP(X:Cx)(ρ:List (Addr×Obj))(σ:St)(Q:Bool->Hp->Prop)(b:Bool)(s':Shared):Prop
 |mk (H':Hp) (I:Inv X ρ σ H' s') (q:Q b H')
inductive AP(X:Cx)(ρ:List (Addr×Obj))(σ:St)(Q:List V->Hp->Prop)(us:List Value)(s':Shared):Prop
 |mk (vs:List V) (H':Hp) (I:Inv X ρ σ H' s') (r:Vals vs us) (q:Q vs H')
inductive SP1(X:Cx)(ρ:List (Addr×Obj))(N:St->Hp->Prop)(s':Shared):Prop
 |mk (σ':St) (H':Hp) (I:Inv X ρ σ' H' s') (q:N σ' H')
inductive SP2(X:Cx)(ρ:List (Addr×Obj))(N:VK)(u:Value)(s':Shared):Prop
 |mk (v:V) (σ':St) (H':Hp) (I:Inv X ρ σ' H' s') (r:RelV v u) (q:N v H')
def SP(X:Cx)(ρ:List (Addr×Obj))(D:Ends)(f:Flow)(s':Shared):Prop:=
 match f with
 |.next=>SP1 X ρ D.nx s'
 |.brk=>SP1 X ρ D.bk s'
 |.cont=>SP1 X ρ D.ct s'
 |.ret u=>SP2 X ρ D.rt u s'
def PE(X:Cx)(e:Expr)(t:TE):Prop:=
 ∀(ρ:List (Addr×Obj)) (s:Shared) (σ:St) (H:Hp) (Q:VK),Inv X ρ σ H s->t σ H Q->wpAny (model X.prog X.w) X.A (eval e X.env) (EP X ρ σ Q) X.xe s
structure QE(X:Cx)(e:Expr)(t:TE):Prop where
 h:PE X e t
def PT(X:Cx)(e:Expr)(t:TT):Prop:=
 ∀(ρ:List (Addr×Obj)) (s:Shared) (σ:St) (H:Hp) (Q:Bool->Hp->Prop),Inv X ρ σ H s->t σ H Q->wpAny (model X.prog X.w) X.A (isTrue e X.env (eval e X.env)) (TP X ρ σ Q) X.xe s
structure QT(X:Cx)(e:Expr)(t:TT):Prop where
 h:PT X e t
def PW(X:Cx)(e:Expr)(t:TT):Prop:=
 ∀(χ:Sem Value) (ρ:List (Addr×Obj)) (s:Shared) (σ:St) (H:Hp) (Q:Bool->Hp->Prop),Inv X ρ σ H s->t σ H Q->wpAny (model X.prog X.w) X.A (isTrue e X.env χ) (TP X ρ σ Q) X.xe s
structure QW(X:Cx)(e:Expr)(t:TT):Prop where
 h:PW X e t
def PW.pt{t:TT}(h:PW X e t):PT X e t:=h _
def PA(X:Cx)(es:List Expr)(t:TA):Prop:=
 ∀(pos:Pos) (ρ:List (Addr×Obj)) (s:Shared) (σ:St) (H:Hp) (Q:List V->Hp->Prop),Inv X ρ σ H s->t σ H Q->wpAny (model X.prog X.w) X.A (spliced (backTo pos (starEach es X.env))) (AP X ρ σ Q) X.xe s
structure QA(X:Cx)(e:List Expr)(t:TA):Prop where
 h:PA X e t
def PS(X:Cx)(st:Stmt)(t:TS):Prop:=
 ∀(ρ:List (Addr×Obj)) (s:Shared) (σ:St) (H:Hp) (D:Ends),Inv X ρ σ H s->t D σ H->wpAny (model X.prog X.w) X.A (exec st X.env) (SP X ρ D) X.xe s
structure QS(X:Cx)(e:Stmt)(t:TS):Prop where
 h:PS X e t
def PSs(X:Cx)(st:List Stmt)(t:TS):Prop:=
 ∀(ρ:List (Addr×Obj)) (s:Shared) (σ:St) (H:Hp) (D:Ends),Inv X ρ σ H s->t D σ H->wpAny (model X.prog X.w) X.A (execs st X.env) (SP X ρ D) X.xe s
structure QSs(X:Cx)(e:List Stmt)(t:TS):Prop where
 h:PSs X e t
def thn{α:Type}{t:Sem α}{Q Q':α->Shared->Prop}(h:wpAny M A t Q E s)(hQ:∀a s,Q a s->Q' a s):wpAny M A t Q' E s:=wpAny_mono h hQ λ_ _ x=>x
section
noncomputable def cV(i:Nat):TE:=λσ H Q=>∃v,σ[i]?=some (some v)/\Q v H
noncomputable def tC(v:V):TE:=λ_ H Q=>Q v H
def cg(hN:X.N[i]?=some x)(hv:Vis X.env.scope x)(hd:(x==("__debug__":Str))=false:=by decide)(hcd:(x==("__classdict__":Str))=false:=by decide):PE X (.Name x pos) (cV i):=by
 intro ρ s σ H Q I h;obtain⟨v,e,h⟩:=h;obtain⟨m,hn,hl⟩:=I.loc;obtain⟨u,r,l⟩:=hl i x v hN e hv;have fin:EP X ρ σ Q u s:=⟨v,H,I,r,h⟩;rcases l with⟨hk,hm⟩|⟨hk,c,hc,hcell⟩
 .exact wpAny_Name (wpAny_loadName_local I.ok.kind hk hn hm fin) hd
 .rcases hk with hk|hk
  .exact wpAny_Name (wpAny_loadName_cell I.ok.kind hk hc hcell fin) hd
  .exact wpAny_Name (wpAny_loadName_free I.ok.kind hk hc hcell fin hcd) hd
def pe_int{i j pos}:PE X (.Constant (.int i) j pos) (tC (.int i)):=λ_ _ _ H _ I h=>wpAny_Constant_int ⟨.int i,H,I.tok _,⟨_,rfl⟩,h⟩
def pe_bl{b j pos}:PE X (.Constant (.bool b) j pos) (tC (.bl b)):=λ_ _ _ H _ I h=>Constant_bool ⟨.bl b,H,I,rfl,h⟩
def pe_non{j pos}:PE X (.Constant .none j pos) (tC .non):=λ_ _ _ H _ I h=>Constant_none ⟨.non,H,I,rfl,h⟩
def pe_str{x j pos}:PE X (.Constant (.str x) j pos) (tC (.str x)):=λ_ _ _ H _ I h=>Calls.Constant_str ⟨.str x,H,I.tok _,⟨_,rfl⟩,h⟩
def Gl(X:Cx)(x:Str):Prop:=X.env.kindOf x=some .globalImplicit
def v3(I:Inv X ρ σ H s)(hg:Gl X x)(hm:X.mg x=some u)(h:Q u s)
  (hd:(x==("__debug__":Str))=false:=by decide):wpAny (model X.prog X.w) X.A (eval (.Name x pos) X.env) Q E s:=
 Calls.Name_function_global I.ok.kind hg (Calls.loadGlobal_global (by rw[I.ok.glob];exact I.mod.glob.keeps I.bk) hm h) hd
def jQ(I:Inv X ρ σ H s)(hg:Gl X x)(hm:X.mg x=none)(hv:bootBuiltins x=some u)(h:Q u s)
  (hn:x≠"__name__":=by decide) (hd:(x==("__debug__":Str))=false:=by decide):wpAny (model X.prog X.w) X.A (eval (.Name x pos) X.env) Q E s:=by
 obtain⟨mb,h1,h2⟩:=I.mod.blt;exact Calls.Name_function_global I.ok.kind hg (Calls.loadGlobal_builtin (by rw[I.ok.glob];exact I.mod.glob.keeps I.bk) hm (by rw[I.ok.blt];exact h1.keeps I.bk) ((h2 x hn).trans hv) h) hd
def Fy{v:V}(hg:Gl X x)(hm:X.mg x=none)(hv:bootBuiltins x=some u)(r:RelV v u)(hn:x≠"__name__":=by decide)(hd:(x==("__debug__":Str))=false:=by decide):PE X (.Name x pos) (tC v):=
 λ_ _ _ H _ I h=>jQ I hg hm hv ⟨v,H,I,r,h⟩ hn hd
variable{a b:Expr} 
def PC(X:Cx)(op:CmpOp)(a b:Expr)(t:TE):Prop:=
 ∀(ρ:List (Addr×Obj)) (s:Shared) (σ:St) (H:Hp) (Q:VK),Inv X ρ σ H s->t σ H Q ->
  wpAny (model X.prog X.w) X.A (eval a X.env) (λv s₁=>wpAny (model X.prog X.w) X.A (eval b X.env) (λu s₂=>wpAny (model X.prog X.w) X.A (compareOp op v u) (EP X ρ σ Q) X.xe s₂) X.xe s₁) X.xe s
def A1(b:Expr)(h:op≠.In)(h2:op≠.NotIn):behindInMarks op b=false:=by
 have e1:(op==CmpOp.In)=false:=by cases op<;>first|rfl|exact absurd rfl h
 have e2:(op==CmpOp.NotIn)=false:=by cases op<;>first|rfl|exact absurd rfl h2
 cases b<;>simp[behindInMarks,e1,e2]
noncomputable def tB(t:TE):TT:=λσ H Q=>t σ H λx H1=>∃c,x=.bl c/\Q c H1
def yE(h:PC X op a b t)(h1:behindInMarks op b=false:=by first|exact A1 _ (by decide) (by decide)|rfl):PT X (.Compare a [op] [b] pos) (tB t):=by
 intro ρ s σ H Q I hw;refine wpAny_isTrue_Compare1 (thn (h ρ s σ H _ I hw) λv s1 h1=>thn h1 λu s2 h2=>thn h2 λc s3 ⟨x,H1,I1,r1,q1⟩=>?_) h1;obtain⟨d,rfl,q⟩:=q1;cases r1;exact zby ⟨H1,I1,q⟩
def Js(h:PE X e t)(he:∀χ,isTrue e X.env χ=(do let v <-χ;standAt e.pos;holding [v] (truthy v)):=by intro _;rfl):PT X e (tB t):=by
 intro ρ s σ H Q I hw;refine isTrue_plain (thn (h ρ s σ H _ I hw) λv s1 ⟨x,H1,I1,r1,q1⟩=>?_) (he _);obtain⟨d,rfl,q⟩:=q1;cases r1;exact zby ⟨H1,I1,q⟩
variable{tA tB':TT}{rest:List Expr}
noncomputable def Je(t u:TT):TT:=λσ H Q=>t σ H λc H1=>if c=true then u σ H1 Q else Q false H1
noncomputable def tOr(t u:TT):TT:=λσ H Q=>t σ H λc H1=>if c=true then Q true H1 else u σ H1 Q
noncomputable def Ja(t:TT):TT:=λσ H Q=>t σ H λc H1=>Q (!c) H1
def Fe(ha:PT X a tA):PW X (.BoolOp .And [a] pos) tA:=by
 intro wh ρ s σ H Q I h;refine isTrue_and (thn (ha ρ s σ H Q I h) λc s1 e=>?_);cases c with
 |true=>exact isTrue_and_nil e
 |false=>exact e
def Jq(ha:PT X a tA):PW X (.BoolOp .Or [a] pos) tA:=by
 intro wh ρ s σ H Q I h;refine isTrue_or (thn (ha ρ s σ H Q I h) λc s1 e=>?_);cases c with
 |false=>exact isTrue_or_nil e
 |true=>exact e
def Jr(ha:PT X a tA)(hb:PW X (.BoolOp .And (b::rest) pos) tB'):PW X (.BoolOp .And (a::b::rest) pos) (Je tA tB'):=by
 intro wh ρ s σ H Q I h;refine isTrue_and (thn (ha ρ s σ H _ I h) λc s1 ⟨H1,I1,q1⟩=>?_);cases c with
 |true=>exact hb wh ρ s1 σ H1 Q I1 q1
 |false=>exact⟨H1,I1,q1⟩
def K8(ha:PT X a tA)(hb:PW X (.BoolOp .Or (b::rest) pos) tB'):PW X (.BoolOp .Or (a::b::rest) pos) (tOr tA tB'):=by
 intro wh ρ s σ H Q I h;refine isTrue_or (thn (ha ρ s σ H _ I h) λc s1 ⟨H1,I1,q1⟩=>?_);cases c with
 |true=>exact⟨H1,I1,q1⟩
 |false=>exact hb wh ρ s1 σ H1 Q I1 q1
def Ju(ha:PT X a tA):PT X (.UnaryOp .Not a pos) (Ja tA):=by
 intro ρ s σ H Q I h;exact isTrue_not (thn (ha ρ s σ H (λc H1=>Q (!c) H1) I h) λ_ _ ⟨H1,I1,q⟩=>⟨H1,I1,q⟩)
noncomputable def Eo(ta tb:TE):TE:=λσ H Q=>ta σ H λx H1=>∃c,x=.bl c/\if c=true then tb σ H1 Q else Q (.bl false) H1
noncomputable def Eh(ta:TE):TE:=λσ H Q=>ta σ H λx H1=>∃c,x=.bl c/\Q (.bl (!c)) H1
def JB{op}(h:PE X a t):PE X (.BoolOp op [a] pos) t:=λρ s σ H Q I hw=>BoolOp_one (h ρ s σ H Q I hw)
def JE(ha:PE X a ta)(hb:PE X (.BoolOp .And (b::rest) pos) tb):PE X (.BoolOp .And (a::b::rest) pos) (Eo ta tb):=by
 intro ρ s σ H Q I h;refine BoolOp_and (thn (ha ρ s σ H _ I h) λv s1 ⟨x,H1,I1,r1,q1⟩=>?_);obtain⟨c,rfl,q1⟩:=q1;cases r1;refine zby ?_;cases c with
 |true=>exact hb ρ s1 σ H1 Q I1 q1
 |false=>exact⟨.bl false,H1,I1,rfl,q1⟩
def JC(ha:PE X a ta):PE X (.UnaryOp .Not a pos) (Eh ta):=by
 intro ρ s σ H Q I h;refine UnaryOp_ (thn (ha ρ s σ H _ I h) λv s1 ⟨x,H1,I1,r1,q1⟩=>?_);obtain⟨c,rfl,q1⟩:=q1;cases r1;exact not_of (zby ⟨.bl (!c),H1,I1,rfl,q1⟩)
noncomputable def tIf(t:TT)(ta tb:TE):TE:=λσ H Q=>t σ H λc H1=>if c=true then ta σ H1 Q else tb σ H1 Q
def AW(hc:PT X c tA)(ha:PE X a ta)(hb:PE X b tb):PE X (.IfExp c a b pos) (tIf tA ta tb):=by
 intro ρ s σ H Q I h;refine wpAny_IfExp (thn (hc ρ s σ H _ I h) λd s1 ⟨H1,I1,q1⟩=>?_);cases d with
 |true=>exact ha ρ s1 σ H1 Q I1 q1
 |false=>exact hb ρ s1 σ H1 Q I1 q1
end
def SqL(K:zbU)(H:Hp)(a:Addr)(xs:List V):Prop:=
 Rd H a (.lst xs) \/
  ∃(o:Obj) (its:Array Value) (n:Nat),K.lookup a=some o/\o.cls=.type "list"/\o.dict=none/\o.data=.seq its n/\its.size<=sizeLine/\Vals xs its.toList
def SqT(K:zbU)(H:Hp)(a:Addr)(xs:List V):Prop:=
 Rd H a (.tup xs) \/
  ∃(o:Obj) (its:Array Value) (n:Nat),K.lookup a=some o/\o.cls=.type "tuple"/\o.data=.seq its n/\its.size<=sizeLine/\Vals xs its.toList
noncomputable def Ma:Value->Option V
 |.none=>some .non
 |.bool b=>some (.bl b)
 |.int i _=>some (.int i)
 |.str x _=>some (.str x)
 |.bytes b _=>some (.byt b)
 |.float b _=>some (.flt b)
 |.ref a=>some (.ref a)
 |.type n=>some (.ty n)
 |_=>none
def RelV.abs{x:V}(r:RelV x u):Ma u=some x:=by
 cases x with
 |non=>cases r;rfl
 |bl _=>cases r;rfl
 |int _=>obtain⟨t,rfl⟩:=r;rfl
 |str _=>obtain⟨t,rfl⟩:=r;rfl
 |byt _=>obtain⟨t,rfl⟩:=r;rfl
 |flt _=>obtain⟨t,rfl⟩:=r;rfl
 |ref _=>cases r;rfl
 |ty _=>cases r;rfl
def RelV.inj{x:V}(r:RelV x u)(q:RelV y u):x=y:=zat (r.abs.symm.trans q.abs)
theorem Vals.inj:∀{xs ys:List V} {us:List Value},Vals xs us->Vals ys us->xs=ys
 |_,_,_,.nil,.nil=>rfl
 |_,_,_,.cons r t,.cons r' t'=>by rw[r.inj r',Vals.inj t t']
section
variable{xs ys:List V}
def SqL.of(h:H a=some (.lst xs)):SqL K H a xs:=.inl (.inl h)
def SqT.of(h:H a=some (.tup xs)):SqT K H a xs:=.inl (.inl h)
def Inv.list(I:Inv X ρ σ H s)(h:SqL X.K H a xs):∃its:List Value,Vals xs its/\PlainL s.heap a its.toArray/\xs.length<=sizeLine:=by
 rcases h with h|⟨o,its,n,hk,hc,hd,hs,hz,r⟩
 .obtain⟨z,its,n,r,e⟩:=h.ok I.hok;exact⟨its,r,⟨_,n,e,rfl,rfl,rfl⟩,z⟩
 .refine⟨its.toList,r,⟨o,n,I.kIn a o hk,hc,hd,by simpa using hs⟩,?_⟩;have e:=r.length;simp only[zaX]at e
  lia
def Inv.tuple(I:Inv X ρ σ H s)(h:SqT X.K H a xs):∃its:List Value,Vals xs its/\IsTup s.heap a its.toArray/\xs.length<=sizeLine:=by
 rcases h with h|⟨o,its,n,hk,hc,hs,hz,r⟩
 .obtain⟨z,its,r,p⟩:=h.ok I.hok;exact⟨its,r,p.tup,z⟩
 .refine⟨its.toList,r,⟨o,I.kIn a o hk,hc,n,by simpa using hs⟩,?_⟩;have e:=r.length;simp only[zaX]at e
  lia
def Inv.list_inj(I:Inv X ρ σ H s)(h:SqL X.K H a xs)(h':SqL X.K H a ys):xs=ys:=by
 obtain⟨its,r,⟨o,n,e,_,_,d⟩,_⟩:=I.list h;obtain⟨its',r',⟨o',n',e',_,_,d'⟩,_⟩:=I.list h';rw[e]at e';cases e';rw[d]at d';injection d' with d1 _
 have:its=its':=by simpa using congrArg Array.toList d1
 subst this;exact r.inj r'
def Inv.tuple_inj(I:Inv X ρ σ H s)(h:SqT X.K H a xs)(h':SqT X.K H a ys):xs=ys:=by
 obtain⟨its,r,⟨o,e,_,n,d⟩,_⟩:=I.tuple h;obtain⟨its',r',⟨o',e',_,n',d'⟩,_⟩:=I.tuple h';rw[e]at e';cases e';rw[d]at d';injection d' with d1 _
 have:its=its':=by simpa using congrArg Array.toList d1
 subst this;exact r.inj r'
end
abbrev Cx.wish(X:Cx)(E:Value->Shared->Prop):Cx:={ X with xe:=E }
abbrev Cx.nox(X:Cx):Cx:=X.wish λ_ _=>False
def Cx.Ok.wish(ok:X.Ok)(E:Value->Shared->Prop):(X.wish E).Ok:=
 ⟨ok.mod,ok.kind,ok.glob,ok.blt,ok.above,ok.inj,ok.has,ok.cab,ok.hd,ok.frames,ok.stk,ok.exf,ok.bs,ok.bsz,ok.noex,ok.exfs,ok.funs,ok.frf,ok.reg⟩
def Cx.Ok.unwish(ok:(X.wish E).Ok):X.Ok:=
 ⟨ok.mod,ok.kind,ok.glob,ok.blt,ok.above,ok.inj,ok.has,ok.cab,ok.hd,ok.frames,ok.stk,ok.exf,ok.bs,ok.bsz,ok.noex,ok.exfs,ok.funs,ok.frf,ok.reg⟩
def Inv.wish(I:Inv X ρ σ H s)(E:Value->Shared->Prop):Inv (X.wish E) ρ σ H s:=⟨I.ok.wish E,I.os,I.bare,I.base,I.loc,I.cell,I.free,I.freeC,I.pin,I.hok,I.len,I.hid⟩
def Inv.unwish(I:Inv (X.wish E) ρ σ H s):Inv X ρ σ H s:=⟨I.ok.unwish,I.os,I.bare,I.base,I.loc,I.cell,I.free,I.freeC,I.pin,I.hok,I.len,I.hid⟩
theorem SP.unwish{D:Ends}{f:Flow}{s':Shared}(h:SP (X.wish E) ρ D f s'):SP X ρ D f s':=by
 cases f with
 |next=>obtain⟨σ',H',I,q⟩:=h;exact⟨σ',H',I.unwish,q⟩
 |brk=>obtain⟨σ',H',I,q⟩:=h;exact⟨σ',H',I.unwish,q⟩
 |cont=>obtain⟨σ',H',I,q⟩:=h;exact⟨σ',H',I.unwish,q⟩
 |ret u=>obtain⟨v,σ',H',I,r,q⟩:=h;exact⟨v,σ',H',I.unwish,r,q⟩
def PSs.nox{st:List Stmt}{t:TS}(h:PSs X.nox st t):PSs X st t:=λρ s σ H D I hw=>
 wpAny_mono (h ρ s σ H D (I.wish _) hw) (λ_ _ q=>q.unwish) λ_ _ z=>False.elim z
section
variable{st:Stmt}{rest:List Stmt}{t u:TS}  
def sg:TS:=λD σ H=>D.nx σ H
def p8(t u:TS):TS:=λD σ H=>t { D with nx:=u D } σ H
def pss_nil:PSs X [] sg:=λ_ _ σ H _ I h=>wpAny_execs_nil ⟨σ,H,I,h⟩
def kd(h1:PS X st t)(h2:PSs X rest u):PSs X (st::rest) (p8 t u):=by
 intro ρ s σ H D I h;refine wpAny_execs_cons (thn (h1 ρ s σ H { D with nx:=u D } I h) λf s1 q=>?_);cases f with
 |next=>
  obtain⟨σ',H',I',q⟩:=q;exact h2 ρ s1 σ' H' D I' q
 |ret v=>exact q
 |brk=>exact q
 |cont=>exact q
def qi(h1:PS X st t):PSs X [st] t:=by
 intro ρ s σ H D I h;refine wpAny_execs_cons (thn (h1 ρ s σ H D I h) λf s1 q=>?_);cases f with
 |next=>exact wpAny_execs_nil q
 |ret v=>exact q
 |brk=>exact q
 |cont=>exact q
noncomputable def yx:TS:=λD σ H=>D.bk σ H
def AR:PS X (.Break pos) yx:=λ_ _ σ H _ I h=>wpAny_Break ⟨σ,H,I,h⟩
def Inv.quiet(I:Inv X ρ σ H s):interactive X.env=false:=by simp[interactive,I.ok.kind]
def Em(te:TE):TS:=λD σ H=>te σ H λ_ H1=>D.nx σ H1
def Fk(he:PE X e te)(hs:swapsWith e none pos.line X.env=pure false:=by rfl):PS X (.Expr e pos) (Em te):=by
 intro ρ s σ H D I h;exact wpAny_Expr_any (thn (he ρ s σ H _ I h) λv s1 ⟨x,H1,I1,r1,q1⟩=>⟨σ,H1,I1,q1⟩) I.quiet hs
noncomputable def I0(te:TE):TS:=λD σ H=>te σ H D.rt
def Jw(he:PE X e te):PS X (.Return (some e) pos) (I0 te):=by
 intro ρ s σ H D I h;exact wpAny_Return_some (thn (he ρ s σ H _ I h) λv s1 ⟨x,H1,I1,r1,q1⟩=>⟨x,σ,H1,I1,r1,q1⟩)
noncomputable def AF(c:TT)(t u:TS):TS:=λD σ H=>c σ H λb H1=>if b=true then t D σ H1 else u D σ H1
def Ex{a b:List Stmt}(hc:PT X c tc)(ha:PSs X a t)(hb:PSs X b u):PS X (.If c a b pos) (AF tc t u):=by
 intro ρ s σ H D I h;refine wpAny_If (thn (hc ρ s σ H _ I h) λd s1 ⟨H1,I1,q1⟩=>?_);cases d with
 |true=>exact ha ρ s1 σ H1 D I1 q1
 |false=>exact hb ρ s1 σ H1 D I1 q1
noncomputable def yw:TS:=λ_ _ _=>False
def ps_never:PS X st yw:=λ_ _ _ _ _ _ h=>h.elim
end
abbrev TG:=V->St->Hp->(St->Hp->Prop)->Prop
abbrev TGs:=List V->St->Hp->(St->Hp->Prop)->Prop
def PG(X:Cx)(target:Expr)(t:TG):Prop:=
 ∀(ρ:List (Addr×Obj)) (s:Shared) (σ:St) (H:Hp) (v:V) (u:Value) (Q:St->Hp->Prop),Inv X ρ σ H s->RelV v u->t v σ H Q ->
  wpAny (model X.prog X.w) X.A (assign target X.env u) (λ_ s'=>SP1 X ρ Q s') X.xe s
structure QG(X:Cx)(e:Expr)(t:TG):Prop where
 h:PG X e t
def PGs(X:Cx)(ts:List Expr)(t:TGs):Prop:=
 ∀(ρ:List (Addr×Obj)) (s:Shared) (σ:St) (H:Hp) (vs:List V) (us:List Value) (Q:St->Hp->Prop),Inv X ρ σ H s->Vals vs us->t vs σ H Q ->
  wpAny (model X.prog X.w) X.A (assignInOrder ((assignEach ts X.env).map (·.2)) us) (λ_ s'=>SP1 X ρ Q s') X.xe s
structure QGs(X:Cx)(e:List Expr)(t:TGs):Prop where
 h:PGs X e t
abbrev B9:=V->V->V->Hp->(Hp->Prop)->Prop
def KO(X:Cx)(t:B9):Prop:=
 ∀(ρ:List (Addr×Obj)) (s:Shared) (σ:St) (H:Hp) (o i v:V) (ov iv u:Value) (Q:Hp->Prop),Inv X ρ σ H s->RelV o ov->RelV i iv->RelV v u->t o i v H Q ->
  wpAny (model X.prog X.w) X.A (setItem ov iv u) (λ_ s'=>∃H',Inv X ρ σ H' s'/\Q H') X.xe s
noncomputable def oZ(i:Nat):TG:=λv σ H Q=>Q (σ.set i (some v)) H
def Fs(hN:X.N.Nodup)(hi:X.N[i]?=some x)(hx:Loc X.env.scope x)(hf:X.fn x=true\/X.env.scope.names.lookup x=some .local:=by first|exact .inl rfl|exact .inr rfl|assumption):PG X (.Name x pos) (oZ i):=by
 intro ρ s σ H v u Q I r h;exact wpAny_assign_Name (sO I hN hi hx r (λs' I'=>⟨_,H,I',h⟩) hf)
noncomputable def Ke:TGs:=λvs σ H Q=>vs=[]/\Q σ H
noncomputable def EN(t:TG)(u:TGs):TGs:=λvs σ H Q=>∃v r,vs=v::r/\t v σ H λσ' H'=>u r σ' H' Q
def pgs_nil:PGs X [] Ke:=by
 intro ρ s σ H vs us Q I r h;obtain⟨e,h⟩:=h;subst e;cases r;exact assignInOrder_nil ⟨σ,H,I,h⟩
def AU{t:TG}{u:TGs}(h1:PG X e t)(h2:PGs X es u)
  (hs:(assignEach (e::es) X.env).map (·.2)=assign e X.env::(assignEach es X.env).map (·.2):=by rfl):PGs X (e::es) (EN t u):=by
 intro ρ s σ H vs us Q I r h;obtain⟨v,vr,e1,h⟩:=h;subst e1;cases r with
 |cons r rr=>
  rw[hs];refine assignInOrder_cons (thn (h1 ρ s σ H _ _ _ I r h) λ_ s1 ⟨σ1,H1,I1,q1⟩=>?_);exact h2 ρ s1 σ1 H1 _ _ Q I1 rr q1
noncomputable def Kb(K:zbU)(n:Nat)(t:TGs):TG:=λv σ H Q=>∃a xs,v=.ref a/\SqT K H a xs/\xs.length=n/\t xs σ H Q
def Jy{t:TGs}(hc:X.calm=true)(h:PGs X es t)
  (hn:(assignEach es X.env).length=n:=by rfl) (hst:(assignEach es X.env).findIdx? (·.1)=none:=by rfl):PG X (.Tuple es k pos) (Kb X.K n t):=by
 intro ρ s σ H v u Q I r hw;obtain⟨a,xs,e1,hq,hl,hw⟩:=hw;subst e1;cases r;obtain⟨its,rv,ht,hz⟩:=I.tuple hq;refine assign_Tuple_tuple (I.ok.hd hc) ht (by simp[hn,<-hl,rv.length]) hst λh' hx=>?_;have I1:Inv X ρ σ H { s with heap:=h' }:=I.kept (t':=s.toks) λb o e=>hx b o (zaw (zal e)) e;exact h ρ _ σ H xs _ Q I1 (by simpa using rv) hw
noncomputable def Kc(to ti:TE)(t:B9):TG:=λv σ H Q=>to σ H λo H1=>ti σ H1 λi H2=>t o i v H2 λH3=>Q σ H3
def Jz{o i:Expr}{to ti:TE}{t:B9}(ho:PE X o to)(hi:PE X i ti)(hs:KO X t)
  (ha:∀v,assign (.Subscript o i pos) X.env v=(do
   let ov <-holding [v] (eval o X.env)
   let iv <-holding [v,ov] (eval i X.env)
   standAt pos
   holding [v,ov,iv] (setItem ov iv v)
   release [v,ov,iv] []):=by intro _;rfl):PG X (.Subscript o i pos) (Kc to ti t):=by
 intro ρ s σ H v u Q I r h;rw[ha];refine zam (zbO (thn (ho ρ s σ H _ I h) λov s1 ⟨x,H1,I1,r1,q1⟩=>?_));refine zam (zbO (thn (hi ρ s1 σ H1 _ I1 q1) λiv s2 ⟨y,H2,I2,r2,q2⟩=>?_));refine zam (wpAny_standAt (zam (zbO (thn (hs ρ s2 σ H2 x y v ov iv u _ I2 r1 r2 r q2) λ_ s3 ⟨H3,I3,q3⟩=>?_))));exact wpAny_release ⟨σ,H3,I3,q3⟩
def sJ(te:TE)(g:TG):TS:=λD σ H=>te σ H λx H1=>g x σ H1 D.nx
def Jx{g:TG}(he:PE X e te)(hg:PG X tg g)(hs:swapsWithSole [tg] e pos.line X.env=pure false:=by rfl)(hw:swappedStores [tg] e X.env=pure none:=by rfl)
  (h1:(assignEach [tg] X.env).map (·.2)=[assign tg X.env]:=by rfl):PS X (.Assign [tg] e pos) (sJ te g):=by
 intro ρ s σ H D I h;refine wpAny_Assign_stores (thn (he ρ s σ H _ I h) λv s1 ⟨x,H1,I1,r1,q1⟩=>?_) hs hw;rw[h1];exact thn (hg ρ s1 σ H1 x v _ I1 r1 q1) λ_ s2 q=>q
def Jv(hN:X.N.Nodup)(hi:X.N[i]?=some x)(hx:Loc X.env.scope x)(he:PE X e te)(hs:swapsWith e (some (.Name x pos')) pos.line X.env=pure false:=by rfl)(hf:X.fn x=true\/X.env.scope.names.lookup x=some .local:=by first|exact .inl rfl|exact .inr rfl|assumption):
  PS X (.Assign [.Name x pos'] e pos) (sJ te (oZ i)):=by
 intro ρ s σ H D I h;refine wpAny_Assign_Name (thn (he ρ s σ H _ I h) λv s1 ⟨y,H1,I1,r1,q1⟩=>?_) hs;exact sO I1 hN hi hx r1 (λs2 I2=>⟨_,H1,I2,q1⟩) hf
def yv(c:TT)(tb:TS):TS:=λD σ H=>∃W:Nat->St->Hp->Prop,(∃m,W m σ H)/\∀m σ H,W m σ H ->
 c σ H λb H1=>if b=true then ∃N:St->Hp->Prop,(∀σ' H',N σ' H'->∃m',m'<m/\W m' σ' H')/\tb { D with nx:=N,ct:=N,bk:=D.nx } σ H1 else D.nx σ H1
def AQ{tb:TS}(hp:PassesOwn (model X.prog X.w) X.A X.env X.xe)(hc:PT X c tc)(hb:PSs X body tb):PS X (.While c body [] pos) (yv tc tb):=by
 intro ρ s σ H D I h;obtain⟨W,⟨m0,w0⟩,turn⟩:=h;refine wpAny_While (codeAny_whileLoop (λn s'=>SP1 X ρ (W n) s') ?_ m0 ⟨σ,H,I,w0⟩);rintro n s1 ⟨σ1,H1,I1,w1⟩;refine wpAny_passesOwn hp (thn (hc ρ s1 σ1 H1 _ I1 (turn n σ1 H1 w1)) λb s2 ⟨H2,I2,q2⟩=>?_);cases b with
 |true=>
  obtain⟨N,hN,q2⟩:=q2;rw[if_pos rfl];refine wpAny_passesOwn hp (thn (hb ρ s2 σ1 H2 _ I2 q2) λf s3 q3=>?_);cases f with
  |next=>
   obtain⟨σ3,H3,I3,n3⟩:=q3;obtain⟨m',hm,w3⟩:=hN σ3 H3 n3;exact⟨m',hm,σ3,H3,I3,w3⟩
  |cont=>
   obtain⟨σ3,H3,I3,n3⟩:=q3;obtain⟨m',hm,w3⟩:=hN σ3 H3 n3;exact⟨m',hm,σ3,H3,I3,w3⟩
  |brk=>exact q3
  |ret v=>exact q3
 |false=>
  rw[if_neg zbn];exact wpAny_execs_nil ⟨σ1,H2,I2,q2⟩
structure It where
 go:Nat->Hp->Prop
 yld:Nat->Hp->V->Hp->Prop
 stop:Nat->Hp->Prop
def gP(X:Cx)(ρ:List (Addr×Obj))(H:Hp)(b:Addr):Prop:=
 H b=none/\b≠X.env.locals/\b∉X.fs/\(b∈X.ex\/X.s₀.heap.objs.size<=b)/\(∀x c,X.env.cells.lookup x=some c->c≠b)/\∀p∈X.pn++ρ,p.1≠b
def Inv.fpOk(I:Inv X ρ σ H s)(hb:s.heap.objs.size<=b)(hn:H' b=none):gP X ρ H' b:=by
 refine⟨hn,Nat.ne_of_gt (zag I.lt hb),I.nofs hb,.inr (zau I.sz hb),λx c e z=>?_,λp hp z=>?_⟩
 .obtain⟨v,q⟩:=I.cell x c e;exact absurd (zag q.lt (by rw[z];exact hb)) (zaH _)
 .exact absurd (zag (zal (I.pin p hp).1) (by rw[z];exact hb)) (zaH _)
structure Turn(P:Program)(w:World)(K:zbU)(tg:Expr)(J:It)(fp:List Addr)(it:Addr)(tn:Nat->Heap->Prop):Prop where
 mem:it∈fp
 obj:∀i h,tn i h->∀b∈fp,∃o,h.get? b=some o/\∀v,o.data≠.cell v
 keep:∀i h h',tn i h->(∀b∈fp,∀o,h.get? b=some o->h'.get? b=some o)->tn i h'
 item:∀(X:Cx),X.prog=P->X.w=w->X.K=K->X.calm=true->∀(i:Nat) (ρ:List (Addr×Obj)) (s:Shared) (σ:St) (H:Hp) (E:Value->Shared->Prop),Inv X ρ σ H s->(∀b∈fp,gP X ρ H b)->tn i s.heap->J.go i H ->
  wpAny (model P w) X.A (pyNext (.ref it)) (λr s1=>∃u,r=some u /\
   wpAny (model P w) X.A (letOwnedTupleGo tg (.ref it) u) (λ_ s2=>∃x H',Inv X ρ σ H' s2/\RelV x u/\J.yld i H x H'/\tn (i+1) s2.heap/\∀b∈fp,H' b=none) E s1) E s
 done:∀(X:Cx),X.prog=P->X.w=w->X.K=K->X.calm=true->∀(i:Nat) (ρ:List (Addr×Obj)) (s:Shared) (σ:St) (H:Hp) (E:Value->Shared->Prop),Inv X ρ σ H s->(∀b∈fp,gP X ρ H b)->tn i s.heap->J.stop i H ->
  wpAny (model P w) X.A (pyNext (.ref it)) (λr s1=>r=none/\Inv X ρ σ H s1) E s
 self:∀(A:Around) (i:Nat) (s:Shared) (Q:Value->Shared->Prop) (E:Value->Shared->Prop),tn i s.heap->Q (.ref it) s->wpAny (model P w) A (pyIter (.ref it)) Q E s
abbrev TI:=St->Hp->(It->Hp->Prop)->Prop
def PIE(X:Cx)(ρ:List (Addr×Obj))(σ:St)(tg:Expr)(R:It->Hp->Prop)(itv:Value)(s2:Shared):Prop:=
 ∃(it:Addr) (fp:List Addr) (tn:Nat->Heap->Prop) (J:It) (H':Hp),itv=.ref it/\Inv X ρ σ H' s2/\Turn X.prog X.w X.K tg J fp it tn/\tn 0 s2.heap/\(∀b∈fp,gP X ρ H' b)/\R J H'
def PI(X:Cx)(tg iter:Expr)(wi:TI):Prop:=
 ∀(ρ:List (Addr×Obj)) (s:Shared) (σ:St) (H:Hp) (R:It->Hp->Prop),Inv X ρ σ H s->wi σ H R ->
  wpAny (model X.prog X.w) X.A (eval iter X.env) (λv s1=>wpAny (model X.prog X.w) X.A (pyIter v) (PIE X ρ σ tg R) X.xe s1) X.xe s
structure QI(X:Cx)(tg e:Expr)(t:TI):Prop where
 h:PI X tg e t
def sw{o:Obj}{n:String}{vs:Array Value}{Q:Unit->Shared->Prop}(ho:s.heap.get? it=some o)(hc:o.cls=.type n)(hd:o.data=.fields vs)
  (hn:["enumerate","zip","dict_itemiterator","dict_reverseitemiterator","odict_iterator","itertools.zip_longest","itertools.pairwise"].contains n=false) (hQ:Q () s):wpAny M A (letOwnedTupleGo tg (.ref it) u) Q E s:=by
 unfold letOwnedTupleGo;cases tg<;>first
  |exact zaS hQ
  | (cases u<;>first
    |exact zaS hQ
    | (refine zam (wpAny_load ho ?_)
       rw[hc,hd];show wpAny M A (if(["enumerate","zip","dict_itemiterator","dict_reverseitemiterator","odict_iterator","itertools.zip_longest","itertools.pairwise"].contains n&&vs[0]?==some (rawInt _))=true then _ else _) Q E s;rw[if_neg (by intro h;rw[hn,Bool.false_and]at h;cases h)];exact zaS hQ))
noncomputable def Itl(K:zbU)(a:Addr):It:=
 ⟨λi H=>∃xs x,SqL K H a xs/\xs[i]?=some x,λi H x H'=>H'=H/\∀xs,SqL K H a xs->xs[i]?=some x,λi H=>∃xs,SqL K H a xs/\xs.length<=i⟩
noncomputable def Itt(K:zbU)(a:Addr):It:=
 ⟨λi H=>∃xs x,SqT K H a xs/\xs[i]?=some x,λi H x H'=>H'=H/\∀xs,SqT K H a xs->xs[i]?=some x,λi H=>∃xs,SqT K H a xs/\xs.length<=i⟩
noncomputable def Itr(lo:Int)(n:Nat):It:=⟨λi _=>i<n,λi H x H'=>H'=H/\x=.int (lo+i),λi _=>n<=i⟩
def yr(a it:Addr):Turn P w K tg (Itl K a) [it] it (λi h=>h.IsListIter it a i) where
 mem:=by simp
 obj:=λi h st b hb=>by
  have e:b=it:=by simpa using hb
  subst e;obtain⟨o,e,c,d⟩:=st;exact⟨o,e,λv z=>by rw[d]at z;cases z⟩
 keep:=λi h h' st k=>st.at λo e=>k it (by simp) o e
 item:=by
  intro X hP hw hK hc i ρ s σ H E I hf st hg;subst hP hw hK;obtain⟨xs,x,hq,hx⟩:=hg;obtain⟨its,rv,p,hz⟩:=I.list hq;obtain⟨u,hu,ru⟩:=rv.get hx;obtain⟨f0,f1,f2,f3,f4,f5⟩:=hf it (by simp);refine wpAny_pyNext_list_item st p.isList (x:=u) (by simpa using hu) λh' st' sb=>?_;have I1:Inv X ρ σ H { s with heap:=h' }:=I.turned (t':=s.toks) (λb o hb e=>(sb.2 b hb).trans e) f0 f1 f3 f4 f5;obtain⟨o,e,c,d⟩:=id st';exact⟨u,rfl,sw (s:={ s with heap:=h' }) e c d (by decide) ⟨x,H,I1,ru,⟨rfl,λys hy=>by rw[I.list_inj hy hq];exact hx⟩,st',λb hb=>(hf b hb).1⟩⟩
 done:=by
  intro X hP hw hK hc i ρ s σ H E I hf st hg;subst hP hw hK;obtain⟨xs,hq,hx⟩:=hg;obtain⟨its,rv,p,hz⟩:=I.list hq;obtain⟨f0,f1,f2,f3,f4,f5⟩:=hf it (by simp);have hl:=rv.length;exact wpAny_pyNext_list_end (I.ok.hd hc) st p.isList (by simp;lia) λh' eb=>⟨rfl,I.turned (t':=s.toks) (λb o hb e=>eb b o hb e) f0 f1 f3 f4 f5⟩
 self:=λ_ _ _ _ _ st h=>wpAny_pyIter_listiter st h
def wD(a it:Addr):Turn P w K tg (Itt K a) [it] it (λi h=>h.IsTupleIter it a i) where
 mem:=by simp
 obj:=λi h st b hb=>by
  have e:b=it:=by simpa using hb
  subst e;obtain⟨o,e,c,d⟩:=st;exact⟨o,e,λv z=>by rw[d]at z;cases z⟩
 keep:=λi h h' st k=>st.at λo e=>k it (by simp) o e
 item:=by
  intro X hP hw hK hc i ρ s σ H E I hf st hg;subst hP hw hK;obtain⟨xs,x,hq,hx⟩:=hg;obtain⟨its,rv,p,hz⟩:=I.tuple hq;obtain⟨u,hu,ru⟩:=rv.get hx;obtain⟨f0,f1,f2,f3,f4,f5⟩:=hf it (by simp);refine wpAny_pyNext_tuple_item st (show s.heap.IsTuple a its.toArray from p) (x:=u) (by simpa using hu) λh' st' sb=>?_;have I1:Inv X ρ σ H { s with heap:=h' }:=I.turned (t':=s.toks) (λb o hb e=>(sb.2 b hb).trans e) f0 f1 f3 f4 f5;obtain⟨o,e,c,d⟩:=id st';exact⟨u,rfl,sw (s:={ s with heap:=h' }) e c d (by decide) ⟨x,H,I1,ru,⟨rfl,λys hy=>by rw[I.tuple_inj hy hq];exact hx⟩,st',λb hb=>(hf b hb).1⟩⟩
 done:=by
  intro X hP hw hK hc i ρ s σ H E I hf st hg;subst hP hw hK;obtain⟨xs,hq,hx⟩:=hg;obtain⟨its,rv,p,hz⟩:=I.tuple hq;obtain⟨f0,f1,f2,f3,f4,f5⟩:=hf it (by simp);have hl:=rv.length;exact wpAny_pyNext_tuple_end (I.ok.hd hc) st (show s.heap.IsTuple a its.toArray from p) (by simp;lia) λh' eb=>⟨rfl,I.turned (t':=s.toks) (λb o hb e=>eb b o hb e) f0 f1 f3 f4 f5⟩
 self:=λ_ _ _ _ _ st h=>wpAny_pyIter_tupleiter st h
def wE(it:Addr)(lo:Int)(n:Nat):Turn P w K tg (Itr lo n) [it] it (λi h=>IsRangeIter h it (lo+(i:Nat)*1) ((n:Int)-(i:Nat)) 1) where
 mem:=by simp
 obj:=λi h st b hb=>by
  have e:b=it:=by simpa using hb
  subst e;exact⟨_,st,λv z=>by
   have z':Data.fields _=Data.cell v:=z;cases z'⟩
 keep:=λi h h' st k=>k it (by simp) _ st
 item:=by
  intro X hP hw hK hc i ρ s σ H E I hf st hg;subst hP hw hK;obtain⟨f0,f1,f2,f3,f4,f5⟩:=hf it (by simp);have W:=Walks.range (prog:=X.prog) (w:=X.w) (I.ok.hd hc) it lo 1 n;refine W.item i s _ _ hg st λv h' tk hv st' kk=>?_;obtain⟨t,rfl⟩:=hv;have I1:Inv X ρ σ H { s with heap:=h',toks:=tk }:=I.turned (λb o hb e=>kk b o (by simpa using hb) e) f0 f1 f3 f4 f5;refine⟨_,rfl,sw (s:={ s with heap:=h',toks:=tk }) (n:="range_iterator") st' rfl rfl (by decide) ⟨.int (lo+i),H,I1,⟨t,?_⟩,⟨rfl,rfl⟩,st',λb hb=>(hf b hb).1⟩⟩;rw[Int.mul_one]
 done:=by
  intro X hP hw hK hc i ρ s σ H E I hf st hg;subst hP hw hK;obtain⟨f0,f1,f2,f3,f4,f5⟩:=hf it (by simp);exact wpAny_pyNext_range_end (I.ok.hd hc) st (by have:n<=i:=hg;lia) λh' eb=>⟨rfl,I.turned (t':=s.toks) (λb o hb e=>eb b o hb e) f0 f1 f3 f4 f5⟩
 self:=λ_ _ _ _ _ st h=>wpAny_pyIter_rangeiter st h
def AO{R:It->Hp->Prop}{lo hi:Int}{t u v:Tok}{tk:Nat}(I:Inv X ρ σ H s)(h1:-(2 ^ 62)<=lo)(h2:lo<2 ^ 62)(h3:-(2 ^ 62)<=hi)(h4:hi<2 ^ 62)
  (q:R (Itr lo (hi-lo).toNat) H):wpAny (model X.prog X.w) X.A (pyIter (.ref s.heap.objs.size)) (PIE X ρ σ tg R) E { s with heap:=s.heap.push { cls:=.type "range",data:=.fields #[.int lo t,.int hi u,.int 1 v] },toks:=tk }:=by
 refine wpAny_pyIter_range (IsRange.new ..) (small_one h1 h2 h3 h4) ?_;have I1:Inv X ρ σ H { s with heap:=s.heap.push { cls:=.type "range",data:=.fields #[.int lo t,.int hi u,.int 1 v] },toks:=tk }:=I.kept λb o e=>zaf _ e;refine⟨(s.heap.push { cls:=.type "range",data:=.fields #[.int lo t,.int hi u,.int 1 v] }).objs.size,[(s.heap.push { cls:=.type "range",data:=.fields #[.int lo t,.int hi u,.int 1 v] }).objs.size],_,_,H,rfl,
  I1.kept (t':=tk) λb o e=>zaf _ e,wE _ lo (hi-lo).toNat,?_,λb hb=>?_,q⟩
 .have e1:lo+((0:Nat):Int)*1=lo:=by simp
  have e2:(((hi-lo).toNat:Nat):Int)-((0:Nat):Int)=Builtin.Range.rangeSize lo hi 1:=by rw[rangeSize_one];split<;>lia
  show IsRangeIter _ _ (lo+((0:Nat):Int)*1) ((((hi-lo).toNat:Nat):Int)-((0:Nat):Int)) 1;rw[e1,e2];exact zan _ rfl
 .have e:b=(s.heap.push { cls:=.type "range",data:=.fields #[.int lo t,.int hi u,.int 1 v] }).objs.size:=by simpa using hb
  subst e;exact I1.fpOk (zav _) (I1.hok.fresh (zav _))
def Lp(ta:TA):TI:=λσ H R=>ta σ H λvs H1=>∃j:Int,vs=[.int j]/\-(2 ^ 62)<=j/\j<2 ^ 62/\R (Itr 0 j.toNat) H1
def yL{a:Expr}{ta:TA}(hg:Gl X "range")(hm:X.mg "range"=none)(ha:PA X [a] ta)(hs:starEach [a] X.env=[(false,eval a X.env)]:=by rfl):PI X tg (.Call (.Name "range" p) [a] [] pos) (Lp ta):=by
 intro ρ s σ H R I h;refine Call_ (jQ I hg hm boot_range (PyProof.Rows.callWith_type1 (thn (ha pos ρ s σ H _ I h) λus s1 ⟨vs,H1,I1,r1,q1⟩=>?_) hs rfl));obtain⟨j,e,q1,q2,q⟩:=q1;subst e;cases r1 with
 |cons r rr=>
  cases rr;obtain⟨t,rfl⟩:=r;exact call_range_1 (AO I1 (by lia) (by lia) q1 q2 (by simpa using q))
def AG(wi:TI)(g:TG)(tb:TS):TS:=λD σ H=>wi σ H λJ H1=>∃W:Nat->Nat->St->Hp->Prop,(∃m,W 0 m σ H1)/\∀i m σ H,W i m σ H ->
 (J.stop i H/\D.nx σ H)\/(J.go i H/\∃N:St->Hp->Prop,(∀σ' H',N σ' H'->∃m',m'<m/\W (i+1) m' σ' H')/\∀x H',J.yld i H x H'->g x σ H' λσ2 H2=>tb { D with nx:=N,ct:=N,bk:=D.nx } σ2 H2)
noncomputable def lp(fp:List Addr)(h:Heap):List (Addr×Obj):=fp.filterMap λb=>(h.get? b).map λo=>(b,o)
def iA{o:Obj}(hb:b∈fp)(e:h.get? b=some o):(b,o)∈lp fp h:=List.mem_filterMap.mpr ⟨b,hb,by rw[e];rfl⟩
def yT{p:Addr×Obj}(hp:p∈lp fp h):p.1∈fp/\h.get? p.1=some p.2:=by
 obtain⟨b,hb,e⟩:=List.mem_filterMap.mp hp;cases q:h.get? b with
 |none=>rw[q]at e;cases e
 |some o=>
  rw[q]at e;have e':(b,o)=p:=zat e;subst e';exact⟨hb,q⟩
def Inv.pinned(I:Inv X ρ σ H s)(hf:∀b∈fp,gP X ρ H b)(ho:∀b∈fp,∃o,s.heap.get? b=some o/\∀v,o.data≠.cell v):Inv X (ρ++lp fp s.heap) σ H s:=
 I.pins_of λp hp=>(zax.mp hp).elim (λz=>I.pin p (zbg _ z)) λz=>by
  obtain⟨hb,e⟩:=yT z;obtain⟨f0,f1,f2,_⟩:=hf p.1 hb;obtain⟨o,e',d⟩:=ho p.1 hb;rw[e]at e';cases e';exact⟨e,f0,f1,f2,d⟩
def Inv.unpinned{pl:List (Addr×Obj)}(I:Inv X (ρ++pl) σ H s):Inv X ρ σ H s:=I.pins_of λp hp=>I.pin p (zbg _ (zbf _ hp))
def yG{iter:Expr}{wi:TI}{g:TG}{tb:TS}(hp:PassesOwn (model X.prog X.w) X.A X.env X.xe)(hc:X.calm=true)(hi:PI X tg iter wi)(hg:PG X tg g)(hb:PSs X body tb)
  (hs:∀x,foldedSetIterable iter X.env x=pure x:=by intro _;rfl):PS X (.For tg iter body [] pos) (AG wi g tb):=by
 intro ρ s σ H D I h;refine wpAny_For (thn (hi ρ s σ H _ I h) λv s1 h1=>thn h1 λitv s2 h2=>?_) hs;obtain⟨it,fp,tn,J,H2,e,I2,T,st2,f2,W,⟨m0,w0⟩,turn⟩:=h2;subst e;have stat:∀{H':Hp},(∀b∈fp,H' b=none)->∀b∈fp,gP X ρ H' b:=λhn b hb=>⟨hn b hb,(f2 b hb).2⟩;refine codeAny_forLoop_any (λn s'=>∃i σ' H',Inv X ρ σ' H' s'/\tn i s'.heap/\(∀b∈fp,H' b=none)/\W i n σ' H') ?_ m0 ⟨0,σ,H2,I2,st2,λb hb=>(f2 b hb).1,w0⟩;rintro n s3 ⟨i,σ3,H3,I3,st3,fr3,w3⟩;rcases turn i n σ3 H3 w3 with⟨stop,qn⟩|⟨go,N,hN,step⟩
 .refine wpAny_passesOwn hp (thn (T.done X rfl rfl rfl hc i ρ s3 σ3 H3 X.xe I3 (stat fr3) st3 stop) λr s4 ⟨hr,I4⟩=>?_);subst hr;exact wpAny_execs_nil ⟨σ3,H3,I4,qn⟩
 .refine wpAny_passesOwn hp (thn (T.item X rfl rfl rfl hc i ρ s3 σ3 H3 X.xe I3 (stat fr3) st3 go) λr s4 ⟨u,hr,h4⟩=>?_);subst hr;refine wpAny_passesOwn hp (thn h4 λ_ s5 ⟨x,H5,I5,r5,y5,st5,fr5⟩=>?_);have I5':=I5.pinned (stat fr5) (T.obj _ _ st5);refine wpAny_passesOwn hp (thn (hg _ s5 σ3 H5 x u _ I5' r5 (step x H5 y5)) λ_ s6 ⟨σ6,H6,I6,q6⟩=>?_);refine wpAny_passesOwn hp (thn (hb _ s6 σ6 H6 _ I6 q6) λf s7 q7=>?_);have again:∀{σ7:St} {H7:Hp},Inv X (ρ++lp fp s5.heap) σ7 H7 s7->N σ7 H7->∃m,m<n/\∃i σ' H',Inv X ρ σ' H' s7/\tn i s7.heap/\(∀b∈fp,H' b=none)/\W i m σ' H':=λ{σ7 H7} I7 n7=>by
   obtain⟨m',hm,w7⟩:=hN σ7 H7 n7;refine⟨m',hm,i+1,σ7,H7,I7.unpinned,T.keep _ _ _ st5 λb hb o e=>(I7.pin (b,o) (zbg _ (zbg _ (iA hb e)))).1,λb hb=>?_,w7⟩;obtain⟨o,e,d⟩:=T.obj _ _ st5 b hb;exact(I7.pin (b,o) (zbg _ (zbg _ (iA hb e)))).2.1
  cases f with
  |next=>obtain⟨σ7,H7,I7,n7⟩:=q7;exact again I7 n7
  |cont=>obtain⟨σ7,H7,I7,n7⟩:=q7;exact again I7 n7
  |brk=>obtain⟨σ7,H7,I7,q7⟩:=q7;exact⟨σ7,H7,I7.unpinned,q7⟩
  |ret v=>obtain⟨x7,σ7,H7,I7,r7,q7⟩:=q7;exact⟨x7,σ7,H7,I7.unpinned,r7,q7⟩
abbrev R2:=V->V->Hp->VK->Prop
variable{r:R2}
def OpR(X:Cx)(f:Value->Value->Sem Value)(r:R2):Prop:=
 ∀(ρ:List (Addr×Obj)) (s:Shared) (σ:St) (H:Hp) (x y:V) (v u:Value) (Q:VK),Inv X ρ σ H s->RelV x v->RelV y u->r x y H Q ->
  wpAny (model X.prog X.w) X.A (f v u) (EP X ρ σ Q) X.xe s
def UnR(X:Cx)(f:Value->Sem Value)(r:V->Hp->VK->Prop):Prop:=
 ∀(ρ:List (Addr×Obj)) (s:Shared) (σ:St) (H:Hp) (x:V) (v:Value) (Q:VK),Inv X ρ σ H s->RelV x v->r x H Q ->
  wpAny (model X.prog X.w) X.A (f v) (EP X ρ σ Q) X.xe s
def CallR(X:Cx)(f:Value)(r:List V->Hp->VK->Prop):Prop:=
 ∀(ρ:List (Addr×Obj)) (s:Shared) (σ:St) (H:Hp) (xs:List V) (us:List Value) (Q:VK),Inv X ρ σ H s->Vals xs us->r xs H Q ->
  wpAny (model X.prog X.w) X.A (call f us) (EP X ρ σ Q) X.xe s
noncomputable def tOp(r:R2)(ta tb:TE):TE:=λσ H Q=>ta σ H λx H1=>tb σ H1 λy H2=>r x y H2 Q
noncomputable def tUn(r:V->Hp->VK->Prop)(ta:TE):TE:=λσ H Q=>ta σ H λx H1=>r x H1 Q
noncomputable def rI(C:Int->Int->Prop)(g:Int->Int->V):R2:=λx y H Q=>∃i j,x=.int i/\y=.int j/\C i j/\Q (g i j) H
noncomputable def rI0(g:Int->Int->V):R2:=λx y H Q=>∃i j,x=.int i/\y=.int j/\Q (g i j) H
def rU(g:Int->V):V->Hp->VK->Prop:=λx H Q=>∃i,x=.int i/\Q (g i) H
section
variable{a b:Expr}{tc:TE} 
def B6(ha:PE X a ta)(hb:PE X b tb){R:V->V->Hp->Prop}(I:Inv X ρ σ H s)
  (h:ta σ H λx H1=>tb σ H1 λy H2=>R x y H2) {f:Value->Value->Sem Value}
  (hf:∀v u s2 x y H2,Inv X ρ σ H2 s2->RelV x v->RelV y u->R x y H2->wpAny (model X.prog X.w) X.A (f v u) Q X.xe s2):
  wpAny (model X.prog X.w) X.A (eval a X.env) (λv s₁=>wpAny (model X.prog X.w) X.A (eval b X.env) (λu s₂=>wpAny (model X.prog X.w) X.A (f v u) Q X.xe s₂) X.xe s₁) X.xe s:=by
 refine thn (ha ρ s σ H _ I h) ?_;rintro v s1 ⟨x,H1,I1,r1,q1⟩;refine thn (hb ρ s1 σ H1 _ I1 q1) ?_;rintro u s2 ⟨y,H2,I2,r2,q2⟩;exact hf v u s2 x y H2 I2 r1 r2 q2
def Ld{op:Operator}(ho:OpR X (binaryOp op) r)(ha:PE X a ta)(hb:PE X b tb):PE X (.BinOp a op b pos) (tOp r ta tb):=by
 intro ρ s σ H Q I h;exact wpAny_BinOp (B6 ha hb I h λv u s2 x y H2 I2 rx ry q=>ho ρ s2 σ H2 x y v u Q I2 rx ry q)
def Lc{op:UnaryOp}{r:V->Hp->VK->Prop}(ho:UnR X (unaryOp op) r)(ha:PE X a ta):PE X (.UnaryOp op a pos) (tUn r ta):=by
 intro ρ s σ H Q I h;exact UnaryOp_ (thn (ha ρ s σ H _ I h) λv s1 ⟨x,H1,I1,r1,q1⟩=>ho ρ s1 σ H1 x v Q I1 r1 q1)
def opI{f:Value->Value->Sem Value}{C:Int->Int->Prop} 
  (rule:∀(i j:Int) (t u:Tok) (s:Shared) (Q:Value->Shared->Prop) (E:Value->Shared->Prop),C i j->Q (.int (g i j) s.toks) { s with toks:=s.toks+1 }->wpAny (model X.prog X.w) X.A (f (.int i t) (.int j u)) Q E s):
  OpR X f (rI C λi j=>.int (g i j)):=by
 intro ρ s σ H x y v u Q I rx ry h;obtain⟨i,j,rfl,rfl,hc,q⟩:=h;obtain⟨t,rfl⟩:=rx;obtain⟨t',rfl⟩:=ry;exact rule i j t t' s _ _ hc ⟨.int (g i j),H,I.tok _,⟨_,rfl⟩,q⟩
def JJ{f:Value->Value->Sem Value} 
  (rule:∀(i j:Int) (t u:Tok) (s:Shared) (Q:Value->Shared->Prop) (E:Value->Shared->Prop),Q (.int (g i j) s.toks) { s with toks:=s.toks+1 }->wpAny (model X.prog X.w) X.A (f (.int i t) (.int j u)) Q E s):
  OpR X f (rI0 λi j=>.int (g i j)):=by
 intro ρ s σ H x y v u Q I rx ry h;obtain⟨i,j,rfl,rfl,q⟩:=h;obtain⟨t,rfl⟩:=rx;obtain⟨t',rfl⟩:=ry;exact rule i j t t' s _ _ ⟨.int (g i j),H,I.tok _,⟨_,rfl⟩,q⟩
def wX{f:Value->Value->Sem Value}{g:Int->Int->Bool}
  (rule:∀(i j:Int) (t u:Tok) (s:Shared) (Q:Value->Shared->Prop) (E:Value->Shared->Prop),Q (.bool (g i j)) s->wpAny (model X.prog X.w) X.A (f (.int i t) (.int j u)) Q E s):
  OpR X f (rI0 λi j=>.bl (g i j)):=by
 intro ρ s σ H x y v u Q I rx ry h;obtain⟨i,j,rfl,rfl,q⟩:=h;obtain⟨t,rfl⟩:=rx;obtain⟨t',rfl⟩:=ry;exact rule i j t t' s _ _ ⟨.bl (g i j),H,I,rfl,q⟩
def kX(i j:Int):Prop:=0<j/\j<1073741824
def jL(i j:Int):Prop:=0<=j/\j<=1000000/\i.natAbs<2 ^ 64
def CMul(i j:Int):Prop:=(-(2 ^ 64)<i/\i<2 ^ 64)\/(-(2 ^ 64)<j/\j<2 ^ 64)
def CMul.ok{i j:Int}(h:CMul i j):IntMulOk i j:=by
 rcases h with⟨h1,h2⟩|⟨h1,h2⟩
 .exact .of_left (intBits_le_64 h1 h2)
 .exact .of_right (intBits_le_64 h1 h2)
def op_add:OpR X (binaryOp .Add) (rI0 λi j=>.int (i+j)):=JJ λ_ _ _ _ _ _ _ q=>add_int q
def op_sub:OpR X (binaryOp .Sub) (rI0 λi j=>.int (i-j)):=JJ λ_ _ _ _ _ _ _ q=>sub_int q
def op_mul:OpR X (binaryOp .Mult) (rI CMul λi j=>.int (i*j)):=opI λ_ _ _ _ _ _ _ hc q=>mul_int q hc.ok
def op_fdiv:OpR X (binaryOp .FloorDiv) (rI kX λi j=>.int (i / j)):=opI λi j _ _ _ _ _ hc q=>by
 have h1:(0:Int)<j:=hc.1;have h2:j<1073741824:=hc.2;exact floordiv_int (by lia) (by rw[Int.fdiv_eq_ediv_of_nonneg i (by lia)];exact q) (.inl (PyProof.noPylong_small (by lia)))
def op_mod:OpR X (binaryOp .Mod) (rI (λ_ j=>0<j) λi j=>.int (i % j)):=opI λi j _ _ _ _ _ hc q=>by
 have h1:(0:Int)<j:=hc;exact mod_int' (by lia) (by rw[Int.fmod_eq_emod_of_nonneg i (by lia)];exact q)
def op_pow:OpR X (binaryOp .Pow) (rI jL λi j=>.int (i ^ j.toNat)):=opI λ_ _ _ _ _ _ _ hc q=>pow_int_small hc.1 hc.2.1 hc.2.2 q
def unI{f:Value->Sem Value}{g:Int->Int}
  (rule:∀(i:Int) (t:Tok) (s:Shared) (Q:Value->Shared->Prop) (E:Value->Shared->Prop),Q (.int (g i) s.toks) { s with toks:=s.toks+1 }->wpAny (model X.prog X.w) X.A (f (.int i t)) Q E s):
  UnR X f (rU λi=>.int (g i)):=by
 intro ρ s σ H x v Q I rx h;obtain⟨i,rfl,q⟩:=h;obtain⟨t,rfl⟩:=rx;exact rule i t s _ _ ⟨.int (g i),H,I.tok _,⟨_,rfl⟩,q⟩
def un_neg:UnR X (unaryOp .USub) (rU λi=>.int (-i)):=unI λ_ _ _ _ _ q=>neg_int q
def zU{Q:VK}{k k':Bool}(I:Inv X ρ σ H s)(q:Q (.bl k) H)(e:k=k'):EP X ρ σ Q (.bool k') s:=by
 subst e;exact⟨.bl k,H,I,rfl,q⟩
def op_lt:OpR X (compareOp .Lt) (rI0 λi j=>.bl (decide (i<j))):=wX λ_ _ _ _ _ _ _ q=>lt_int q
def op_le:OpR X (compareOp .LtE) (rI0 λi j=>.bl (decide (i<=j))):=wX λ_ _ _ _ _ _ _ q=>le_int q
def op_gt:OpR X (compareOp .Gt) (rI0 λi j=>.bl (decide (j<i))):=wX λ_ _ _ _ _ _ _ q=>gt_int q
def op_ge:OpR X (compareOp .GtE) (rI0 λi j=>.bl (decide (j<=i))):=wX λ_ _ _ _ _ _ _ q=>ge_int q
def op_isN:OpR X (compareOp .Is) (λx y H Q=>y=.non/\Q (.bl (decide (x=.non))) H):=by
 intro ρ s σ H x y v u Q I rx ry h;obtain⟨rfl,q⟩:=h;cases ry;refine is_none_gen (zU I q ?_);cases x<;>first
  | (cases rx;rfl)
  | (obtain⟨t,rfl⟩:=rx;rfl)
def op_notN:OpR X (compareOp .IsNot) (λx y H Q=>y=.non/\Q (.bl (!decide (x=.non))) H):=by
 intro ρ s σ H x y v u Q I rx ry h;obtain⟨rfl,q⟩:=h;cases ry;refine isnot_none_gen (zU I q ?_);cases x<;>first
  | (cases rx;rfl)
  | (obtain⟨t,rfl⟩:=rx;rfl)
def aV(b:Expr)(h:op≠.In:=by decide)(h2:op≠.NotIn:=by decide):behindInMarks op b=false:=by
 have e1:(op==CmpOp.In)=false:=by cases op<;>first|rfl|exact absurd rfl h
 have e2:(op==CmpOp.NotIn)=false:=by cases op<;>first|rfl|exact absurd rfl h2
 cases b<;>simp[behindInMarks,e1,e2]
def Fw(ho:OpR X (compareOp op) r)(ha:PE X a ta)(hb:PE X b tb)(hm:behindInMarks op b=false):PE X (.Compare a [op] [b] pos) (tOp r ta tb):=by
 intro ρ s σ H Q I h;exact wpAny_Compare1 (B6 ha hb I h λv u s2 x y H2 I2 rx ry q=>ho ρ s2 σ H2 x y v u Q I2 rx ry q) hm
noncomputable def KY(t:TE):TT:=λσ H Q=>t σ H λx H'=>∃k,x=.bl k/\Q k H'
def Fi(ho:OpR X (compareOp op) r)(ha:PE X a ta)(hb:PE X b tb)(hm:behindInMarks op b=false):PT X (.Compare a [op] [b] pos) (KY (tOp r ta tb)):=by
 intro ρ s σ H Q I h;refine wpAny_isTrue_Compare1 (thn (ha ρ s σ H _ I h) λv s1 ⟨x,H1,I1,r1,q1⟩=>thn (hb ρ s1 σ H1 _ I1 q1) λu s2 ⟨y,H2,I2,r2,q2⟩=>
  thn (ho ρ s2 σ H2 x y v u _ I2 r1 r2 q2) λc s3 ⟨z,H3,I3,r3,k,e,q3⟩=>?_) hm
 subst e;cases r3;exact zby ⟨H3,I3,q3⟩
def ly:(sizeLine:Nat)<2 ^ 63:=by rw[sizeLine_eq];decide
def wW:OpR X (binaryOp .Add) (λx y H Q=>∃i j,x=.str i/\y=.str j/\i.length+j.length<=sizeLine/\Q (.str (i++j)) H):=by
 intro ρ s σ H x y v u Q I rx ry h;obtain⟨i,j,rfl,rfl,hz,q⟩:=h;obtain⟨t,rfl⟩:=rx;obtain⟨t',rfl⟩:=ry;exact add_str (λt' tk=>⟨.str (i++j),H,I.tok _,⟨_,rfl⟩,q⟩) hz
def iy{x:V}(r:Vals [x] us):∃u,us=[u]/\RelV x u:=by
 cases r with
 |cons r1 r2=>cases r2;exact⟨_,rfl,r1⟩
def wC{x:V}(r:Vals [x,y] us):∃u w',us=[u,w']/\RelV x u/\RelV y w':=by
 cases r with
 |cons r1 r2=>
  cases r2 with
  |cons r3 r4=>cases r4;exact⟨_,_,rfl,r1,r3⟩
def Aj(hc:X.calm=true):CallR X (.builtin "max") (λxs H Q=>∃i j,xs=[.int i,.int j]/\Q (.int (if j>i then j else i)) H):=by
 intro ρ s σ H xs us Q I r h;obtain⟨i,j,rfl,q⟩:=h;obtain⟨u,w',rfl,⟨t,rfl⟩,⟨t',rfl⟩⟩:=wC r;refine max_two_ints (I.ok.hd hc) λh' tk k=>⟨_,H,I.kept k,?_,q⟩;by_cases hj:j>i
 .rw[if_pos hj,if_pos hj];exact⟨_,rfl⟩
 .rw[if_neg hj,if_neg hj];exact⟨_,rfl⟩
def KS(K:zbU)(x:V)(H:Hp)(n:Nat):Prop:=
 match x with
 |.str y=>y.length<=sizeLine/\n=y.length
 |.byt y=>y.size<=sizeLine/\n=y.size
 |.ref p=>(∃xs,SqL K H p xs/\n=xs.length)\/∃xs,SqT K H p xs/\n=xs.length
 |_=>False
def B2:CallR X (.builtin "len") (λxs H Q=>∃x n,xs=[x]/\KS X.K x H n/\Q (.int n) H):=by
 intro ρ s σ H xs us Q I r h;obtain⟨x,n,rfl,e,q⟩:=h;obtain⟨u,rfl,rx⟩:=iy r;have hl:=ly;have hs:sizeLine=16777216:=sizeLine_eq;cases x with
 |str y=>
  obtain⟨t,rfl⟩:=rx;obtain⟨hy,e'⟩:y.length<=sizeLine/\n=y.length:=e;subst e';exact len_str (by lia) ⟨.int _,H,I.tok _,⟨_,rfl⟩,q⟩
 |byt y=>
  obtain⟨t,rfl⟩:=rx;obtain⟨hy,e'⟩:y.size<=sizeLine/\n=y.size:=e;subst e';exact PySem.W.len_bytes (by lia) ⟨.int _,H,I.tok _,⟨_,rfl⟩,q⟩
 |ref p=>
  cases rx;have e':(∃xs,SqL X.K H p xs/\n=xs.length)\/∃xs,SqT X.K H p xs/\n=xs.length:=e;rcases e' with⟨xs,hx,e'⟩|⟨xs,hx,e'⟩
  .subst e';obtain⟨its,r',pl,hz⟩:=I.list hx;have ξ:=r'.length;exact Calls.call_len_list pl.isList (by simp only[zai];lia) ⟨.int xs.length,H,I.tok _,⟨_,by simp only[zai];rw[ξ]⟩,q⟩
  .subst e';obtain⟨its,r',pl,hz⟩:=I.tuple hx;have ξ:=r'.length;exact len_tuple pl (by simp only[zai];lia) ⟨.int xs.length,H,I.tok _,⟨_,by simp only[zai];rw[ξ]⟩,q⟩
 |_=>exact(show False from e).elim
end
structure ObjM(h:Heap)(x dx C:Addr)(mA:Str->Option Value):Prop where
 obj:h.get? x=some (PySem.W.instObj C dx)
 ns:h.Ns1 dx mA
 ne:dx≠x
def zb(n:h.Ns1 dx mA):∃od,h.get? dx=some od/\∀name,PySem.W.lookIn name od=some (mA name):=by
 obtain⟨o,es,ep,ho,hd,hk,_,hm⟩:=n;refine⟨o,ho,λname=>?_⟩;have e:=hm name;unfold nsFind findBy at e;rw[<-Array.find?_toList]at e;unfold PySem.W.lookIn;rw[hd]
 dsimp only
 split
 .rename_i y q;rw[q]at e;exact congrArg some e
 .rename_i q;rw[q]at e;have a:es.toList.any (·.refKey)=false:=by
   rw[List.any_eq_false];intro y hy;obtain⟨z,t,hkey⟩:=hk y (Array.mem_toList_iff.mp hy);simp[DictEntry.refKey,hkey]
  have a':¬es.toList.any (·.refKey)=true:=by rw[a];exact zbn
  rw[if_neg a'];exact congrArg some e
def ObjM.look{x:Addr}(I:ObjM h x dx C mA):∃od,PySem.W.InstAt h x (PySem.W.instObj C dx) C (some od)/\∀name,PySem.W.lookIn name od=some (mA name):=
 let⟨od,ho,hl⟩:=zb I.ns
 ⟨od,⟨I.obj,rfl,rfl,ho⟩,hl⟩
section
variable{x:Addr}  
def F7{expr:Bool}(X:K.In s.heap)(I:ObjM s.heap x dx C mA)(hg:PySem.W.plainGet K C name=true)(hh:PySem.W.hasDictIn K C=true)
  (ha:PySem.W.findIn K (.ref C) name=some none) (hv:mA name=some v) (hv':PySem.W.handedIn v=true) (h:Q v { s with toks:=s.toks+1 }):
  wpAny (model prog w) A (getAttr (.ref x) name expr) Q E s:=by
 obtain⟨od,J,hl⟩:=I.look;exact PySem.W.get_value X J (PySem.W.plainGet_of hg).1 (PySem.W.findObj_own hh ha rfl (by rw[hl,hv])) hv' h
def BE{pl:Sem Bool}{Q:Value×List Value->Shared->Prop}(X:K.In s.heap)(I:ObjM s.heap x dx C mA)(hg:PySem.W.plainGet K C name=true)
  (hf:PySem.W.findIn K (.ref C) name=some (some (.ref f))) (ht:PySem.W.isFn K (.ref f)=true) (hv:mA name=none) (h:Q (.ref f,[.ref x]) s):
  wpAny (model prog w) A (getMethod (.ref x) name pl) Q E s:=by
 obtain⟨od,J,hl⟩:=I.look;exact PySem.W.method_fn X J (PySem.W.plainGet_of hg).1 (PySem.W.plainGet_of hg).2 hf (beq_iff_eq.mp ht) (by show(PySem.W.lookIn name od).map (·.isSome)=some false;rw[hl,hv];rfl) h
def Fb{ns:List Str}{Q:Unit->Shared->Prop}(X:K.In s.heap)(I:ObjM s.heap x dx C mA)
  (hs:PySem.W.findIn K (.ref C) "__setattr__"=some (some (.builtin "object.__setattr__"))) (hp:PySem.W.plainOver K C=true) (ht:PySem.W.takerIn K C name=some none) (hh:PySem.W.hasDictIn K C=true)
  (hw:PySem.Within mA ns) (hsz:ns.length<=sizeLine)
  (h:∀h',ObjM h' x dx C (λy=>if y=name then some v else mA y)->Heap.SameBut dx s.heap h'->Q () { s with heap:=h',toks:=s.toks+2 }):
  wpAny (model prog w) A (setAttr (.ref x) name v) Q E s:=by
 obtain⟨od,J,hl⟩:=I.look;refine PySem.W.set_plain X J hs (PySem.W.osa_open (s:={ s with toks:=s.toks+1 }) (r:=none) X J hp ht λb=>?_);obtain⟨cd,hc,hd'⟩:=PySem.W.any_some hh;have hx:s.heap.get? x=some ⟨.ref C,some dx,.plain,#[]⟩:=I.obj;refine zam (zaS (zam (zam (wpAny_loadPart hx (zam (PySem.W.Looks.here (s:={ s with toks:=s.toks+1 }) (PySem.W.looks_clsIn X hc) ?_))))));rw[hd'];refine zaS (a:=some dx) (zam (zaS (zam ?_)));refine wpAny_nsSet1 (s:={ s with toks:=s.toks+1 }) I.ns λh' hn2 hs2=>?_;obtain⟨oD,esD,epD,hoD,hdD,hcD⟩:=hn2.count (PySem.Within.cons name v hw);refine zam (wpAny_lookBehind hoD (by rw[hdD];exact pastItsLine_dict (zau hcD (by rw[zac];lia))) ?_);exact zaS (h _ ⟨(hs2.2 _ (Ne.symm I.ne)).trans I.obj,hn2,I.ne⟩ hs2)
def A4{R:Result->Shared->Prop}{vs:List Value}(X:K.In s.heap)(hm:PySem.W.makesIn K C=true)
  (hi:PySem.W.findIn K (.ref C) "__init__"=some (some (.ref f))) (hf:PySem.W.typeIn K (.ref f)=some (.type "function"))
  (h:codeAny (model prog w) (A.under (.builtin "type.__call__" ⟨.ref C::vs,kw⟩)) (.call (.ref f) ⟨.ref (s.heap.objs.size+1)::vs,kw⟩) (PySem.W.InitBack (s.heap.objs.size+1) R)
   { s with heap:=(s.heap.push PySem.W.emptyDict).push (PySem.W.instObj C s.heap.objs.size) }):
  codeAny (model prog w) A (.call (.ref C) ⟨vs,kw⟩) R s:=by
 obtain⟨hh,g,d,t,os⟩:=s;exact PySem.W.make_core (PySem.W.makes_of X hm) (PySem.W.looks_findIn X hi) (λself=>PySem.W.bind_fn X self hf) (.inl rfl) h
end
noncomputable def ef(f:Str)(v:V):List (Str×V)->List (Str×V)
 |[]=>[(f,v)]
 | (g,x)::r=>if g=f then(g,v)::r else(g,x)::ef f v r
theorem mU(f g:Str)(v:V):∀fs:List (Str×V),(ef f v fs).lookup g=if g=f then some v else fs.lookup g
 |[]=>by
  show List.lookup g [(f,v)]=_;by_cases h:g=f
  .have hb:(g==f)=true:=beq_iff_eq.mpr h;simp only[List.lookup,hb,if_pos h]
  .have hb:(g==f)=false:=zbM.mpr h;simp only[List.lookup,hb,if_neg h]
 | (k,x)::r=>by
  have ih:=mU f g v r;rw[show ef f v ((k,x)::r)=(if k=f then(k,v)::r else(k,x)::ef f v r)from rfl];by_cases hk:k=f
  .rw[if_pos hk];by_cases h:g=k
   .have hb:(g==k)=true:=beq_iff_eq.mpr h;simp only[List.lookup,hb,if_pos (h.trans hk)]
   .have hb:(g==k)=false:=zbM.mpr h;simp only[List.lookup,hb,if_neg (λe:g=f=>h (e.trans hk.symm))]
  .rw[if_neg hk];by_cases h:g=k
   .have hb:(g==k)=true:=beq_iff_eq.mpr h;simp only[List.lookup,hb,if_neg (λe:g=f=>hk (h.symm.trans e))]
   .have hb:(g==k)=false:=zbM.mpr h;simp only[List.lookup,hb];exact ih
theorem lA(f:Str)(v:V):∀fs:List (Str×V),f∈(ef f v fs).map (·.1)/\∀g,g∈fs.map (·.1)->g∈(ef f v fs).map (·.1)
 |[]=>⟨by simp[ef],λg h=>by simp at h⟩
 | (k,x)::r=>by
  obtain⟨i1,i2⟩:=lA f v r;rw[show ef f v ((k,x)::r)=(if k=f then(k,v)::r else(k,x)::ef f v r)from rfl];by_cases hk:k=f
  .rw[if_pos hk];subst hk;exact⟨by simp,λg h=>by simpa using h⟩
  .rw[if_neg hk];refine⟨?_,λg h=>?_⟩
   .rw[zar];exact zaj _ i1
   .rw[zar]at h ⊢;rcases zay.mp h with e|e
    .exact zay.mpr (.inl e)
    .exact zaj _ (i2 g e)
theorem mV(f:Str)(v:V):∀fs:List (Str×V),(ef f v fs).length<=fs.length+1
 |[]=>by simp[ef]
 | (k,x)::r=>by
  have ih:=mV f v r;rw[show ef f v ((k,x)::r)=(if k=f then(k,v)::r else(k,x)::ef f v r)from rfl];by_cases hk:k=f
  .rw[if_pos hk,zac,zac];lia
  .rw[if_neg hk,zac,zac];lia
def RelO.some_of{v:V}{o:Option Value}(r:RelO (some v) o):∃u,o=some u/\RelV v u:=by
 cases o with
 |none=>exact(show False from r).elim
 |some u=>exact⟨u,rfl,r⟩
def RelO.none_of{o:Option Value}(r:RelO none o):o=none:=by
 cases o with
 |none=>rfl
 |some u=>exact(show False from r).elim
def zH{v:V}(r:RelV v u):PySem.W.handedIn u=true:=by
 cases v with
 |non=>cases(show u=Value.none from r);rfl
 |bl b=>cases(show u=Value.bool b from r);rfl
 |int i=>obtain⟨t,e⟩:=(show ∃t,u=Value.int i t from r);cases e;rfl
 |str x=>obtain⟨t,e⟩:=(show ∃t,u=Value.str x t from r);cases e;rfl
 |byt b=>obtain⟨t,e⟩:=(show ∃t,u=Value.bytes b t from r);cases e;rfl
 |flt b=>obtain⟨t,e⟩:=(show ∃t,u=Value.float b t from r);cases e;rfl
 |ref a=>cases(show u=Value.ref a from r);rfl
 |ty n=>cases(show u=Value.type n from r);rfl
section
variable{fs fs':List (Str×V)}
def mC(hok:HOk P w H h)(e:H a=some (.ins C dx fs)):∃mA,ObjM h a dx C mA/\(∀f,RelO (fs.lookup f) (mA f))/\PySem.Within mA (fs.map (·.1))/\fs.length<=1000/\H dx=some (.own a):=by
 obtain⟨d,z,ne,ob,mA,n,r,q⟩:=(show ObjOk P w H h a (.ins C dx fs)from hok a _ e);exact⟨mA,⟨ob,n,ne⟩,r,q,z,d⟩
end
structure Cls(K:zbU)(C:Addr):Prop where
 pg:PySem.W.plainGet K C Str.empty=true
 hd:PySem.W.hasDictIn K C=true
 po:PySem.W.plainOver K C=true
 sa:PySem.W.findIn K (.ref C) "__setattr__"=some (some (.builtin "object.__setattr__"))
def Cls.get(c:Cls K C)(f:Str):PySem.W.plainGet K C f=true:=c.pg
def NoAttr(K:zbU)(C:Addr)(f:Str):Prop:=PySem.W.findIn K (.ref C) f=some none
def NoAttr.taker{f:Str}(n:NoAttr K C f):PySem.W.takerIn K C f=some none:=by
 unfold PySem.W.takerIn;rw[show PySem.W.findIn K (.ref C) f=some none from n];rfl
structure Meth(K:zbU)(C:Addr)(m:Str)(f:Addr):Prop where
 at_:PySem.W.findIn K (.ref C) m=some (some (.ref f))
 fn:PySem.W.isFn K (.ref f)=true
 kp:PySem.W.keepIn K (.ref f)=true
section
variable{fs:List (Str×V)}{f:Str}{v:V} 
def xD{b:Bool}(I:Inv X ρ σ H s)(e:H a=some (.ins C dx fs))(c:Cls X.K C)(n:NoAttr X.K C f)(l:fs.lookup f=some v)
  (h:∀u s',Inv X ρ σ H s'->RelV v u->Q u s'):wpAny (model X.prog X.w) A (getAttr (.ref a) f b) Q E s:=by
 obtain⟨mA,O,r,_,_,_⟩:=mC I.hok e;obtain⟨u,hu,ru⟩:=RelO.some_of (v:=v) (o:=mA f) (by rw[<-l];exact r f);exact F7 I.kIn O (c.get f) c.hd n hu (zH ru) (h u _ (I.tok _) ru)
def oY{g:Addr}{pl:Sem Bool}{Q:Value×List Value->Shared->Prop}(I:Inv X ρ σ H s)(e:H a=some (.ins C dx fs))(c:Cls X.K C)(k:Meth X.K C m g)(l:fs.lookup m=none)
  (h:Q (.ref g,[.ref a]) s):wpAny (model X.prog X.w) A (getMethod (.ref a) m pl) Q E s:=by
 obtain⟨mA,O,r,_,_,_⟩:=mC I.hok e;have hn:mA m=none:=RelO.none_of (by rw[<-l];exact r m);exact BE I.kIn O (c.get m) k.at_ k.fn hn h
def wL{Q:Unit->Shared->Prop}(I:Inv X ρ σ H s)(e:H a=some (.ins C dx fs))(c:Cls X.K C)(n:NoAttr X.K C f)(hl:fs.length<1000)(ry:RelV y u)
  (h:∀s',Inv X ρ σ (upd H a (.ins C dx (ef f y fs))) s'->Q () s'):wpAny (model X.prog X.w) A (setAttr (.ref a) f u) Q E s:=by
 obtain⟨mA,O,r,wi,_,ho⟩:=mC I.hok e;have hz:(fs.map (·.1)).length<=sizeLine:=by rw[zad,sizeLine_eq];lia
 refine Fb I.kIn O c.sa c.po n.taker c.hd wi hz λh' O' sb=>h _ ?_;have hd:∃o,h'.get? dx=some o:=let⟨o,_,_,e',_⟩:=O'.ns;⟨o,e'⟩;refine I.write (x:=a) (e:=dx) (by rw[e];exact True.intro) (.inr ho) (λb q hb z=>(sb.2 b hb).trans z) hd ?_;refine⟨by rw[az O.ne];exact ho,?_,O.ne,O'.obj,_,O'.ns,λg=>?_,λg hg=>?_⟩
 .have:=mV f y fs;lia
 .show RelO ((ef f y fs).lookup g) (if g=f then some u else mA g);rw[mU];by_cases q:g=f
  .rw[if_pos q,if_pos q];exact ry
  .rw[if_neg q,if_neg q];exact r g
 .by_cases q:g=f
  .rw[q];exact(lA f y fs).1
  .refine(lA f y fs).2 g (wi g λz=>hg ?_);show(if g=f then some u else mA g)=none;rw[if_neg q];exact z
def Inv.made(I:Inv X ρ σ H s):Inv X ρ σ (upd (upd H s.heap.objs.size (.own (s.heap.objs.size+1))) (s.heap.objs.size+1) (.ins C s.heap.objs.size []))
  { s with heap:=(s.heap.push PySem.W.emptyDict).push (PySem.W.instObj C s.heap.objs.size) }:=by
 have e1:(s.heap.push PySem.W.emptyDict).get? s.heap.objs.size=some PySem.W.emptyDict:=zan s.heap rfl;have e2:((s.heap.push PySem.W.emptyDict).push (PySem.W.instObj C s.heap.objs.size)).get? (s.heap.objs.size+1)=some (PySem.W.instObj C s.heap.objs.size):=by
  have:=zan (s.heap.push PySem.W.emptyDict) (o:=PySem.W.instObj C s.heap.objs.size) rfl
  rwa[zbu]at this
 have e3:(s.heap.push PySem.W.emptyDict).Ns s.heap.objs.size (λ_=>none):=⟨PySem.W.emptyDict,#[],_,e1,rfl,(λe he=>absurd he (by simp)),λ_=>rfl⟩;have I1:=I.laid (a:=s.heap.objs.size) (o:=.own (s.heap.objs.size+1)) (h':=s.heap.push PySem.W.emptyDict) (t':=s.toks) (λb u q=>zaf _ q) (zav _) ⟨_,e1⟩;refine I1.laid (a:=s.heap.objs.size+1) (o:=.ins C s.heap.objs.size []) (t':=s.toks) (λb u q=>zaf _ q) (Nat.le_of_eq (zbu _ _)) ?_;have ne:s.heap.objs.size≠s.heap.objs.size+1:=zaw (zaI _);refine⟨by rw[az ne,aF],zbj _,ne,e2,λ_=>none,(Heap.Ns1.of_empty e3).at λo q=>zaf _ q,λ_=>True.intro,λy hy=>absurd rfl hy⟩
def Gy{env:Env}{f:Str}(hb:attributeBase e f env (eval e env)=eval e env)
  (h:wpAny (model prog w) A (eval e env) (λo s₁=>wpAny (model prog w) A (getAttr o f true) Q E s₁) E s):wpAny (model prog w) A (eval (.Attribute e f pos) env) Q E s:=
 Attribute_any_ h (by rw[arm_eval_Attribute,hb])
end
noncomputable def qb(K:zbU)(ta:TE)(f:Str):TE:=λσ H Q=>ta σ H λx H1=>∃a C dx fs v,x=.ref a/\H1 a=some (.ins C dx fs)/\Cls K C/\NoAttr K C f/\fs.lookup f=some v/\Q v H1
def wR(K:zbU)(ta tv:TE)(f:Str):TS:=λD σ H=>tv σ H λy H1=>ta σ H1 λx H2=>∃a C dx fs,x=.ref a/\H2 a=some (.ins C dx fs)/\Cls K C/\NoAttr K C f/\fs.length<1000 /\
 D.nx σ (upd H2 a (.ins C dx (ef f y fs)))
section
variable{o value:Expr}{f:Str}{tpos:Pos}{tv:TE}
def yN(he:PE X e ta)(hb:attributeBase e f X.env (eval e X.env)=eval e X.env):PE X (.Attribute e f pos) (qb X.K ta f):=by
 intro ρ s σ H Q I h;refine Gy hb (thn (he ρ s σ H _ I h) λu s1 ⟨x,H1,I1,rx,a,C,dx,fs,v,ex,ea,c,n,l,q⟩=>?_);subst ex;obtain rfl:u=Value.ref a:=rx;exact xD I1 ea c n l λu' s2 I2 ru=>⟨v,H1,I2,ru,q⟩
def yH(ha:PE X o ta)(hv:PE X value tv)(hs:swapsWith value (some (.Attribute o f pos')) pos.line X.env=pure false):PS X (.Assign [.Attribute o f pos'] value pos) (wR X.K ta tv f):=by
 intro ρ s σ H D I h;refine plainObj_wpAny_Assign_Attribute (thn (hv ρ s σ H _ I h) λu s1 ⟨y,H1,I1,ry,q⟩=>thn (ha ρ s1 σ H1 _ I1 q) λov s2 ⟨x,H2,I2,rx,a,C,dx,fs,ex,ea,c,n,l,q2⟩=>?_) hs;subst ex;obtain rfl:ov=Value.ref a:=rx;exact wL I2 ea c n l ry λs3 I3=>⟨σ,_,I3,q2⟩
end
section
variable{c:Value}{b:Bool}
inductive TyOf(K:zbU)(H:Hp):V->Value->Prop where
 |non:TyOf K H .non (.type "NoneType")
 |bl (x:Bool):TyOf K H (.bl x) (.type "bool")
 |int (i:Int):TyOf K H (.int i) (.type "int")
 |str (x:Str):TyOf K H (.str x) (.type "str")
 |flt (x:UInt64):TyOf K H (.flt x) (.type "float")
 |lst {a:Addr} {xs:List V} (e:H a=some (.lst xs)):TyOf K H (.ref a) (.type "list")
 |frz {a:Addr} {o:Obj} {xs:List V} (e:H a=some (.frz o (.lst xs))):TyOf K H (.ref a) (.type "list")
 |tup {a:Addr} {xs:List V} (e:H a=some (.tup xs)):TyOf K H (.ref a) (.type "tuple")
 |dK {a:Addr} {kvs:List (Key×V)} (e:Rd H a (.dK kvs)):TyOf K H (.ref a) (.type "dict")
 |dT {a:Addr} {kvs:List (List (Option Key)×V)} {ad:Addr->Prop} (e:Rd H a (.dT kvs ad)):TyOf K H (.ref a) (.type "dict")
 |ins {a C dx:Addr} {fs:List (Str×V)} (e:H a=some (.ins C dx fs)) (cl:Cls K C) (ha:PySem.W.findIn K (.ref C) "__class__"=some (some (.builtin "object.__class__")))
   (hn:PySem.W.specialIn K (.builtin "object.__class__") "__get__"=some (some (.builtin "getset_descriptor.__get__"))) (htk:PySem.W.takesIn K (.builtin "object.__class__")=some true)
   (hm:PySem.W.mroIn K C (.type "object")=some true):TyOf K H (.ref a) (.ref C)
def zz{x:V}{t:Value}(I:Inv X ρ σ H s)(rx:RelV x u)(ty:TyOf X.K H x t)(e:PySem.W.kitOne X.K t c=some b)(h:∀tk,Q (.bool b) { s with toks:=tk }):
  wpAny (model X.prog X.w) A (call (.builtin "isinstance") [u,c]) Q E s:=by
 cases ty with
 |non=>cases(show u=Value.none from rx);exact PySem.W.kia_one PySem.W.kitx_none I.kIn True.intro e (λz=>nomatch z) h
 |bl y=>cases(show u=Value.bool y from rx);exact PySem.W.kia_one PySem.W.kitx_bool I.kIn True.intro e (λz=>nomatch z) h
 |int i=>obtain⟨t,q⟩:=(show ∃t,u=Value.int i t from rx);cases q;exact PySem.W.kia_one PySem.W.kitx_int I.kIn True.intro e (λz=>nomatch z) h
 |str y=>obtain⟨t,q⟩:=(show ∃t,u=Value.str y t from rx);cases q;exact PySem.W.kia_one PySem.W.kitx_str I.kIn True.intro e (λz=>nomatch z) h
 |flt y=>obtain⟨t,q⟩:=(show ∃t,u=Value.float y t from rx);cases q;exact PySem.W.kia_one PySem.W.kitx_float I.kIn True.intro e (λz=>nomatch z) h
 |@lst a xs ea=>
  cases(show u=Value.ref a from rx);obtain⟨_,_,n,_,h1⟩:=(show ObjOk X.prog X.w H s.heap a (.lst xs)from I.hok a _ ea);exact PySem.W.kia_one PySem.W.kitx_list I.kIn ⟨_,h1,rfl⟩ e (λz=>nomatch z) h
 |@frz a ob xs ea=>
  cases(show u=Value.ref a from rx);obtain⟨_,_,_,n,_,h1⟩:=(show ObjOk X.prog X.w H s.heap a (.frz ob (.lst xs))from I.hok a _ ea);exact PySem.W.kia_one PySem.W.kitx_list I.kIn ⟨_,h1,rfl⟩ e (λz=>nomatch z) h
 |@tup a xs ea=>
  cases(show u=Value.ref a from rx);obtain⟨_,_,_,p⟩:=(show ObjOk X.prog X.w H s.heap a (.tup xs)from I.hok a _ ea);obtain⟨o,h1,h2,_⟩:=p;exact PySem.W.kia_one PySem.W.kitx_tuple I.kIn ⟨o,h1,h2⟩ e (λz=>nomatch z) h
 |@dK a kvs ea=>
  cases(show u=Value.ref a from rx);obtain⟨_,_,vs,_,p⟩:=(show ObjOk X.prog X.w H s.heap a (.dK kvs)from ea.ok I.hok);obtain⟨o,es,ep,h1,h2,_⟩:=p;exact PySem.W.kia_one PySem.W.kitx_dict I.kIn ⟨o,h1,h2.1⟩ e (λz=>nomatch z) h
 |@dT a kvs ad ea=>
  cases(show u=Value.ref a from rx);obtain⟨_,_,xs,_,o,es,ep,h1,h2,_⟩:=(show ObjOk X.prog X.w H s.heap a (.dT kvs ad)from ea.ok I.hok);exact PySem.W.kia_one PySem.W.kitx_dict I.kIn ⟨o,h1,h2.1⟩ e (λz=>nomatch z) h
 |@ins a C dx fs ea cl ha hn htk hm=>
  cases(show u=Value.ref a from rx);obtain⟨mA,O,_⟩:=mC I.hok ea;obtain⟨od,J,_⟩:=O.look;exact PySem.W.kia_one (PySem.W.kitx_own (cl.get _) cl.hd ha hn htk hm) I.kIn J e (λz=>nomatch z) h
end
structure Room(k:Nat)(A:Around):Prop where
 hd:A.handled=none
 dp:A.depth+3*k+5<recursionLimit
 un:A.units+16*k+200<cLine
 gd:A.guards=some []
def Room.mono(r:Room k A)(h:j<=k):Room j A:=⟨r.hd,by have:=r.dp;lia,by have:=r.un;lia,r.gd⟩
def Room.deeper(r:Room (k+1) A)(env:Env):Room k (A.deeper env):=
 ⟨r.hd,by have:=r.dp;show A.depth+1+3*k+5<_;lia,by have:=r.un;show A.units+3+16*k+200<_;lia,r.gd⟩
def xo:(A.under (.builtin "type.__call__" ⟨.ref C::us,kw⟩)).depth=A.depth+1:=by
 first|rfl|simp[Around.under,Code.weight,Code.isCreation,Code.isGuard,Code.isCaller,Code.frames,Code.isFrame,guardIds]
def xn:(A.under (.builtin "type.__call__" ⟨.ref C::us,kw⟩)).units=A.units+1:=by
 first|rfl|simp[Around.under,Code.cUnits,Code.frames,Code.isFrame]
def Room.make(r:Room (k+1) A)(C:Addr)(us:List Value)(kw:List (Str×Value)):Room k (A.under (.builtin "type.__call__" ⟨.ref C::us,kw⟩)):=
 ⟨r.hd,by have:=r.dp;rw[xo];lia,by have:=r.un;rw[xn];lia,(by have h:=r.gd;simp[Around.under,Code.guards,Code.isGuard,guardIds,pushGuards,h])⟩
def Room.depth(r:Room k A):A.depth<recursionLimit:=by have:=r.dp;lia
def Room.units(r:Room k A):A.units+64<cLine:=by have:=r.un;lia
noncomputable def p9:TA:=λ_ H Q=>Q [] H
noncomputable def mr(ta:TE)(tr:TA):TA:=λσ H Q=>ta σ H λx H1=>tr σ H1 λxs H2=>Q (x::xs) H2
section
variable{t:TA} 
def pa_nil:PA X [] p9:=λ_ _ _ _ H Q I h=>Calls.spliced_nil ⟨[],H,I,.nil,h⟩
def fH(ha:PE X e te)(hr:PA X es t)(hs:starEach (e::es) X.env=(false,eval e X.env)::starEach es X.env:=by rfl):PA X (e::es) (mr te t):=by
 intro pos ρ s σ H Q I h;rw[hs];show wpAny _ _ (spliced ((false,eval e X.env)::backTo pos (starEach es X.env))) _ _ s;refine Calls.spliced_cons (thn (ha ρ s σ H _ I h) λu s1 ⟨x,H1,I1,r1,q1⟩=>?_);exact thn (hr pos ρ s1 σ H1 _ I1 q1) λus s2 ⟨xs,H2,I2,r2,q2⟩=>⟨x::xs,H2,I2,.cons r1 r2,q2⟩
def IZ(t:TA):TE:=λσ H Q=>t σ H λxs H1=>xs.length<=sizeLine/\∀p,H1 p=none->Q (.ref p) (upd H1 p (.tup xs))
def Jb(t:TA):TE:=λσ H Q=>t σ H λxs H1=>xs.length<=sizeLine/\∀p,H1 p=none->Q (.ref p) (upd H1 p (.lst xs))
def JA{x1}(h:PA X es t):PE X (.Tuple es x1 pos) (IZ t):=by
 intro ρ s σ H Q I hq;refine wpAny_Tuple_spliced (thn (h pos ρ s σ H _ I hq) λus s1 ⟨xs,H1,I1,r,z,q⟩=>⟨by rw[<-r.length];exact z,?_⟩);have hf:H1 s1.heap.objs.size=none:=I1.hok.fresh (zav _);refine⟨.ref s1.heap.objs.size,upd H1 s1.heap.objs.size (.tup xs),I1.laid (t':=s1.toks) (λb u e=>zaf _ e) (zav _) ?_,rfl,q _ hf⟩;exact⟨z,us,r,⟨_,zan _ rfl,rfl,_,rfl,rfl⟩⟩
def JD(h:PA X es t):PE X (.List es pos) (Jb t):=by
 intro ρ s σ H Q I hq;refine wpAny_List_spliced (thn (h pos ρ s σ H _ I hq) λus s1 ⟨xs,H1,I1,r,z,q⟩=>⟨by rw[<-r.length];exact z,?_⟩);have hf:H1 s1.heap.objs.size=none:=I1.hok.fresh (zav _);refine⟨.ref s1.heap.objs.size,upd H1 s1.heap.objs.size (.lst xs),I1.laid (t':=s1.toks) (λb u e=>zaf _ e) (zav _) ?_,rfl,q _ hf⟩;exact⟨z,us,0,r,zan _ rfl⟩
end
abbrev Sp:=List V->Hp->VK->XK->Prop
variable{sp:Sp}
abbrev CXT:=List Env->Hp->Shared->XK->Value->Shared->Prop
variable{CX:CXT}
structure Env0(P:Program)(w:World)(K:zbU)(mg:Str->Option Value)(base:Heap)(A:Around)(outer:List Env)(s:Shared)(H:Hp):Prop where
 frames:A.frames=some outer
 mod:Mod K mg base
 bs:∀b o,base.get? b=some o->s.heap.get? b=some o/\H b=none
 bsz:base.objs.size<=s.heap.objs.size
 funs:s.heap.FunFrames base outer
 frf:∀b∈frs outer,H b=none
 hok:HOk P w H s.heap
 bare:AllBare s.gens
 reg:∀P q,Rg K P q->H P=some (.tbl q)
def CE(outer:List Env)(P:Program)(w:World)(H:Hp)(s:Shared)(Q:VK)(u:Value)(s':Shared):Prop:=
 ∃v H',s'.os=s.os/\AllBare s'.gens/\Un (frs outer) [] H H' s.heap s'.heap/\HOk P w H' s'.heap/\RelV v u/\Q v H'
def CR(CX:CXT)(outer:List Env)(P:Program)(w:World)(H:Hp)(s:Shared)(Q:VK)(E:XK)(r:Result)(s':Shared):Prop:=
 match r with
 |.ok (.ret u)=>CE outer P w H s Q u s'
 |.ok _=>False
 |.error e=>CX outer H s E e s'
structure FnOk(P:Program)(w:World)(K:zbU)(mg:Str->Option Value)(base:Heap)(CX:CXT)(k:Nat)(f:Addr)(fd:FuncData)(ps:List Str)(sp:Sp):Prop where
 len:∀vs H Q E,sp vs H Q E->vs.length=ps.length
 run:∀(A:Around) (outer:List Env) (s:Shared) (H:Hp) (args:Args) (us:List Value) (vs:List V) (Q:VK) (E:XK),Room k A->Env0 P w K mg base A outer s H->BindsTo s fd args (ps.zip us)->Vals vs us->sp vs H Q E ->
  codeAny (model P w) A (.call (.ref f) args) (CR CX outer P w H s Q E) s
def FnOk.mono{P:Program}{w:World}{K:zbU}{mg:Str->Option Value}{base:Heap}{CX:CXT}{j k:Nat}{f:Addr}{fd:FuncData}{ps:List Str}{sp:Sp}(F:FnOk P w K mg base CX j f fd ps sp)(h:j<=k):
  FnOk P w K mg base CX k f fd ps sp:=⟨F.len,λA outer s H args us vs Q E hr=>F.run A outer s H args us vs Q E (hr.mono h)⟩
def FnOk.imp{mg:Str->Option Value}{sp':Sp}(F:FnOk P w K mg base CX k f fd ps sp)
  (h:∀vs H Q E,sp' vs H Q E->sp vs H Q E):FnOk P w K mg base CX k f fd ps sp':=
 ⟨λvs H Q E q=>F.len vs H Q E (h _ _ _ _ q),λA outer s H args us vs Q E hr he hb hv hs=>F.run A outer s H args us vs Q E hr he hb hv (h _ _ _ _ hs)⟩
def Env0.make{mg:Str->Option Value}(e:Env0 P w K mg base A outer s H)(C:Addr)(us:List Value)(kw:List (Str×Value)):
  Env0 P w K mg base (A.under (.builtin "type.__call__" ⟨.ref C::us,kw⟩)) outer s H:=⟨by first|exact e.frames | (simpa[Around.under,Code.envs,Code.isFrame,pushEnvs]using e.frames),e.mod,e.bs,e.bsz,e.funs,e.frf,e.hok,e.bare,e.reg⟩
def Inv.env0(I:Inv X ρ σ H s):Env0 X.prog X.w X.K X.mg X.base X.A X.stack s H:=
 ⟨I.ok.frames,I.ok.mod,I.bs,zau I.ok.bsz I.sz,I.stack,I.stkFree,I.hok,I.bare,λP q h=>I.base.tbls _ _ (I.ok.reg P q h)⟩
def Inv.after{Q:VK}(I:Inv X ρ σ H s)(h:CE X.stack X.prog X.w H s Q u s'):EP X ρ σ Q u s':=by
 obtain⟨v,H',os,bare,un,hok,r,q⟩:=h;obtain⟨hh,g,d,t,os'⟩:=s';obtain rfl:os'=s.os:=os;exact⟨v,H',I.call (h':=hh) (g':=g) (d':=d) (t':=t) (ch:=[]) un hok bare (λb z=>absurd z (by simp)),r,q⟩
noncomputable def sj(sp:Sp)(dvs:List V)(E:XK)(t:TA):TE:=λσ H Q=>t σ H λvs H1=>sp (vs++dvs) H1 Q E
noncomputable def si(C:Addr)(m:Str)(sp:Sp)(dvs:List V)(E:XK)(ta:TE)(t:TA):TE:=λσ H Q=>ta σ H λx H1=>∃a dx fs,x=.ref a/\H1 a=some (.ins C dx fs)/\fs.lookup m=none /\
 t σ H1 λvs H2=>sp (x::(vs++dvs)) H2 Q E
def El(C:Addr)(sp:Sp)(dvs:List V)(E:XK)(t:TA):TE:=λσ H Q=>t σ H λvs H1=>∀x dx,H1 x=none->H1 dx=none->dx≠x ->
 sp (.ref x::(vs++dvs)) (upd (upd H1 dx (.own x)) x (.ins C dx [])) (λv H2=>v=.non/\Q (.ref x) H2) E
def Binds(K:zbU)(fd:FuncData)(ps:List Str)(ds:List Value):Prop:=
 ∀(s:Shared) (us:List Value),K.In s.heap->(us++ds).length=ps.length->BindsTo s fd ⟨us,[]⟩ (ps.zip (us++ds))
def Binds.all(h:∀us:List Value,us.length=ps.length->bindArgs fd ⟨us,[]⟩=pure (ps.zip us)):Binds K fd ps []:=λs us _ hl=>by
 rw[zbr]at hl ⊢;exact .of_eq (h us hl)
def i6(CX:CXT)(X:Cx)(E:XK):Prop:=∀(ρ:List (Addr×Obj)) (σ:St) (H:Hp) (s:Shared) (e:Value) (s':Shared),Inv X ρ σ H s->CX X.stack H s E e s'->X.xe e s'
section
variable{dvs:List V}{ds:List Value}{E:XK}{μ:Pos}{o:Expr}{t:TA}
def sW{Q:VK}(F:FnOk X.prog X.w X.K X.mg X.base CX k f fd ps sp)(hr:Room k X.A)(hb:Binds X.K fd ps ds)(hd:Vals dvs ds)(hx:i6 CX X E)
  (I:Inv X ρ σ H s) (r:Vals vs us) (h:sp (vs++dvs) H Q E):wpAny (model X.prog X.w) X.A (call (.ref f) us) (EP X ρ σ Q) X.xe s:=by
 have r2:Vals (vs++dvs) (us++ds):=r.append hd;have hl:(us++ds).length=ps.length:=by rw[<-r2.length];exact F.len _ _ _ _ h
 refine wpAny_call (codeAny_mono (F.run X.A X.stack s H ⟨us,[]⟩ (us++ds) (vs++dvs) Q E hr I.env0 (hb s us I.kIn hl) r2 h) λr s' hq=>?_);cases r with
 |error e=>exact hx ρ σ H s e s' I hq
 |ok fl=>
  cases fl with
  |ret u=>exact I.after hq
  |next=>exact False.elim hq
  |brk=>exact False.elim hq
  |cont=>exact False.elim hq
def Fx(F:FnOk X.prog X.w X.K X.mg X.base CX k f fd ps sp)(hr:Room k X.A)(hg:Gl X x)(hm:X.mg x=some (.ref f))(hk:PySem.W.keepIn X.K (.ref f)=true)(hb:Binds X.K fd ps ds)(hd:Vals dvs ds)(hx:i6 CX X E)
  (ha:PA X (e::es) t) (hdb:(x==("__debug__":Str))=false:=by decide) (he:starEach (e::es) X.env=(false,eval e X.env)::starEach es X.env:=by rfl) (hpl:(backTo pos (starEach es X.env)).any (·.1)=false:=by rfl):
  PE X (.Call (.Name x p) (e::es) [] pos) (sj sp dvs E t):=by
 intro ρ s σ H Q I h;refine wpAny_Call_Name_kw (v3 I hg hm ?_ hdb);refine PySem.W.callWith_K (h₀:=X.base) I.ok.mod.kin hk (thn (ha pos ρ s σ H _ I h) λus s1 ⟨vs,H1,I1,r,q⟩=>⟨I1.kIn,?_⟩) he hpl;exact sW F hr hb hd hx I1 r q
def vN{pl:Sem Bool}(he:PE X o ta)(c:Cls X.K C)(hm:Meth X.K C m f)(F:FnOk X.prog X.w X.K X.mg X.base CX k f fd ps sp)(hr:Room k X.A)(hb:Binds X.K fd ps ds)(hd:Vals dvs ds)(hx:i6 CX X E)(ha:PA X (e::es) t)
  (hst:starEach (e::es) X.env=(false,eval e X.env)::starEach es X.env:=by rfl) (hpl:(backTo pos (starEach es X.env)).any (·.1)=false:=by rfl)
  (ht:eval (.Call (.Attribute o m μ) (e::es) [] pos) X.env=(do
   let ov <-eval o X.env
   standAt μ.atName
   let (f,first) <-holding [ov] (getMethod ov m pl)
   callWith pos f first (backTo pos (starEach (e::es) X.env)) (backToKw pos (keywordEach [] X.env))):=by rfl):
  PE X (.Call (.Attribute o m μ) (e::es) [] pos) (si C m sp dvs E ta t):=by
 intro ρ s σ H Q I h;refine PySem.W.methodCall_KW (pl:=pl) (thn (he ρ s σ H _ I h) λu s1 ⟨x,H1,I1,rx,a,dx,fs,ex,ea,l,q⟩=>?_) ht;subst ex;obtain rfl:u=Value.ref a:=rx;refine oY I1 ea c hm l ?_;refine PySem.W.callWith_K (first:=[.ref a]) (h₀:=X.base) I.ok.mod.kin hm.kp (thn (ha pos ρ s1 σ H1 _ I1 q) λus s2 ⟨vs,H2,I2,r,q2⟩=>⟨I2.kIn,?_⟩) hst hpl;exact sW (us:=.ref a::us) (vs:=.ref a::vs) F hr hb hd hx I2 (.cons rfl r) q2
def tm{pl:Sem Bool}(he:PE X o ta)(c:Cls X.K C)(hm:Meth X.K C m f)(F:FnOk X.prog X.w X.K X.mg X.base CX k f fd ps sp)(hr:Room k X.A)(hb:Binds X.K fd ps ds)(hd:Vals dvs ds)(hx:i6 CX X E)
  (ht:eval (.Call (.Attribute o m μ) [] [] pos) X.env=(do
   let ov <-eval o X.env
   standAt μ.atName
   let (f,first) <-holding [ov] (getMethod ov m pl)
   callWith pos f first (backTo pos (starEach [] X.env)) (backToKw pos (keywordEach [] X.env))):=by rfl):
  PE X (.Call (.Attribute o m μ) [] [] pos) (si C m sp dvs E ta p9):=by
 intro ρ s σ H Q I h;refine PySem.W.methodCall_KW (pl:=pl) (thn (he ρ s σ H _ I h) λu s1 ⟨x,H1,I1,rx,a,dx,fs,ex,ea,l,q⟩=>?_) ht;subst ex;obtain rfl:u=Value.ref a:=rx;refine oY I1 ea c hm l ?_;exact PySem.W.callWith_K0 (first:=[.ref a]) I1.kIn hm.kp (sW (us:=[.ref a]) (vs:=[.ref a]) F hr hb hd hx I1 (.cons rfl .nil) q)
structure Mk(K:zbU)(C f:Addr):Prop where
 makes:PySem.W.makesIn K C=true
 init:PySem.W.findIn K (.ref C) "__init__"=some (some (.ref f))
 fn:PySem.W.isFn K (.ref f)=true
 kp:PySem.W.keepIn K (.ref C)=true
def AL{Q:VK}(M:Mk X.K C f)(F:FnOk X.prog X.w X.K X.mg X.base CX k f fd ps sp)(hr:Room (k+1) X.A)(hb:Binds X.K fd ps ds)(hd:Vals dvs ds)
  (hx:i6 CX X E) (I:Inv X ρ σ H s) (r:Vals vs us)
  (h:∀x dx,H x=none->H dx=none->dx≠x->sp (.ref x::(vs++dvs)) (upd (upd H dx (.own x)) x (.ins C dx [])) (λv H2=>v=.non/\Q (.ref x) H2) E):
  wpAny (model X.prog X.w) X.A (call (.ref C) us) (EP X ρ σ Q) X.xe s:=by
 have hq:=h (s.heap.objs.size+1) s.heap.objs.size (I.hok.fresh (Nat.le_succ _)) (I.hok.fresh (zav _)) (zaw (zaI _));have I2:=Inv.made (C:=C) I;have r2:Vals (V.ref (s.heap.objs.size+1)::(vs++dvs)) (Value.ref (s.heap.objs.size+1)::(us++ds)):=.cons rfl (r.append hd);have hl:(Value.ref (s.heap.objs.size+1)::us++ds).length=ps.length:=by
  have e:=r2.length;rw[F.len _ _ _ _ hq]at e;exact e.symm
 refine wpAny_call (A4 (f:=f) I.kIn M.makes M.init (beq_iff_eq.mp M.fn) (codeAny_mono (F.run _ X.stack _ _ ⟨Value.ref (s.heap.objs.size+1)::us,[]⟩ (Value.ref (s.heap.objs.size+1)::(us++ds)) _ _ E (hr.make C us [])
  (I2.env0.make C us []) (hb _ (Value.ref (s.heap.objs.size+1)::us) I2.kIn hl) r2 hq) λr s' hq'=>?_))
 cases r with
 |error e=>exact hx ρ σ _ _ e s' I2 hq'
 |ok fl=>
  cases fl with
  |ret u=>
   obtain⟨v,H',I3,rv,ev,q3⟩:=I2.after hq';subst ev;exact⟨rv,⟨V.ref (s.heap.objs.size+1),H',I3,rfl,q3⟩⟩
  |next=>exact False.elim hq'
  |brk=>exact False.elim hq'
  |cont=>exact False.elim hq'
def Fv(M:Mk X.K C f)(F:FnOk X.prog X.w X.K X.mg X.base CX k f fd ps sp)(hr:Room (k+1) X.A)(hg:Gl X x)(hm:X.mg x=some (.ref C))(hb:Binds X.K fd ps ds)(hd:Vals dvs ds)(hx:i6 CX X E)
  (ha:PA X (e::es) t) (hdb:(x==("__debug__":Str))=false:=by decide) (he:starEach (e::es) X.env=(false,eval e X.env)::starEach es X.env:=by rfl) (hpl:(backTo pos (starEach es X.env)).any (·.1)=false:=by rfl):
  PE X (.Call (.Name x p) (e::es) [] pos) (El C sp dvs E t):=by
 intro ρ s σ H Q I h;refine wpAny_Call_Name_kw (v3 I hg hm ?_ hdb);refine PySem.W.callWith_K (h₀:=X.base) I.ok.mod.kin M.kp (thn (ha pos ρ s σ H _ I h) λus s1 ⟨vs,H1,I1,r,q⟩=>⟨I1.kIn,?_⟩) he hpl;exact AL M F hr hb hd hx I1 r q
end
structure FnScope(N P:List Str)(sc:Scope):Prop where
 kind:sc.kind=.function
 co:sc.isCoroutine=false
 gen:sc.isGenerator=false
 nd:N.Nodup
 pre:N.take P.length=P
 par:∀x∈P,sc.names.lookup x=some .local\/sc.names.lookup x=some .cell
 nofree:∀y∈sc.names,y.2≠.free
theorem rz{kindOf:Str->Option NameKind}{x:Str}:∀{binds:List (Str×Value)} {m:Str->Option Value},(∀v,(x,v)∉binds)->bindL kindOf binds m x=m x
 |[],_,_=>rfl
 | (n,v)::r,m,h=>by
  unfold bindL;rw[rz λw hw=>h w (zaj _ hw)];split
  .have:x≠n:=by rintro rfl;exact h v zaq
   simp[this]
  .rfl
theorem rB{kindOf:Str->Option NameKind}{x:Str}:∀{binds:List (Str×Value)} {m:Str->Option Value},(∀v,(x,v)∉binds)->bindC kindOf binds m x=m x
 |[],_,_=>rfl
 | (n,v)::r,m,h=>by
  unfold bindC;rw[rB λw hw=>h w (zaj _ hw)];split
  .rfl
  .have:x≠n:=by rintro rfl;exact h v zaq
   simp[this]
theorem rA{kindOf:Str->Option NameKind}{x:Str}{v:Value}:∀{P:List Str} {vs:List Value} {i:Nat} {m:Str->Option Value},P.Nodup->P[i]?=some x->vs[i]?=some v->kindOf x=some .local ->
  bindL kindOf (P.zip vs) m x=some v
 |[],_,_,_,_,h,_,_=>by simp at h
 |_::_,[],_,_,_,_,h,_=>by simp at h
 |p::P,w::vs,0,m,nd,h1,h2,hk=>by
  simp at h1 h2;subst h1;subst h2;show bindL kindOf ((p,w)::P.zip vs) m p=_;unfold bindL;rw[rz λv hv=>(zbc.mp nd).1 (List.of_mem_zip hv).1,if_pos hk];simp
 |p::P,w::vs,i+1,m,nd,h1,h2,hk=>by
  show bindL kindOf ((p,w)::P.zip vs) m x=_;unfold bindL;exact rA (i:=i) (zbc.mp nd).2 (by simpa using h1) (by simpa using h2) hk
theorem rC{kindOf:Str->Option NameKind}{x:Str}{v:Value}:∀{P:List Str} {vs:List Value} {i:Nat} {m:Str->Option Value},P.Nodup->P[i]?=some x->vs[i]?=some v->kindOf x≠some .local ->
  bindC kindOf (P.zip vs) m x=some v
 |[],_,_,_,_,h,_,_=>by simp at h
 |_::_,[],_,_,_,_,h,_=>by simp at h
 |p::P,w::vs,0,m,nd,h1,h2,hk=>by
  simp at h1 h2;subst h1;subst h2;show bindC kindOf ((p,w)::P.zip vs) m p=_;unfold bindC;rw[rB λv hv=>(zbc.mp nd).1 (List.of_mem_zip hv).1,if_neg hk];simp
 |p::P,w::vs,i+1,m,nd,h1,h2,hk=>by
  show bindC kindOf ((p,w)::P.zip vs) m x=_;unfold bindC;exact rC (i:=i) (zbc.mp nd).2 (by simpa using h1) (by simpa using h2) hk
noncomputable def dm(N:List Str)(vs:List V):St:=vs.map some++List.replicate (N.length-vs.length) none
def kG(CX:CXT)(P:Program)(w:World)(K:zbU)(mg:Str->Option Value)(base:Heap)(N:List Str)(qual:Str)(scope:Scope)(f:Addr)(cd:Value)(A:Around)(outer:List Env)(s:Shared)(H:Hp)(E:XK):Cx where
 prog:=P
 w:=w
 K:=K
 mg:=mg
 base:=base
 A:=A.deeper (envOfC qual scope s.heap.objs.size f cd)
 N:=N
 s₀:=s
 H₀:=H
 env:=envOfC qual scope s.heap.objs.size f cd
 outer:=outer
 stack:=envOfC qual scope s.heap.objs.size f cd::outer
 ex:=[]
 calm:=true
 fn:=λ_=>true
 pn:=[]
 xe:=λe s'=>wpAny (model P w) (A.deeper (envOfC qual scope s.heap.objs.size f cd)) (leaving (envOfC qual scope s.heap.objs.size f cd) e) (λ_ s''=>CX outer H s E e s'') (λe' s''=>CX outer H s E e' s'') s'
def uE{sc:Scope}(h:sc.names.lookup x=some .cell):∃c,(cellsFrom n sc.names []).lookup x=some c:=by
 have q:=PySem.W.cellsFrom_some sc.names n [] (.inl h);exact Option.isSome_iff_exists.mp q
def zA{mg:Str->Option Value}{cd:Value}{s1:Shared}{E:XK} 
  (S:FnScope N ps scope) (hd:A.handled=none) (e0:Env0 P w K mg base A outer s H) (hl:vs.length=ps.length) (r:Vals vs us)
  (x:InCallC s s.heap.objs.size (bindL (envOfC qual scope s.heap.objs.size f cd).kindOf (ps.zip us) λ_=>none) (cellsFrom (s.heap.objs.size+1) scope.names []) (bindC (envOfC qual scope s.heap.objs.size f cd).kindOf (ps.zip us) λ_=>none) s1):
  Inv (kG CX P w K mg base N qual scope f cd A outer s H E) [] (dm N vs) H s1:=by
 have hpl:ps.length<=N.length:=by have:=congrArg List.length S.pre;rw[zaE]at this;lia
 obtain⟨h1,tk,rfl,hk⟩:=x.done;have noA:∀b:Addr,b∉(kG CX P w K mg base N qual scope f cd A outer s H E).ex:=λb z=>absurd (show b∈([]:List Addr)from z) (by simp);refine⟨⟨e0.mod,S.kind,rfl,rfl,zav _,λy z c h1 h2=>?_,λy hy=>?_,λy c _ h=>?_,λ_=>hd,Around.frames_deeper e0.frames,.inr ⟨rfl,rfl⟩,λb z=>absurd z (noA b),e0.bs,e0.bsz,λb _ _=>noA b,λb z=>absurd z (noA b),e0.funs,e0.frf,e0.reg⟩,
  rfl,e0.bare,Un.kept hk,⟨_,x.toInCall.ns,λi y v h1 h2 h3=>?_⟩,λy c h=>⟨_,x.cell y c h⟩,e0.hok.fresh (zav _),λy c h=>?_,λp hp=>absurd (show p∈([]:List (Addr×Obj))from hp) (by simp),e0.hok.kept hk,?_,λi u e=>nomatch e⟩
 .exact name_of_addr x.apart (zaT h1) (zaT h2)
 .have hy:scope.names.lookup y=some .cell\/scope.names.lookup y=some .free:=hy;rcases hy with hy|hy
  .exact uE hy
  .exact absurd rfl (S.nofree _ (zaT hy))
 .exact Nat.le_of_lt (x.above y c (zaT h))
 .have hi:i<vs.length:=by
   unfold dm at h2;by_cases hi:i<vs.length
   .exact hi
   .rw[zbG (by simpa using hi)]at h2;rw[List.getElem?_replicate]at h2;split at h2<;>cases h2
  have ha:vs[i]?=some v:=by
   unfold dm at h2;rw[zaR (by simpa using hi),zao]at h2;cases e:vs[i]? with
   |none=>rw[e]at h2;cases h2
   |some a=>rw[e]at h2;cases h2;rfl
  obtain⟨u,hu,rv⟩:=r.get ha;have hp:ps[i]?=some y:=by
   rw[<-S.pre,List.getElem?_take_of_lt (by lia)];exact h1
  have ndP:ps.Nodup:=by rw[<-S.pre];exact S.nd.sublist (List.take_sublist _ _)
  refine⟨u,rv,?_⟩;rcases S.par y (zaW hp)with k|k
  .exact .inl ⟨k,rA ndP hp hu k⟩
  .obtain⟨c,e⟩:=uE (n:=s.heap.objs.size+1) k;refine .inr ⟨.inl k,c,e,?_⟩;have q:=x.cell y c e;rw[rC ndP hp hu (by show scope.names.lookup y≠_;rw[k];decide)]at q;exact q
 .exact e0.hok.fresh (Nat.le_of_lt (x.above y c (zaT h)))
 .unfold dm;show _=N.length;rw[zae,zad,List.length_replicate]
  lia
def Lw{mg:Str->Option Value}{params:Arguments}{dV kV doc pm cdv ct oc:Value}{an od:Option Addr}
  {osl:Array (Option Value)}  (lk:K.lookup f=some ⟨oc,od,.func (PySem.W.fnOf name qual params body scope dV kV doc pm an cdv ct),osl⟩) (hcd:PySem.W.codeIn K cdv qual=true) (S:FnScope N ps scope)
  (len:∀vs H Q E,sp vs H Q E->vs.length=ps.length)
  (hbody:∀(A:Around) (outer:List Env) (s:Shared) (H:Hp) (vs:List V) (Q:VK) (E:XK),Room k (A.deeper (envOfC qual scope s.heap.objs.size f cdv))->sp vs H Q E ->
   ∃t,PSs (kG CX P w K mg base N qual scope f cdv A outer s H E) body t/\t { nx:=λ_ H'=>Q .non H',rt:=Q } (dm N vs) H):
  FnOk P w K mg base CX (k+1) f (PySem.W.fnOf name qual params body scope dV kV doc pm an cdv ct) ps sp:=by
 refine⟨len,λA outer s H args us vs Q E hr e0 hb r hsp=>?_⟩;have hl:=len _ _ _ _ hsp;have KX:K.In s.heap:=e0.mod.kin.keeps λb o e=>(e0.bs b o e).1;have lim:s.heap.NoLimit:=e0.mod.nolimit.keeps λb o e=>(e0.bs b o e).1;have hkind:∀y∈ps.zip us,scope.names.lookup y.1=some .local\/(scope.names.lookup y.1=some .cell/\((cellsFrom (s.heap.objs.size+1) scope.names []).lookup y.1).isSome=true):=λ⟨n,v⟩ hy=>by
  rcases S.par n (List.of_mem_zip hy).1 with q|q
  .exact .inl q
  .exact .inr ⟨q,PySem.W.cellsFrom_some _ _ _ (.inl q)⟩
 refine codeAny_call_function hr.depth (KX _ _ lk) rfl S.co S.gen rfl (PySem.W.codeRec_of KX hcd) (hb _ _ _ _ ?_);refine wpAny_newFunctionEnv_cells S.kind hkind λenv he s1 x=>?_;subst he;refine⟨lim.keeps x.toInCall.keep,codeAny_func ?_⟩;obtain⟨t,ht,hq⟩:=hbody A outer s H vs Q E (hr.deeper _) hsp;have I:Inv (kG CX P w K mg base N qual scope f cdv A outer s H E) [] (dm N vs) H s1:=zA S hr.hd e0 hl r x;refine wpAny_mono (ht [] s1 (dm N vs) H _ I hq) (λfl s' hs=>?_) λe s' hs=>hs;have fin:∀{σ':St} {H':Hp} {v:V} {u:Value},Inv (kG CX P w K mg base N qual scope f cdv A outer s H E) [] σ' H' s'->RelV v u->Q v H'->CE outer P w H s Q u s':=
  λ{σ' H' v u} J rv q=>⟨v,H',J.os,J.bare,J.base,J.hok,rv,q⟩
 cases fl with
 |ret u=>
  obtain⟨v,σ',H',J,rv,q⟩:=hs;exact fin J rv q
 |next=>
  obtain⟨σ',H',J,q⟩:=hs;exact fin (v:=V.non) (u:=Value.none) J rfl q
 |brk=>
  obtain⟨_,_,_,q⟩:=hs;exact False.elim q
 |cont=>
  obtain⟨_,_,_,q⟩:=hs;exact False.elim q
section
variable{t:TA}{id T:String}{r:List V->Hp->VK->Prop}
noncomputable def tCB(r:List V->Hp->VK->Prop)(t:TA):TE:=λσ H Q=>t σ H λvs H1=>r vs H1 Q
def tq(hc:CallR X (.builtin id) r)(hg:Gl X x)(hm:X.mg x=none)(hv:bootBuiltins x=some (.builtin id))(ha:PA X (e::es) t)(hn:x≠"__name__":=by decide)(hdb:(x==("__debug__":Str))=false:=by decide)
  (he:starEach (e::es) X.env=(false,eval e X.env)::starEach es X.env:=by rfl) (hpl:(backTo pos (starEach es X.env)).any (·.1)=false:=by rfl):PE X (.Call (.Name x p) (e::es) [] pos) (tCB r t):=by
 intro ρ s σ H Q I h;refine wpAny_Call_Name_kw (jQ I hg hm hv ?_ hn hdb);exact PyProof.Rows.callWith_builtin1 (thn (ha pos ρ s σ H _ I h) λus s1 ⟨vs,H1,I1,r1,q1⟩=>hc ρ s1 σ H1 vs us Q I1 r1 q1) he hpl
def yO(hc:CallR X (.type T) r)(hg:Gl X x)(hm:X.mg x=none)(hv:bootBuiltins x=some (.type T))(ha:PA X (e::es) t)(hn:x≠"__name__":=by decide)(hdb:(x==("__debug__":Str))=false:=by decide)
  (he:starEach (e::es) X.env=(false,eval e X.env)::starEach es X.env:=by rfl) (hpl:(backTo pos (starEach es X.env)).any (·.1)=false:=by rfl):PE X (.Call (.Name x p) (e::es) [] pos) (tCB r t):=by
 intro ρ s σ H Q I h;refine wpAny_Call_Name_kw (jQ I hg hm hv ?_ hn hdb);exact PyProof.Rows.callWith_type1 (thn (ha pos ρ s σ H _ I h) λus s1 ⟨vs,H1,I1,r1,q1⟩=>hc ρ s1 σ H1 vs us Q I1 r1 q1) he hpl
end
end L2
namespace HT
variable{t sl:Addr}{Q:Value->Shared->Prop}{vl vu:Value}{lo hi:Option Int}
open PySem PyProof.Rows
section
open PySem.SeqAt
open PySem.AutoSeq1 (wpAny_loadPart')
open PySem.MeetsSeq PySem.MeetsSeq2 PySem.MeetsSeq3
end
section
variable{prog:Program}{w:World}{A:Around}{E:Value->Shared->Prop}{s:Shared}
def cat_tup{b:Addr}{vs ws:List Value}(ht:IsTup s.heap t vs.toArray)(hb:IsTup s.heap b ws.toArray)(hv:vs≠[])
  (h1:ws=[]->Q (.ref t) s) (h2:ws≠[]->Q (.ref s.heap.objs.size) { s with heap:=s.heap.push { cls:=.type "tuple",data:=.seq (vs++ws).toArray } })
  (hsz:vs.length+ws.length<=sizeLine):wpAny (model prog w) A (binaryOp .Add (.ref t) (.ref b)) Q E s:=by
 obtain⟨⟨cls,dd,data,sl⟩,ho,hc,n,hd⟩:=id ht;obtain⟨⟨cls2,dd2,data2,sl2⟩,ho2,hc2,n2,hd2⟩:=id hb;simp only at hc hd hc2 hd2;subst hc hd hc2 hd2;have e:vs.toArray++ws.toArray=(vs++ws).toArray:=by simp
 by_cases hw:ws=[]
 .exact concat_meets ⟨_,ho,rfl⟩ ⟨_,ho2,rfl⟩ noFill_tuple_add seq_tuple_add PySem.F.slot_tuple_add PySem.F.entry_tuple_add (PySem.F.args_tuple_add_2 _ _)
   (tuple_addW1 t b vs.toArray ws.toArray n n2 dd dd2 sl sl2 (by simpa using hv) (by simp[hw])) ⟨ho,ho2,h1 hw⟩
 .refine concat_meets ⟨_,ho,rfl⟩ ⟨_,ho2,rfl⟩ noFill_tuple_add seq_tuple_add PySem.F.slot_tuple_add PySem.F.entry_tuple_add (PySem.F.args_tuple_add_2 _ _)
   (tuple_addW2 t b vs.toArray ws.toArray n n2 dd dd2 sl sl2 (by simpa using hv) (by simpa using hw) (by rw[zai,zai];exact hsz)) ⟨ho,ho2,?_⟩
  rw[e];exact h2 hw
noncomputable def sIx(n d:Nat):Option Int->Nat
 |none=>d
 |some v=>if v<0 then(v+(n:Int)).toNat else min v.toNat n
theorem sIx_none(n d:Nat):sIx n d none=d:=rfl
def sIx_nat(n d k:Nat):sIx n d (some (k:Int))=min k n:=by
 show(if(k:Int)<0 then((k:Int)+(n:Int)).toNat else min (k:Int).toNat n)=min k n;rw[if_neg (by lia),zaK]
def sV(n d:Nat)(hd:d<=n)(o:Option Int):sIx n d o<=n:=by
 cases o with
 |none=>exact hd
 |some v=>
  show(if v<0 then(v+(n:Int)).toNat else min v.toNat n)<=n;by_cases hv:v<0
  .rw[if_pos hv];lia
  .rw[if_neg hv];exact Nat.min_le_right _ _
def clip_eq(v:Int)(n d:Nat):(if v<0 then max (v+(n:Int)) 0 else min v (n:Int))=((sIx n d (some v):Nat):Int):=by
 show(if v<0 then max (v+(n:Int)) 0 else min v (n:Int))=(((if v<0 then(v+(n:Int)).toNat else min v.toNat n):Nat):Int);by_cases hv:v<0
 .simp only[if_pos hv];lia
 .simp only[if_neg hv];lia
def xW(lo hi:Option Int)(n:Nat):Builtin.Slice.sliceAdjust lo hi 1 (n:Int)=(((sIx n 0 lo:Nat):Int),((sIx n n hi:Nat):Int)):=by
 have h1:¬((1:Int)<0):=by lia
 unfold Builtin.Slice.sliceAdjust;simp only[h1,if_false];refine Prod.ext ?_ ?_
 .cases lo with
  |none=>rfl
  |some v=>exact clip_eq v n 0
 .cases hi with
  |none=>rfl
  |some v=>exact clip_eq v n n
def wT(i j:Nat):Builtin.Slice.slicePlaces (i:Int) (j:Int) 1=j-i:=by
 unfold Builtin.Slice.slicePlaces;have h1:(1:Int)>0:=by lia
 simp only[h1,if_true,Int.ediv_one];split<;>lia
def slicePart_{v:Value}{o:Option Int}{Q:Option Int->Shared->Prop}(p:IsPart v o)(h:Q o s):wpAny (model prog w) A (Builtin.Slice.slicePartIndex v) Q E s:=by
 cases p with
 |none=>exact slicePart_none h
 |int i t=>exact slicePart_int h
def iO{n:Nat}{Q:Int×Int×Nat->Shared->Prop}(hs:s.heap.IsSliceOf sl vl vu .none)(pl:IsPart vl lo)(pu:IsPart vu hi)
  (h:Q (((sIx n 0 lo:Nat):Int),1,sIx n n hi-sIx n 0 lo) s):wpAny (model prog w) A (Builtin.Slice.sliceApplied (.ref sl) (pure (n:Int))) Q E s:=by
 obtain⟨os,hos,hcs,hds⟩:=id hs;unfold Builtin.Slice.sliceApplied Builtin.Slice.sliceFields;refine zam (zam (wpAny_field hos hds (x:=vl) rfl (zam (wpAny_field hos hds (x:=vu) rfl (zam (wpAny_field hos hds (x:=.none) rfl (zaS ?_)))))));refine zam (slicePart_none ?_);show wpAny _ _ (if((1:Int)==0)=true then _ else _) _ _ s;rw[if_neg (by decide)];refine zam (slicePart_ pl (zam (slicePart_ pu (zam (zaS ?_)))));show wpAny _ _ (match Builtin.Slice.sliceAdjust lo hi 1 (n:Int)with | (lo,hi)=>pure (lo,(1:Int),Builtin.Slice.slicePlaces lo hi 1)) _ _ s;rw[xW lo hi n];show wpAny _ _ (pure (((sIx n 0 lo:Nat):Int),(1:Int),Builtin.Slice.slicePlaces ((sIx n 0 lo:Nat):Int) ((sIx n n hi:Nat):Int) 1)) _ _ s;rw[wT];exact zaS h
def AT(xs:Array Value)(i k:Nat):((List.range k).filterMap λ(m:Nat)=>xs[((i:Int)+(m:Int)*1).toNat]?).toArray=((xs.toList.drop i).take k).toArray:=by
 have e:(λ(m:Nat)=>xs[((i:Int)+(m:Int)*1).toNat]?)=λm=>xs[i+m]?:=by
  funext m
  have:((i:Int)+(m:Int)*1).toNat=i+m:=by lia
  rw[this]
 rw[e]
 have:=pick_run xs i k;rw[List.filterMap_map]at this;have e2:((λx=>xs[x]?)∘λx=>i+x)=λm=>xs[i+m]?:=rfl;rw[e2]at this;rw[this]
def getItem_tuple_cut{items:Array Value}(ht:IsTup s.heap t items)(hs:s.heap.IsSliceOf sl vl vu .none)(pl:IsPart vl lo)(pu:IsPart vu hi)
  (hw:¬(sIx items.size 0 lo=0/\sIx items.size items.size hi=items.size))
  (h:Q (.ref s.heap.objs.size) { s with heap:=s.heap.push { cls:=.type "tuple",data:=.seq ((items.toList.drop (sIx items.size 0 lo)).take (sIx items.size items.size hi-sIx items.size 0 lo)).toArray } })
  (hsz:items.size<=sizeLine):wpAny (model prog w) A (getItem (.ref t) (.ref sl)) Q E s:=by
 have xN:sizeOk (.seq ((items.toList.drop (sIx items.size 0 lo)).take (sIx items.size items.size hi-sIx items.size 0 lo)).toArray):=by
  show((items.toList.drop (sIx items.size 0 lo)).take (sIx items.size items.size hi-sIx items.size 0 lo)).toArray.size<=sizeLine;rw[zai,zaE,zaF,zaX]
  lia
 have hj:sIx items.size items.size hi<=items.size:=sV _ _ (zav _) hi;obtain⟨os,hos,hcs,hds⟩:=id hs;have hTs:s.TypeIs (.ref sl) "slice":=⟨os,hos,hcs⟩;unfold getItem
 try with_reducible refine zbO ?_
 first|refine zam (zaS ?_)|skip
 refine zam (wpAny_sequenceKey ht.typeIs (by decide) ?_);refine zam (zbz (name:=Str.ofString "__getitem__") ht.typeIs PyProof.Rows.slot_tuple_getitem
  (wpAny_call_entry PyProof.Rows.slot_tuple_getitem ht.typeIs entry_tuple_getitem ?_ (args_tuple_getitem _ _)))
 show wpAny _ _ (Builtin.Tuple.tupleItemsOf (.ref t) >>= _) _ _ s;refine zam (tupleItemsOf_ ht ?_);refine zam (wpAny_typeOf hTs ?_);rw[if_pos (by decide)];refine zam (iO hs pl pu ?_);have hno:¬((((sIx items.size 0 lo:Nat):Int)==0&&(1:Int)==1&&(sIx items.size items.size hi-sIx items.size 0 lo)==items.size)=true):=by
  intro q;rw[zbm,zbm]at q;have q1:((sIx items.size 0 lo:Nat):Int)=0:=eq_of_beq q.1.1;have q2:sIx items.size items.size hi-sIx items.size 0 lo=items.size:=eq_of_beq q.2;exact hw ⟨by lia,by lia⟩
 show wpAny _ _ (if(((sIx items.size 0 lo:Nat):Int)==0&&(1:Int)==1&&(sIx items.size items.size hi-sIx items.size 0 lo)==items.size)=true then _ else _) _ _ s;rw[if_neg hno,AT]
 first
  |exact zam (m:=Builtin.Tuple.tupleExact _) (wpAny_newObj_type (zaS ⟨_,rfl,zaS h⟩) xN)
  |exact zam (m:=Builtin.Tuple.tupleExact _) (wpAny_newObj_type (zam (zaS (zaS ⟨_,rfl,zaS h⟩))) xN)
  |exact zam (zam (m:=Builtin.Tuple.tupleExact _) (wpAny_newObj_type (zaS (zaS ⟨_,rfl,zaS h⟩)) xN))
  |exact zam (zam (m:=Builtin.Tuple.tupleExact _) (wpAny_newObj_type (zaS ⟨_,rfl,zaS h⟩) xN))
end
end HT
namespace L2
variable{X:Cx}{e:Expr}{pos:Pos}{xs ys:List V}{us its its':List Value}{n t':Nat}{i:Int}{r:R2}{ρ:List (Addr×Obj)}{σ:St}{H:Hp}{s:Shared}{T:String}{x:V}
open PySem PySem.Spec PyProof.Rows
abbrev TO:=St->Hp->(Option Int->Hp->Prop)->Prop
def PO(X:Cx)(e:Option Expr)(t:TO):Prop:=
 ∀(ρ:List (Addr×Obj)) (s:Shared) (σ:St) (H:Hp) (Q:Option Int->Hp->Prop),Inv X ρ σ H s->t σ H Q ->
  wpAny (model X.prog X.w) X.A (evalPart e X.env) (λu s'=>∃o H',Inv X ρ σ H' s'/\IsPart u o/\Q o H') X.xe s
structure QO(X:Cx)(e:Option Expr)(t:TO):Prop where
 h:PO X e t
noncomputable def E3:TO:=λ_ H Q=>Q none H
noncomputable def K2(t:TE):TO:=λσ H Q=>t σ H λx H1=>∃i,x=.int i/\Q (some i) H1
def xB{ns:List Int}:∀{us:List Value},Vals (ns.map V.int) us->IntsAre us ns:=by
 induction ns with
 |nil=>intro us r;rw[zaZ]at r;cases r;exact .nil
 |cons n ns ih=>
  intro us r;rw[zar]at r;cases r with
  |cons r1 r2=>
   obtain⟨t,e⟩:=r1;subst e;exact .cons n t (ih r2)
section
variable{te:TE}{lo hi:Option Expr}{tl th:TO}{p2:Pos}
def po_none:PO X none E3:=by
 intro ρ s σ H Q I h;rw[evalPart_none];exact zaS ⟨none,H,I,.none,h⟩
def Fo(h:PE X e te):PO X (some e) (K2 te):=by
 intro ρ s σ H Q I hw;rw[evalPart_some];refine thn (h ρ s σ H _ I hw) ?_;rintro u s1 ⟨x,H1,I1,r1,q1⟩;obtain⟨i,rfl,q⟩:=q1;obtain⟨t,rfl⟩:=r1;exact⟨some i,H1,I1,.int i t,q⟩
def SlR(X:Cx)(r:V->Option Int->Option Int->Hp->VK->Prop):Prop:=
 ∀(ρ:List (Addr×Obj)) (s:Shared) (σ:St) (H:Hp) (x:V) (v vl vu:Value) (lo hi:Option Int) (sl:Addr) (Q:VK),Inv X ρ σ H s->RelV x v->s.heap.IsSliceOf sl vl vu .none->IsPart vl lo->IsPart vu hi->r x lo hi H Q ->
  ∃T id,typeLookup (.type T) "__getitem__"=pure (some (.builtin id))/\s.TypeIs v T/\wpAny (model X.prog X.w) X.A (getItem v (.ref sl)) (EP X ρ σ Q) X.xe s
noncomputable def tSl(r:V->Option Int->Option Int->Hp->VK->Prop)(te:TE)(tl th:TO):TE:=λσ H Q=>te σ H λx H1=>tl σ H1 λl H2=>th σ H2 λu H3=>r x l u H3 Q
def AV{r:V->Option Int->Option Int->Hp->VK->Prop}(hr:SlR X r)(he:PE X e te)(hl:PO X lo tl)(hu:PO X hi th):PE X (.Subscript e (.Slice lo hi none p2) pos) (tSl r te tl th):=by
 intro ρ s σ H Q I h;refine Subscript_ (thn (he ρ s σ H _ I h) λv s1 ⟨x,H1,I1,r1,q1⟩=>?_);refine wpAny_Slice (thn (hl ρ s1 σ H1 _ I1 q1) λvl s2 ⟨l,H2,I2,pl,q2⟩=>thn (hu ρ s2 σ H2 _ I2 q2) λvu s3 ⟨u,H3,I3,pu,q3⟩=>?_);rw[evalPart_none];refine zaS ?_;have I4:Inv X ρ σ H3 { s3 with heap:=s3.heap.push { cls:=.type "slice",data:=.fields #[vl,vu,.none] } }:=I3.kept (t':=s3.toks) λb ob q=>zaf _ q;obtain⟨T,id,hT,ht,hg⟩:=hr ρ { s3 with heap:=s3.heap.push { cls:=.type "slice",data:=.fields #[vl,vu,.none] } } σ H3 x v vl vu l u s3.heap.objs.size Q I4 r1 (Heap.IsSliceOf.new ..) pl pu q3;show wpAny (model X.prog X.w) X.A (subscriptTail e (.Slice lo hi none p2) v (.ref s3.heap.objs.size)) (EP X ρ σ Q) X.xe { s3 with heap:=s3.heap.push { cls:=.type "slice",data:=.fields #[vl,vu,.none] } };exact tail_any (ops:=[.ref s3.heap.objs.size,v]) ht hT hg (by with_unfolding_all rfl)
def qC(xs:List V)(lo hi:Option Int):List V:=(xs.drop (HT.sIx xs.length 0 lo)).take (HT.sIx xs.length xs.length hi-HT.sIx xs.length 0 lo)
def vn(xs:List V)(lo hi:Option Int):(qC xs lo hi).length<=xs.length:=by
 unfold qC;rw[zaE,zaF]
 lia
def Jm(K:zbU):V->Option Int->Option Int->Hp->VK->Prop:=λx lo hi H Q=>∃a xs,x=.ref a/\SqT K H a xs /\
 ¬(HT.sIx xs.length 0 lo=0/\HT.sIx xs.length xs.length hi=xs.length)/\∀p,H p=none->Q (.ref p) (upd H p (.tup (qC xs lo hi)))
def Jh:SlR X (Jm X.K):=by
 intro ρ s σ H x v vl vu lo hi sl Q I rx hs pl pu h;obtain⟨a,xs,rfl,hx,hw,q⟩:=h;cases rx;obtain⟨its,r,ht,hz⟩:=I.tuple hx;have ξ:its.toArray.size=xs.length:=by rw[zai];exact r.length.symm
 refine⟨"tuple",_,PyProof.Rows.slot_tuple_getitem.lookup,ht.typeIs,?_⟩;refine HT.getItem_tuple_cut ht hs pl pu (by rw[ξ];exact hw) ?_ (by rw[ξ];exact hz);rw[ξ];refine⟨.ref s.heap.objs.size,_,I.laid (t':=s.toks) (o:=.tup (qC xs lo hi)) (λb ob q=>zaf _ q) (zav _) ?_,rfl,q _ (I.hok.fresh (zav _))⟩;exact⟨zau (vn xs lo hi) hz,_,(r.drop (HT.sIx xs.length 0 lo)).take (HT.sIx xs.length xs.length hi-HT.sIx xs.length 0 lo),IsTupN.new _ _⟩
def Ew(K:zbU):R2:=λx y H Q=>∃a b xs ys,x=.ref a/\y=.ref b/\SqT K H a xs/\SqT K H b ys/\xs≠[]/\xs.length+ys.length<=sizeLine /\
 (ys=[]->Q (.ref a) H)/\(ys≠[]->∀p,H p=none->Q (.ref p) (upd H p (.tup (xs++ys))))
def Vals.nil_iff(r:Vals xs us):us=[]↔xs=[]:=by
 cases r with
 |nil=>simp
 |cons _ _=>simp
def FC:OpR X (binaryOp .Add) (Ew X.K):=by
 intro ρ s σ H x y v u Q I rx ry h;obtain⟨a,b,xs,ys,rfl,rfl,ha,hb,hx,hz,q1,q2⟩:=h;cases rx;cases ry;obtain⟨its,r1,p1,_⟩:=I.tuple ha;obtain⟨ν,r2,p2,_⟩:=I.tuple hb;refine HT.cat_tup p1 p2 (λz=>hx (r1.nil_iff.mp z)) (λz=>⟨.ref a,H,I,rfl,q1 (r2.nil_iff.mp z)⟩) (λz=>?_) (by rw[<-r1.length,<-r2.length];exact hz);refine⟨.ref s.heap.objs.size,_,I.laid (t':=s.toks) (o:=.tup (xs++ys)) (λb ob q=>zaf _ q) (zav _) ?_,rfl,q2 (λw=>z (r2.nil_iff.mpr w)) _ (I.hok.fresh (zav _))⟩;exact⟨by rw[zae];exact hz,_,r1.append r2,IsTupN.new _ _⟩
end
noncomputable def ixN(n:Nat)(i:Int):Option Nat:=if 0<=i then(if i<n then some i.toNat else none)else if -(n:Int)<=i then some (i+n).toNat else none
def atI{α:Type}(xs:List α)(i:Int):Option α:=(ixN xs.length i).bind λj=>xs[j]?
def v6{j:Nat}(h:ixN n i=some j):seqIndex? i n=some j/\j<n/\-(n:Int)<=i/\i<n:=by
 unfold ixN at h;by_cases h0:0<=i
 .rw[if_pos h0]at h;by_cases h1:i<n
  .rw[if_pos h1]at h;have e:i.toNat=j:=zat h;exact⟨by rw[seqIndex_of h0 h1,e],by lia,by lia,h1⟩
  .rw[if_neg h1]at h;cases h
 .rw[if_neg h0]at h;by_cases h1:-(n:Int)<=i
  .rw[if_pos h1]at h;have e:(i+n).toNat=j:=zat h;exact⟨by rw[seqIndex_neg (by lia) h1,e],by lia,h1,by lia⟩
  .rw[if_neg h1]at h;cases h
def qI{α:Type}{xs:List α}{v:α}(h:atI xs i=some v):∃j,seqIndex? i xs.length=some j/\xs[j]?=some v/\j<xs.length/\-(xs.length:Int)<=i/\i<xs.length:=by
 unfold atI at h;cases e:ixN xs.length i with
 |none=>rw[e]at h;cases h
 |some j=>
  rw[e]at h;obtain⟨h1,h2,h3,h4⟩:=v6 e;exact⟨j,h1,h,h2,h3,h4⟩
def mI(b:Expr):Prop:=∀o i,subscripted b false o i=operate [o,i] (getItem o i)
def IxR(X:Cx)(r:R2):Prop:=
 ∀(value slice:Expr) (ρ:List (Addr×Obj)) (s:Shared) (σ:St) (H:Hp) (x y:V) (v u:Value) (Q:VK),Inv X ρ σ H s->RelV x v->RelV y u->r x y H Q ->
  subscripted slice false v u=operate [v,u] (getItem v u)->wpAny (model X.prog X.w) X.A (subscriptTail value slice v u) (EP X ρ σ Q) X.xe s
def MtR(X:Cx)(id:String)(r:V->List V->Hp->VK->Prop):Prop:=
 ∀(ρ:List (Addr×Obj)) (s:Shared) (σ:St) (H:Hp) (x:V) (xs:List V) (v:Value) (us:List Value) (Q:VK),Inv X ρ σ H s->RelV x v->Vals xs us->r x xs H Q ->
  wpAny (model X.prog X.w) X.A (call (.builtin id) (v::us)) (EP X ρ σ Q) X.xe s
section
variable{a b:Expr}{ta tb:TE} 
def IxR.or{r':R2}(h:IxR X r)(h':IxR X r'):IxR X (λx y H Q=>r x y H Q\/r' x y H Q):=by
 intro value slice ρ s σ H x y v u Q I rx ry q hs;rcases q with q|q
 .exact h value slice ρ s σ H x y v u Q I rx ry q hs
 .exact h' value slice ρ s σ H x y v u Q I rx ry q hs
def wV(hr:IxR X r)(ha:PE X a ta)(hb:PE X b tb)(hs:mI b):PE X (.Subscript a b pos) (tOp r ta tb):=by
 intro ρ s σ H Q I h;exact Subscript_ (B6 ha hb I h λv u s2 x y H2 I2 rx ry q=>hr a b ρ s2 σ H2 x y v u Q I2 rx ry q (hs _ _))
def wS(K:zbU):R2:=λx y H Q=>∃p xs i v,x=.ref p/\y=.int i/\SqL K H p xs/\atI xs i=some v/\Q v H
def Jn(K:zbU):R2:=λx y H Q=>∃p xs i v,x=.ref p/\y=.int i/\SqT K H p xs/\atI xs i=some v/\Q v H
def Jo:R2:=λx y H Q=>∃z i c,x=.str z/\y=.int i/\z.length<=sizeLine/\atI z.cps.toList i=some c/\Q (.str ⟨#[c]⟩) H
def ix_list:IxR X (wS X.K):=by
 intro value slice ρ s σ H x y v u Q I rx ry h hs;obtain⟨p,xs,i,z,rfl,rfl,hq,he,q⟩:=h;cases rx;obtain⟨t,rfl⟩:=ry;obtain⟨its,r,pl,hz⟩:=I.list hq;obtain⟨j,h1,h2,h3,h4,h5⟩:=qI he;obtain⟨w,ew,rw'⟩:=r.get h2;have hl:=r.length;have hn:=ly;have fin:EP X ρ σ Q w s:=⟨z,H,I,rw',q⟩;by_cases h0:0<=i
 .have hj:i.toNat=j:=by
   rw[seqIndex_of h0 h5]at h1;exact zat h1
  exact item_listR pl.isList h0 (by lia) (by rw[hj];simpa using ew) fin hs
 .have hj:(i+(its.toArray.size:Int)).toNat=j:=by
   rw[seqIndex_neg (by lia) h4]at h1;rw[zai,<-hl];exact zat h1
  exact subscriptTail_builtinR (x:=w) pl.isList.typeIs slot_list_getitem.lookup
   (wpAny_getItem_list_neg (Q:=λr s'=>r=w/\EP X ρ σ Q r s') pl.isList (by lia) (by rw[zai]<;>lia) (by lia) (by rw[hj];simpa using ew) ⟨rfl,fin⟩) hs
def ix_tup:IxR X (Jn X.K):=by
 intro value slice ρ s σ H x y v u Q I rx ry h hs;obtain⟨p,xs,i,z,rfl,rfl,hq,he,q⟩:=h;cases rx;obtain⟨t,rfl⟩:=ry;obtain⟨its,r,pl,hz⟩:=I.tuple hq;obtain⟨j,h1,h2,h3,h4,h5⟩:=qI he;obtain⟨w,ew,rw'⟩:=r.get h2;have hl:=r.length;have hn:=ly;have fin:EP X ρ σ Q w s:=⟨z,H,I,rw',q⟩;exact subscriptTail_builtinR (x:=w) pl.typeIs slot_tuple_getitem.lookup
  (getItem_tuple (j:=j) (Q:=λr s'=>r=w/\EP X ρ σ Q r s') pl (by lia) (by lia) (by rw[zai,<-hl];exact h1) (by simpa using ew) ⟨rfl,fin⟩) hs
def ix_str:IxR X Jo:=by
 intro value slice ρ s σ H x y v u Q I rx ry h hs;obtain⟨z,i,c,rfl,rfl,hz,he,q⟩:=h;obtain⟨t,rfl⟩:=rx;obtain⟨t',rfl⟩:=ry;obtain⟨j,h1,h2,h3,h4,h5⟩:=qI he;have hl:z.cps.toList.length=z.length:=by simp[Str.length]
 rw[hl]at h1 h4 h5;have hn:=ly;exact tail_any (typeIs_str s z t) slot_str_getitem.lookup (getItem_str (c:=c) (by
  have e1:decide (i < -(2 ^ 63:Int))=false:=zaA (by lia);have e2:decide (i >= 2 ^ 63)=false:=zaA (by lia);rw[e1,e2,Bool.or_false]) (by rw[h1];simpa using h2) ⟨.str ⟨#[c]⟩,H,I.tok _,⟨_,rfl⟩,q⟩) hs
def rIx(K:zbU):R2:=λx y H Q=>wS K x y H Q\/Jn K x y H Q\/Jo x y H Q
def ix_seq:IxR X (rIx X.K):=ix_list.or (ix_tup.or ix_str)
def xm(its:List Value)(n j:Nat)(u:Value):Obj.mapSeq (·.setIfInBounds j u) { cls:=.type "list",data:=.seq its.toArray n }={ cls:=.type "list",data:=.seq (its.set j u).toArray n }:=by
 simp[Obj.mapSeq]
def Inv.lst{ρ:List (Addr×Obj)}{σ:St}{H:Hp}{s:Shared}{p:Addr}{xs:List V}(I:Inv X ρ σ H s)(h:H p=some (.lst xs)):
  ∃(its:List Value) (n:Nat),Vals xs its/\s.heap.get? p=some { cls:=.type "list",data:=.seq its.toArray n }/\xs.length<=sizeLine:=by
 obtain⟨z,its,n,r,e⟩:=I.hok p _ h;exact⟨its,n,r,e,z⟩
def Inv.lstUpd{p:Addr}{n':Nat}{f:Obj->Obj}(I:Inv X ρ σ H s)(h:H p=some (.lst xs))
  (ho:s.heap.get? p=some { cls:=.type "list",data:=.seq its.toArray n }) (hf:f { cls:=.type "list",data:=.seq its.toArray n }={ cls:=.type "list",data:=.seq its'.toArray n' }) (r:Vals ys its') (hz:ys.length<=sizeLine) (t:Nat):
  Inv X ρ σ (upd H p (.lst ys)) { s with heap:=s.heap.update p f,toks:=t }:=by
 have e:(s.heap.update p f).get? p=some { cls:=.type "list",data:=.seq its'.toArray n' }:=by
  rw[Heap.get?_update_self f ho (by rw[hf]<;>rfl),hf]
 refine I.write (x:=p) (e:=p) (by rw[h];trivial) (.inl rfl) (λb u hb q=>(Heap.get?_update_other _ _ (Ne.symm hb)).trans q) ⟨_,e⟩ ?_;exact⟨hz,its',n',r,e⟩
def Eu:V->V->V->Hp->(Hp->Prop)->Prop:=λo i v H Q=>∃p xs k j,o=.ref p/\i=.int k/\H p=some (.lst xs)/\ixN xs.length k=some j/\Q (upd H p (.lst (xs.set j v)))
def AJ:KO X Eu:=by
 intro ρ s σ H o i v ov iv u Q I ro ri rv h;obtain⟨p,xs,k,j,rfl,rfl,hp,hj,q⟩:=h;cases ro;obtain⟨t,rfl⟩:=ri;obtain⟨its,n,r,ho,hz⟩:=I.lst hp;obtain⟨h1,h2,h3,h4⟩:=v6 hj;have hl:=r.length;have hn:=ly;have I':Inv X ρ σ (upd H p (.lst (xs.set j v))) { s with heap:=s.heap.update p (Obj.mapSeq (·.setIfInBounds j u)) }:=
  I.lstUpd hp ho (xm its n j u) (r.set rv j) (by rw[zaU];exact hz) s.toks
 by_cases h0:0<=k
 .have hk:k.toNat=j:=by
   rw[seqIndex_of h0 h4]at h1;exact zat h1
  exact PySem.W.ki_setAt ho h0 (by lia) (by rw[zai,<-hl];exact h4) (by rw[hk];exact⟨_,I',q⟩)
 .have hk:(k+(its.toArray.size:Int)).toNat=j:=by
   rw[seqIndex_neg (by lia) h3]at h1;rw[zai,<-hl];exact zat h1
  exact PySem.W.ki_setBack ho (by lia) (by rw[zai,<-hl];exact h3) (by lia) (by rw[hk];exact⟨_,I',q⟩)
def sQ(lo hi:Option Int)(n:Nat):(sliceBounds lo hi none n).1=((HT.sIx n 0 lo:Nat):Int)/\(sliceBounds lo hi none n).2.1=((HT.sIx n n hi:Nat):Int)/\(sliceBounds lo hi none n).2.2=1:=by
 refine⟨?_,?_,rfl⟩
 .cases lo with
  |none=>simp[sliceBounds,HT.sIx]
  |some i=>
   simp only[sliceBounds,HT.sIx,Option.getD_none,show(1:Int)>0 by decide,if_true];by_cases h:i<0
   .simp only[h,if_true]<;>lia
   .simp only[h,if_false]<;>lia
 .cases hi with
  |none=>simp[sliceBounds,HT.sIx]
  |some i=>
   simp only[sliceBounds,HT.sIx,Option.getD_none,show(1:Int)>0 by decide,if_true];by_cases h:i<0
   .simp only[h,if_true]<;>lia
   .simp only[h,if_false]<;>lia
def rZ:CallR X (.type "tuple") (λxs H Q=>∃p ys,xs=[.ref p]/\((SqL X.K H p ys/\∀l,H l=none->Q (.ref l) (upd H l (.tup ys)))\/(SqT X.K H p ys/\Q (.ref p) H))):=by
 intro ρ s σ H xs us Q I r h;obtain⟨p,ys,rfl,h⟩:=h;obtain⟨u,rfl,rx⟩:=iy r;cases rx;rcases h with⟨hq,q⟩|⟨hq,q⟩
 .obtain⟨its,r',pl,hz⟩:=I.list hq;have ξ:=r'.length;refine call_tuple_list pl.isList (λh' kp=>?_) (by simp only[zai]<;>lia);have I1:Inv X ρ σ H { s with heap:=h' }:=I.kept (t':=s.toks) kp;have I2:Inv X ρ σ (upd H h'.objs.size (.tup ys)) { s with heap:=h'.push { cls:=.type "tuple",data:=.seq its.toArray } }:=
   I1.laid (t':=s.toks) (λb o e=>zaf _ e) (zav _) (show ObjOk X.prog X.w _ _ _ (.tup ys)from⟨hz,its,r',IsTupN.new _ _⟩)
  exact⟨.ref h'.objs.size,_,I2,rfl,q _ (I1.hok.fresh (zav _))⟩
 .obtain⟨its,r',pl,hz⟩:=I.tuple hq;exact call_tuple_same pl ⟨.ref p,H,I,rfl,q⟩
def tyV(K:zbU)(T:String)(x:V)(H:Hp):Prop:=match x with
 |.str _=>T="str"
 |.int _=>T="int"
 |.ref p=>(T="list"/\∃xs,SqL K H p xs)\/(T="tuple"/\∃o,K.lookup p=some o/\o.cls=.type "tuple"/\o.dict=none) \/
   (T="dict"/\((∃kvs,H p=some (.dK kvs))\/∃kvs ad,H p=some (.dT kvs ad)))\/(T="set"/\∃S n,H p=some (.set S n))
 |_=>False
def IR{v:Value}(I:Inv X ρ σ H s)(r:RelV x v)(ty:tyV X.K T x H):
  s.TypeIs v T/\∀a,v=.ref a->∃ob,s.heap.get? a=some ob/\ob.dict=none:=by
 cases x with
 |str z=>
  obtain⟨t,rfl⟩:=r;cases(show T="str" from ty);exact⟨typeIs_str s z t,λ_ e=>nomatch e⟩
 |int i=>
  obtain⟨t,rfl⟩:=r;cases(show T="int" from ty);exact⟨typeIs_int s i t,λ_ e=>nomatch e⟩
 |ref p=>
  cases r;rcases ty with⟨rfl,xs,hq⟩|⟨rfl,o,hk,hc,hd⟩|⟨rfl,hk⟩|⟨rfl,S,n,hk⟩
  .obtain⟨its,_,pl,_⟩:=I.list hq;refine⟨pl.isList.typeIs,λa e=>?_⟩;cases e;obtain⟨o,n,e,c,hd,_⟩:=pl;exact⟨o,e,hd⟩
  .refine⟨⟨o,I.kIn p o hk,hc⟩,λa e=>?_⟩;cases e;exact⟨o,I.kIn _ o hk,hd⟩
  .have z:∃o,s.heap.get? p=some o/\o.ExactDict:=by
    rcases hk with⟨kvs,hk⟩|⟨kvs,ad,hk⟩
    .obtain⟨_,_,_,_,o,_,_,e,ex,_⟩:=I.hok p _ hk;exact⟨o,e,ex⟩
    .obtain⟨_,_,_,_,o,_,_,e,ex,_⟩:=I.hok p _ hk;exact⟨o,e,ex⟩
   obtain⟨o,e,ex⟩:=z;refine⟨⟨o,e,ex.1⟩,λa e2=>?_⟩;cases e2;exact⟨o,e,ex.2.1⟩
  .obtain⟨o,_,_,_,e,ex,_⟩:=I.hok p _ hk;refine⟨⟨o,e,ex.1⟩,λa e2=>?_⟩;cases e2;exact⟨o,e,ex.2.1⟩
 |_=>exact False.elim ty
noncomputable def tBM(K:zbU)(T:String)(r:V->List V->Hp->VK->Prop)(to:TE)(t:TA):TE:=λσ H Q=>to σ H λx H1=>tyV K T x H1/\t σ H1 λxs H2=>r x xs H2 Q
variable{o:Expr}{es:List Expr}{to:TE}{t:TA}{name:Str}{μ ω:Pos}{id:String}{r:V->List V->Hp->VK->Prop}
def sn(pa:PlainAttrs T)(slot:Slot T name id)(hty:typeOf (.builtin id)=pure (.type "method_descriptor"))(hm:MtR X id r)(ho:PE X o to)(ha:PA X (e::es) t)
  (η:attributeBase o name X.env (eval o X.env)=eval o X.env:=by rfl)
  (xO:((backTo ω (starEach (e::es) X.env)).all (λx=>!x.1)&&(backToKw ω (keywordEach [] X.env)).all (λx=>x.1.isSome)
  &&decide ((e::es).length+([]:List Keyword).length+(if([]:List Keyword).isEmpty then 0 else 1)<30))=true:=by rfl)
  (θ:(μ.endLine==ω.line)=true:=by rfl) (hs:starEach (e::es) X.env=(false,eval e X.env)::starEach es X.env:=by rfl) (ι:(backTo ω (starEach es X.env)).any (·.1)=false:=by rfl):
  PE X (.Call (.Attribute o name μ) (e::es) [] ω) (tBM X.K T r to t):=by
 intro ρ s σ H Q I h;refine wpAny_Call_method_late η xO θ rfl (thn (ho ρ s σ H _ I h) λv s1 ⟨x,H1,I1,r1,ty,q1⟩=>?_);obtain⟨h1,h2⟩:=IR I1 r1 ty;refine⟨T,id,pa,slot,hty,h1,h2,?_⟩;have hA:=ha ω ρ s1 σ H1 _ I1 q1;rw[hs]at hA ⊢;refine Calls.callWith_builtin (by show(false || (backTo ω (starEach es X.env)).any (·.1))=false;rw[ι]<;>rfl) (Calls.evalArgs_plain ?_);exact thn hA λus s2 ⟨vs,H2,I2,r2,q2⟩=>hm ρ s2 σ H2 x vs v us Q I2 r1 r2 q2
end
def MtM(X:Cx)(id:String)(r:V->List V->Hp->VK->Prop):Prop:=
 ∀(ρ:List (Addr×Obj)) (s:Shared) (σ:St) (H:Hp) (x:V) (xs:List V) (v:Value) (us:List Value) (Q:VK),Inv X ρ σ H s->RelV x v->Vals xs us->r x xs H Q ->
  wpAny (model X.prog X.w) X.A (call (.builtin id) (v::us)) (EP X ρ σ Q) X.xe s
def Vals.one:∀{x:V} {us:List Value},Vals [x] us->∃u,us=[u]/\RelV x u
 |_,_,.cons r .nil=>⟨_,rfl,r⟩
def Vals.two{y:V}(h:Vals [x,y] us):∃u v,us=[u,v]/\RelV x u/\RelV y v:=by
 cases h with
 |cons r t=>
  cases t with
  |cons q n=>
   cases n;exact⟨_,_,rfl,r,q⟩
section
variable{l b:Addr}{zs:List V}
def Inv.lset{f:Array Value->Array Value}(I:Inv X ρ σ H s)(hH:H l=some (.lst xs))
  (e:s.heap.get? l=some { cls:=.type "list",data:=.seq its.toArray n }) (hf:f its.toArray=its'.toArray) (hv:Vals ys its') (hz:ys.length<=sizeLine):
  Inv X ρ σ (upd H l (.lst ys)) { s with heap:=s.heap.update l (Obj.mapSeq f),toks:=t' }:=by
 have q:=PySem.IsL.update e f;rw[hf]at q;refine I.write (x:=l) (e:=l) (by rw[hH];exact trivial) (.inl rfl) (λb' u hb hu=>(Heap.get?_update_other s.heap (Obj.mapSeq f) (Ne.symm hb)).trans hu) ⟨_,q⟩ ?_;exact⟨hz,its',_,hv,q⟩
def Inv.lnew(I:Inv X ρ σ H s)(hv:Vals ys its)(hz:ys.length<=sizeLine):
  Inv X ρ σ (upd H s.heap.objs.size (.lst ys)) { s with heap:=s.heap.push { cls:=.type "list",data:=.seq its.toArray },toks:=t' }:=
 I.laid (λ_ _ q=>zaf _ q) (zav _) ⟨hz,its,0,hv,zan _ rfl⟩
def Inv.fresh(I:Inv X ρ σ H s):H s.heap.objs.size=none:=I.hok.fresh (zav _)
def Inv.lstM(I:Inv X ρ σ H s)(hH:H l=some (.lst xs)):xs.length<=sizeLine/\∃(its:List Value) (n:Nat),Vals xs its/\xs.length=its.length/\s.heap.get? l=some { cls:=.type "list",data:=.seq its.toArray n }:=by
 obtain⟨z,its,n,r,e⟩:=I.hok l _ hH;exact⟨z,its,n,r,r.length,e⟩
def tH(h:n<=sizeLine):Builtin.List.listTooLong n=false:=by
 unfold Builtin.List.listTooLong;exact zaA (by lia)
end
def vI:V->List V->Hp->VK->Prop:=λx vs H Q=>∃l xs y,x=.ref l/\vs=[y]/\H l=some (.lst xs)/\xs.length<sizeLine/\Q .non (upd H l (.lst (xs++[y])))
def qX:MtM X "list.append" vI:=by
 intro ρ s σ H x vs v us Q I rx rv h;obtain⟨l,xs,y,rfl,rfl,hH,hz,q⟩:=h;cases rx;obtain⟨u,rfl,ru⟩:=rv.one;obtain⟨z,its,n,r,hl,e⟩:=I.lstM hH;refine call_meets F.slot_list_append ⟨_,e,rfl⟩ F.entry_list_append (F.args_list_append_2 _ _) (PySem.list_append l its.toArray n u (by rw[zai];lia)) ⟨e,?_⟩;refine⟨.non,_,I.lset (its':=its++[u]) hH e (by simp) (r.append (.cons ru .nil)) ?_,rfl,q⟩;rw[zae,List.length_singleton]
 lia
def vH:V->List V->Hp->VK->Prop:=λx vs H Q=>∃l b xs zs,x=.ref l/\vs=[.ref b]/\H l=some (.lst xs)/\H b=some (.lst zs)/\xs.length+zs.length<=sizeLine/\Q .non (upd H l (.lst (xs++zs)))
def y0:MtM X "list.extend" vH:=by
 intro ρ s σ H x vs v us Q I rx rv h;obtain⟨l,b,xs,zs,rfl,rfl,hH,hB,hz,q⟩:=h;cases rx;obtain⟨u,rfl,ru⟩:=rv.one;cases ru;obtain⟨z,its,n,r,hl,e⟩:=I.lstM hH;obtain⟨z2,ν,n2,r2,hl2,e2⟩:=I.lstM hB;have hsz:its.toArray.size+ν.toArray.size<=sizeLine:=by rw[zai,zai];lia
 have hlong:¬(!its.toArray.isEmpty&&Builtin.List.listTooLong (its.toArray.size+ν.toArray.size))=true:=by
  rw[tH hsz,zbT];exact zbn
 refine call_meets F.slot_list_extend ⟨_,e,rfl⟩ F.entry_list_extend (F.args_list_extend_2 _ _)
  (AutoSeq1.list_extend_list_list_0 l its.toArray n b ν.toArray n2 hlong (by rw[zai];lia) (by lia)) ⟨e,e2,?_⟩
 refine⟨.non,_,I.lset (its':=its++ν) hH e (by simp) (r.append r2) ?_,rfl,q⟩;rw[zae]
 lia
end L2
namespace Att
variable{P:Params}{h:Heap}{l:OpenLaw}{n:Nat}
open PySem PySem.W PySem.Calls PyProof.Rows
def oX:∀(ns:List Int) (vs:List Value),WellAll P h vs (ns.map WData.int)->IntsAre vs ns:=by
 intro ns
 induction ns with
 |nil=>
  intro vs w;rw[zaZ]at w;cases w;exact .nil
 |cons n ns ih=>
  intro vs w;rw[zar]at w;cases w with
  |cons a b=>
   cases a;exact .cons _ _ (ih _ b)
def yz(hn:l.most=some n){args:List WData}{vals:List Value}
  (hpre:l.row.toRowW.claim.pre args=true) (hwl:WellAll P h vals args):
  ∃a vs ns,vals=[Value.ref a]/\args=[WData.list (ns.map WData.int)]/\h.get? a=some { cls:=.type "list",data:=.seq vs.toArray }/\IntsAre vs ns/\ns.length<=n:=by
 have hsh:WShape.hasAll [] args [.list .int]=true:=(pre_splitW hpre).1;have hc:l.pre.holds [] { args:=args }=true:=(pre_splitW hpre).2;obtain⟨d,r,rfl,h1,h2⟩:=hasAllW_cons hsh;obtain rfl:=hasAllW_nil h2;obtain⟨xs,rfl,h3⟩:=hasW_list h1;obtain⟨ns,rfl⟩:=items_int h3;have ξ:ns.length<=n:=by
  unfold OpenLaw.pre at hc;have h4:(WTm.not (.lt (.lit (.int (n:Int))) (.len (.arg 0)))).holds [] { args:=[.list (ns.map .int)] }=true:=by
   have h4:=(holds_andW hc).1;rw[hn]at h4;exact h4
  have h5:=condW_of h4 (w_not (w_lt w_lit (w_len_list (w_arg rfl))));rw[zad]at h5;refine Nat.le_of_not_lt λq=>?_;have q':(n:Int)<((ns.length:Nat):Int):=by lia
  first
   | (rw[zaB q']at h5;exact absurd h5 (by decide))
   | (simp at h5;lia)
 cases hwl with
 |cons w1 w2=>
  cases w2;cases w1 with
  |list ho hall=>exact⟨_,_,ns,rfl,rfl,ho,oX ns _ hall,ξ⟩
def yI(l:OpenLaw)(args:List WData):l.row.toRowW.claim.post args (.bool true) args=true:=
 postW_of (r:=l.row.toRowW) (X:=(true==true))
  (show WShape.has [] (.bool true) .bool=true by first|rfl|decide|simp[WShape.has,WShape.arms,WShape.armsAll])
  (show(WTm.eq .res (.lit (.bool true))).value [] { args:=args,res:=some (.bool true),after:=args }=some (.bool (true==true))from w_eq_bool (w_res rfl) w_lit) rfl
def attach_call{q:Program}{bX:List Str}{XP:(Str->Option Value)->Heap->Prop}{YP:World->Heap->Prop}{d:DefRec}
  (hn:l.most=some n) (hdf:d.params.defaults=[])
  (call:∀(w:World) (s₀ s₁:Shared) (mg mb:Str->Option Value) (fa:Addr) (o:Obj) (pm cd doc:Value) (a:Addr) (vs:List Value) (ns:List Int),
   Ground q bX [] XP w s₀ mg mb s₁.heap->YP w s₁.heap ->
   s₁.heap.get? fa=some o->o.data=.func (docDef d.name d.params d.body d.scope pm cd doc)->s₁.heap.CodeRec cd d.name->mg d.name=some (.ref fa) ->
   s₁.heap.get? a=some { cls:=.type "list",data:=.seq vs.toArray }->IntsAre vs ns->ns.length<=n->s₁.gens=#[] ->
   codeAny (model l.prog w) callerA (.call (.ref fa) ⟨[.ref a],[]⟩) (λr s'=>r=.ok (.ret (.bool true))/\OldK s₁.heap s'.heap/\s'.os=s₁.os/\AllBare s'.gens) s₁):
  WalkO q bX XP YP l.row.toRowW d [] (λf vs=>PySem.call f vs):=by
 intro w s₀ s₁ mg mb G Y fa o pm cd doc dV kV ho hd hcd hD hmg hg args vals as hpre hlay hrd hwl hlo;obtain rfl:dV=.none:=Dflts.none hD hdf;obtain rfl:kV=.none:=Dflts.noKw hD;obtain⟨a,vs,ns,rfl,rfl,hobj,hints,ξ⟩:=yz hn hpre hwl;refine enter_call (codeAny_mono (call w s₀ s₁ mg mb fa o pm cd doc a vs ns G Y ho (fd_plain hd) hcd hmg hobj hints ξ hg) λr s' hq=>?_);obtain⟨rfl,h2,h3,h4⟩:=hq;exact⟨.inl ⟨.bool true,.bool true,[],rfl,λ_=>rfl,.bool true,yI l _,λ_=>⟨List.Pairwise.nil,λ_ hm=>(nomatch hm)⟩⟩,h2,h3,h4⟩
end Att
namespace L2
variable{P:Program}{w:World}{a f:Addr}{fd:FuncData}{x qual:Str}{sp:Sp}{ts:List (Addr×Str)}{X:Cx}{st:Stmt}{ps:List Str}{A:Around}{o:Option V}{y:V}{u:Value}{H H':Hp}{kvs:List (List (Option Key)×V)}{xs:List (List (Option Key)×Addr×Value)}{ad:Addr->Prop}{s:Shared}{E Q:Value->Shared->Prop}{h':Heap}{value:Expr}{pos:Pos}
open PySem PySem.Spec PyProof.Rows
theorem qP:∀{vs:List Value} {ns:List Int},IntsAre vs ns->Vals (ns.map V.int) vs
 |_,_,.nil=>.nil
 |_,_,.cons n t h=>.cons ⟨t,rfl⟩ (qP h)
def A9{K0:zbU}{mg mb:Str->Option Value}{CX:CXT}{k:Nat}{fa:Addr}{s₁:Shared}{vs:List Value}{ns:List Int} 
  (KX:K0.In s₁.heap) (hlk:∀b,(dZ K0 ts).lookup b=K0.lookup b) (hns:s₁.heap.Ns mainGlobals mg) (hb:s₁.heap.Ns builtinsNs mb) (hbb:∀x:Str,x≠"__name__"->mb x=bootBuiltins x) (hlim:s₁.heap.NoLimit) (hmods:∃mm,s₁.heap.Ns sysModules mm) (hg:s₁.gens=#[])
  (hbm:∃(bm:Addr) (o:Obj),mg "__builtins__"=some (.ref bm)/\bm≠builtinsNs/\s₁.heap.get? bm=some o/\o.cls=.type "module"/\o.dict=some builtinsNs/\o.data=.plain)
  (ha:s₁.heap.get? a=some { cls:=.type "list",data:=.seq vs.toArray }) (hi:IntsAre vs ns) (hl:ns.length<=sizeLine) (hr:Room k callerA)
  (ht:∀q∈ts,s₁.heap.get? q.1=some (PySem.W.tabObj #[])/\K0.lookup q.1=none/\isCodeTable s₁.heap q.1) (hu:(ts.map (·.1)).Nodup)
  (F:∀base:Heap,(dZ K0 ts).In base->base.Ns mainGlobals mg->FnOk P w (dZ K0 ts) mg base CX k fa fd [x] sp) (hbind:∀(s:Shared) (u:Value),BindsTo s fd ⟨[u],[]⟩ [(x,u)])
  (hsp:∀H:Hp,SqL (dZ K0 ts) H a (ns.map V.int)->sp [.ref a] H (λv _=>v=.bl true) λ_ _ _=>False)
  (hCX:∀H e s',CX [] H s₁ (λ_ _ _=>False) e s'->False):
  codeAny (model P w) callerA (.call (.ref fa) ⟨[.ref a],[]⟩) (λr s'=>r=.ok (.ret (.bool true))/\OldK s₁.heap s'.heap/\s'.os=s₁.os/\AllBare s'.gens) s₁:=by
 have rv:=qP hi;have lenV:=hi.length;have KR:(dZ K0 ts).In s₁.heap:=λb o e=>KX b o (by rw[<-hlk];exact e);have tl:∀{b:Addr} {q:Str},ts.lookup b=some q->(b,q)∈ts:=λe=>xq e;have core:∀H:Hp,SqL (dZ K0 ts) H a (ns.map V.int)->HOk P w H s₁.heap->(∀b,H b=((ts.lookup b).map HO.tbl)\/(b=a/\∃o xs,H b=some (.frz o (.lst xs))))->(∀b q,ts.lookup b=some q->H b=some (.tbl q))->(H a≠none->K0.lookup a=none) ->
   codeAny (model P w) callerA (.call (.ref fa) ⟨[.ref a],[]⟩) (λr s'=>r=.ok (.ret (.bool true))/\OldK s₁.heap s'.heap/\s'.os=s₁.os/\AllBare s'.gens) s₁:=by
  intro H hS hok hA hT hK;have base_of:∀{b:Addr} {o:Obj},s₁.heap.get? b=some o->H b=none->(ko s₁.heap H).get? b=some o:=λe n=>BD e n;have noA:∀{b:Addr} {o:Obj},s₁.heap.get? b=some o->(∀vs,o.data≠.seq vs)->(∀vs,o.data≠.fields vs)->H b=none:=λ{b o} e d1 d2=>by
   rcases hA b with z|⟨z,_⟩
   .cases q:ts.lookup b with
    |none=>rw[q]at z;exact z
    |some u=>
     have:=(ht _ (tl q)).1;rw[e]at this;cases this;exact absurd rfl (d2 #[])
   .subst z;rw[ha]at e;cases e;exact absurd rfl (d1 _)
  have nsK:∀{b:Addr} {m:Str->Option Value},s₁.heap.Ns b m->(ko s₁.heap H).Ns b m:=λ{b m} ⟨o,es,ep,e,d,r⟩=>⟨o,es,ep,base_of e (noA e (by rw[d];exact λ_ z=>nomatch z) (by rw[d];exact λ_ z=>nomatch z)),d,r⟩;have hKn:∀(b:Addr) (o:Obj),K0.lookup b=some o->H b=none:=λb o e=>by
   rcases hA b with z|⟨z,_⟩
   .cases q:ts.lookup b with
    |none=>rw[q]at z;exact z
    |some u=>rw[(ht _ (tl q)).2.1]at e;cases e
   .subst z;cases q:H b with
    |none=>rfl
    |some u=>rw[hK (by rw[q];simp)]at e;cases e
  have hKb:(dZ K0 ts).In (ko s₁.heap H):=λb o e=>base_of (KR b o e) (hKn b o (by rw[<-hlk];exact e));have hM:Mod (dZ K0 ts) mg (ko s₁.heap H):=⟨hKb,nsK hns,⟨mb,nsK hb,hbb⟩,let⟨mc,h1,h2⟩:=hlim;⟨mc,nsK h1,h2⟩,let⟨mm,h1⟩:=hmods;⟨mm,nsK h1⟩,
   let⟨bm,o,h1,h2,h3,h4,h5,h6⟩:=hbm;⟨bm,o,h1,h2,base_of h3 (noA h3 (by rw[h6];exact λ_ z=>nomatch z) (by rw[h6];exact λ_ z=>nomatch z)),h4,h5,h6⟩⟩
  have reg:∀Q q,Rg (dZ K0 ts) Q q->H Q=some (.tbl q):=λQ q h=>hT Q q (by
   have m:=Rg.of h;clear h hM hKb hKn nsK noA base_of hok hA hT hK hS KR hlk F hsp ht
   induction ts with
   |nil=>cases m
   |cons t r ih=>
    obtain⟨b,u⟩:=t;rw[zas];rw[zar,zbc]at hu;rcases zay.mp m with e|e
    .cases e;simp
    .have:Q≠b:=λz=>hu.1 (z▸zaz.mpr ⟨_,e,rfl⟩)
     have:(Q==b)=false:=by simp[this]
     rw[this];exact ih hu.2 (λe=>xq e) e)
  have e0:Env0 P w (dZ K0 ts) mg (ko s₁.heap H) callerA [] s₁ H:=⟨rfl,hM,λb o e=>FF e,Nat.le_of_eq (zF _ _),trivial,λb hb=>absurd (show b∈([]:List Addr)from hb) (by simp),hok,.of_eq hg,reg⟩;refine codeAny_mono ((F _ hKb (nsK hns)).run callerA [] s₁ H ⟨[.ref a],[]⟩ [.ref a] [.ref a] _ _ hr e0 (hbind s₁ (.ref a)) (.cons rfl .nil) (hsp H hS)) λr s' h=>?_;cases r with
  |error e=>exact(hCX H e s' h).elim
  |ok fl=>
   cases fl with
   |next=>exact False.elim h
   |brk=>exact False.elim h
   |cont=>exact False.elim h
   |ret u=>
    obtain⟨v,H',os,bare,un,hok',r',q⟩:=h;have q':v=.bl true:=q;subst q';obtain rfl:u=Value.bool true:=r';have was:∀(b:Addr) (o:Obj),s₁.heap.get? b=some o->s'.heap.get? b=some o\/(isCodeTable s₁.heap b/\o.cls=.none/\∃(vs more:Array Value),o.data=.fields vs/\s'.heap.get? b=some { cls:=o.cls,dict:=o.dict,data:=.fields (vs++more),slots:=o.slots }):=λb o e=>by
     rcases hA b with z|⟨_,ob,xs,z⟩
     .cases q:ts.lookup b with
      |none=>
       rw[q]at z;exact .inl (un.keep b o e z (by intro z;exact absurd (show b∈([]:List Addr)from z) (by simp)) (by simp))
      |some u=>
       obtain⟨g1,_,g3⟩:=ht _ (tl q);rw[e]at g1;cases g1;obtain⟨ps,g4,_⟩:=hok' b _ (un.tbls b u (hT b u q));exact .inr ⟨g3,rfl,#[],ps,rfl,by rw[g4];simp⟩
     .have z2:=un.frzs b ob _ z;obtain⟨e1,_⟩:=hok b _ z;obtain⟨e2,_⟩:=hok' b _ z2;rw[e]at e1;cases e1;exact .inl e2
    refine⟨rfl,⟨λb o e=>?_,λb o e=>?_⟩,os,bare⟩
    .rcases was b o e with z|z
     .exact .inl z
     .exact .inr (.inl z)
    .rcases was b o e with z|⟨_,_,vs,more,_,z⟩
     .exact⟨_,z⟩
     .exact⟨_,z⟩
 have na:ts.lookup a=none:=by
  cases q:ts.lookup a with
  |none=>rfl
  |some u=>
   have:=(ht _ (tl q)).1;rw[ha]at this;cases this
 have hokT:∀(b:Addr) (q:Str),ts.lookup b=some q->∀H:Hp,ObjOk P w H s₁.heap b (.tbl q):=λb q e H=>⟨#[],(ht _ (tl e)).1,trivial,λpos cv z=>nomatch (show(none:Option Value)=some cv from z)⟩;cases hk:K0.lookup a with
 |some o=>
  have e:=KX a o hk;rw[ha]at e;cases e;refine core (λb=>(ts.lookup b).map HO.tbl) (.inr ⟨_,vs.toArray,_,(hlk a).trans hk,rfl,rfl,rfl,by rw[zai,lenV];exact hl,by simpa using rv⟩) (λb u z=>?_) (λb=>.inl rfl) (λb q e=>by simp only[e,Option.map_some]) (λz=>absurd (by simp only[na,Option.map_none]) z);obtain⟨q,e,rfl⟩:=zab.mp z;exact hokT b q e _
 |none=>
  refine core (λb=>if b=a then some (.frz { cls:=.type "list",data:=.seq vs.toArray } (.lst (ns.map V.int)))else(ts.lookup b).map HO.tbl) (.inl (.inr ⟨{ cls:=.type "list",data:=.seq vs.toArray },if_pos rfl⟩)) (λb u z=>?_) (λb=>?_) (λb q e=>?_) λ_=>hk
  .by_cases hb:b=a
   .have z':=(if_pos hb).symm.trans z;cases z';subst hb;exact⟨ha,by rw[zad];exact hl,vs,_,rv,ha⟩
   .have z':=(if_neg hb).symm.trans z;obtain⟨q,e,rfl⟩:=zab.mp z';exact hokT b q e _
  .by_cases hb:b=a
   .exact .inr ⟨hb,_,_,if_pos hb⟩
   .exact .inl (if_neg hb)
  .have hb:b≠a:=λz=>by rw[z,na]at e;cases e
   simp only[hb,if_false,e,Option.map_some]
def EZ{l:PySem.W.OpenLaw}{n k:Nat}{q:Program}{bX:List Str}{XP:(Str->Option Value)->Heap->Prop}{YP:World->Heap->Prop}{d:DefRec}{K:Params->zbU}{CX:World->CXT}{sp:World->Sp} 
  (hn:l.most=some n) (hn2:n<=sizeLine) (hdf:d.params.defaults=[]) (hr:Room k callerA)
  (hq:importsNone q=true) (hY:∀(w:World) (h:Heap),YP w h->(K w.params).In h) (hT:∀(w:World) (h:Heap),YP w h->∀q∈ts,h.get? q.1=some (PySem.W.tabObj #[]))
  (hlk:∀(w:World) (b:Addr),(dZ (K w.params) ts).lookup b=(K w.params).lookup b) (hu:(ts.map (·.1)).Nodup)
  (ht:∀(w:World) (h:Heap),(K w.params).In h->∀q∈ts,(K w.params).lookup q.1=none/\isCodeTable h q.1)
  (F:∀(w:World) (mg:Str->Option Value) (fa:Addr) (h:Heap),(K w.params).In h->h.Ns mainGlobals mg->mg d.name=some (.ref fa) ->
   ∃fd:FuncData,(∀(s:Shared) (u:Value),BindsTo s fd ⟨[u],[]⟩ [(x,u)]) /\
    ∀base:Heap,(dZ (K w.params) ts).In base->base.Ns mainGlobals mg->FnOk l.prog w (dZ (K w.params) ts) mg base (CX w) k fa fd [x] (sp w))
  (hsp:∀(w:World) (H:Hp) (a:Addr) (ns:List Int),ns.length<=n->SqL (dZ (K w.params) ts) H a (ns.map V.int)->sp w [.ref a] H (λv _=>v=.bl true) λ_ _ _=>False)
  (hCX:∀(w:World) (H:Hp) (s:Shared) (e:Value) (s':Shared),CX w [] H s (λ_ _ _=>False) e s'->False):
  PySem.W.WalkO q bX XP YP l.row.toRowW d [] (λf vs=>PySem.call f vs):=by
 refine Att.attach_call hn hdf λw s₀ s₁ mg mb fa o pm cd doc a vs ns G Y ho hd hcd hmg hobj hints ξ hg=>?_;have KX:=hY w _ Y;obtain⟨fd,hb,hF⟩:=F w mg fa _ KX G.T.g hmg;exact A9 KX (hlk w) G.T.g G.T.b G.T.builtins G.T.nolimit (let⟨mm,hm,_⟩:=(G.T.seer hq).mods;⟨mm,hm⟩) hg G.T.bmain hobj hints (zau ξ hn2) hr (λq m=>⟨hT w _ Y q m,(ht w _ KX q m).1,(ht w _ KX q m).2⟩) hu hF hb (λH hS=>hsp w H a ns ξ hS) λH e s'=>hCX w H s₁ e s'
noncomputable def cE(s:Stmt)(j:Nat):Stmt:=match s with
 |.ClassDef _ _ _ body _ _ _ _ _ _ _=>body.getD j (.Pass ⟨0,0,0,0⟩)
 |_=>.Pass ⟨0,0,0,0⟩
noncomputable def bR(s:Stmt):Arguments:=match s with
 |.FunctionDef _ a _ _ _ _ _ _ _ _=>a
 |_=>{ posonlyargs:=[],args:=[],vararg:=none,kwonlyargs:=[],kw_defaults:=[],kwarg:=none,defaults:=[] }
noncomputable def bu(s:Stmt):List Stmt:=match s with
 |.FunctionDef _ _ b _ _ _ _ _ _ _=>b
 |_=>[]
noncomputable def am(s:Stmt):Scope:=match s with
 |.FunctionDef _ _ _ _ _ _ sc _ _ _=>sc
 |_=>{ kind:=.function,names:=[],isGenerator:=false,isCoroutine:=false }
abbrev CX0:CXT:=λ_ _ _ _ _ _=>False
abbrev E0:XK:=λ_ _ _=>False
def my:i6 CX0 X E0:=λ_ _ _ _ _ _ _ h=>h.elim
structure Fun(K:zbU)(x qual:Str)(st:Stmt)(f:Addr)(fd:FuncData):Prop where
 ex:∃(oc:Value) (od:Option Addr) (kV doc pm:Value) (an:Option Addr) (cdv ct:Value) (osl:Array (Option Value)),
  fd=PySem.W.fnOf x qual (bR st) (bu st) (am st) .none kV doc pm an cdv ct/\K.lookup f=some ⟨oc,od,.func fd,osl⟩/\PySem.W.codeIn K cdv qual=true
 kp:PySem.W.keepIn K (.ref f)=true
section
variable{K:zbU}{mg:Str->Option Value}{base:Heap}
def Fun.ok{N:List Str}{k:Nat}(F:Fun K x qual st f fd)(S:FnScope N ps (am st))(len:∀vs H Q E,sp vs H Q E->vs.length=ps.length)
  (hbody:∀(cdv:Value) (A:Around) (outer:List Env) (s:Shared) (H:Hp) (vs:List V) (Q:VK) (E:XK),Room k (A.deeper (envOfC qual (am st) s.heap.objs.size f cdv))->sp vs H Q E ->
   ∃t,PSs (kG CX0 P w K mg base N qual (am st) f cdv A outer s H E).nox (bu st) t/\t { nx:=λ_ H'=>Q .non H',rt:=Q } (dm N vs) H):FnOk P w K mg base CX0 (k+1) f fd ps sp:=by
 obtain⟨oc,od,kV,doc,pm,an,cdv,ct,osl,rfl,lk,hcd⟩:=F.ex;refine Lw lk hcd S len λA outer s H vs Q E hr hsp=>?_;obtain⟨t,h,q⟩:=hbody cdv A outer s H vs Q E hr hsp;exact⟨t,h.nox,q⟩
def Fun.binds(F:Fun K x qual st f fd)
  (h:∀(kV doc pm:Value) (an:Option Addr) (cdv ct:Value) (us:List Value),us.length=ps.length->bindArgs (PySem.W.fnOf x qual (bR st) (bu st) (am st) .none kV doc pm an cdv ct) ⟨us,[]⟩=pure (ps.zip us)):Binds K fd ps []:=by
 obtain⟨oc,od,kV,doc,pm,an,cdv,ct,osl,rfl,lk,hcd⟩:=F.ex;exact .all (h kV doc pm an cdv ct)
def pb{oc:Value}{od an:Option Addr}{osl:Array (Option Value)}{kV doc pm cdv ct:Value}(l:K.lookup f=some ⟨oc,od,.func (PySem.W.fnOf x qual (bR st) (bu st) (am st) .none kV doc pm an cdv ct),osl⟩)
  (c:PySem.W.codeIn K cdv qual=true) (k:PySem.W.keepIn K (.ref f)=true):Fun K x qual st f (PySem.W.fnOf x qual (bR st) (bu st) (am st) .none kV doc pm an cdv ct):=⟨⟨oc,od,kV,doc,pm,an,cdv,ct,osl,rfl,l,c⟩,k⟩
end
def EM{k:Nat}(hr:Room k A):A.units+1<cLine:=Nat.lt_of_le_of_lt (Nat.add_le_add_left (by decide:1<=64) _) hr.units
section
variable{κ:Type}[DecidableEq κ]
noncomputable def di(kvs:List (κ×V))(k:κ):Option V:=(kvs.find? λkv=>decide (kv.1=k)).map (·.2)
noncomputable def cc(kvs:List (κ×V))(k:κ)(v:V):List (κ×V):=
 if(kvs.any λkv=>decide (kv.1=k))=true then kvs.map (λkv=>if kv.1=k then(kv.1,v)else kv)else kvs++[(k,v)]
def iK{p:κ×V}{r:List (κ×V)}{k:κ}(e:p.1=k):di (p::r) k=some p.2:=by simp[di,zbo,e]
def iL{p:κ×V}{r:List (κ×V)}{k:κ}(e:¬p.1=k):di (p::r) k=di r k:=by simp[di,zbo,e]
theorem no(k:κ):∀kvs:List (κ×V),(kvs.any λkv=>decide (kv.1=k))=(di kvs k).isSome
 |[]=>rfl
 |p::r=>by
  rw[List.any_cons];by_cases e:p.1=k
  .simp only[iK e,zaB e,Bool.true_or,Option.isSome_some]
  .rw[iL e,zaA e,Bool.false_or];exact no k r
def jz(kvs:List (κ×V))(k:κ)(v:V):(cc kvs k v).length<=kvs.length+1:=by
 unfold cc;split
 .rw[zad];lia
 .rw[zae,zac,List.length_nil];lia
def RelO.isSome_eq{u:Option Value}(r:RelO o u):o.isSome=u.isSome:=by
 cases o with
 |none=>cases u with
  |none=>rfl
  |some _=>exact(show False from r).elim
 |some _=>cases u with
  |none=>exact(show False from r).elim
  |some _=>rfl
def KV.val{kvs:List (κ×V)}{vs:List (κ×Value)}(r:KV kvs vs)(k:κ):RelO (di kvs k) (valueAt vs k):=by
 unfold KV at r
 induction r with
 |nil=>exact True.intro
 |@cons p q ps qs h t ih=>
  obtain⟨h1,h2⟩:=h;by_cases e:p.1=k
  .have e':q.1=k:=h1.symm.trans e;have b:valueAt (q::qs) k=some q.2:=by simp[valueAt,zbo,e']
   rw[iK e,b];exact h2
  .have e':¬q.1=k:=λz=>e (h1.trans z);have b:valueAt (q::qs) k=valueAt qs k:=by simp[valueAt,zbo,e']
   rw[iL e,b];exact ih
theorem KV.any{kvs:List (κ×V)}{vs:List (κ×Value)}(r:KV kvs vs)(k:κ):(kvs.any λkv=>decide (kv.1=k))=vs.any λkv=>decide (kv.1=k):=by
 unfold KV at r
 induction r with
 |nil=>rfl
 |cons h t ih=>rw[List.any_cons,List.any_cons,ih,h.1]
def KV.repl{kvs:List (κ×V)}{vs:List (κ×Value)}(r:KV kvs vs)(k:κ)(ry:RelV y u):
  KV (kvs.map λkv=>if kv.1=k then(kv.1,y)else kv) (vs.map λkv=>if kv.1=k then(kv.1,u)else kv):=by
 unfold KV at r ⊢
 induction r with
 |nil=>exact .nil
 |@cons p q ps qs h t ih=>
  rw[zar,zar];refine .cons ?_ ih;obtain⟨h1,h2⟩:=h;by_cases e:p.1=k
  .rw[if_pos e,if_pos (h1.symm.trans e)];exact⟨h1,ry⟩
  .rw[if_neg e,if_neg (λz=>e (h1.trans z))];exact⟨h1,h2⟩
def KV.put{kvs:List (κ×V)}{vs:List (κ×Value)}(r:KV kvs vs)(k:κ)(ry:RelV y u):KV (cc kvs k y) (stored vs k u):=by
 unfold cc stored;rw[r.any k];by_cases e:(vs.any λkv=>decide (kv.1=k))=true
 .rw[if_pos e,if_pos e];exact r.repl k ry
 .rw[if_neg e,if_neg e];exact Paired.snoc r ⟨rfl,ry⟩
def KV.length{kvs:List (κ×V)}{vs:List (κ×Value)}(r:KV kvs vs):kvs.length=vs.length:=Paired.length r
end
def xt{k:Key}(r:RelV (kV k) u):(cD P w).is k u=true:=by
 cases k with
 |inl i=>obtain⟨t,e⟩:=(show ∃t,u=Value.int i t from r);subst e;exact vg P w i t
 |inr x=>obtain⟨t,e⟩:=(show ∃t,u=Value.str x t from r);subst e;exact vf P w x t
def w8{k:Option Key}(r:RelV (oV k) u):(cC P w).is k u=true:=by
 cases k with
 |none=>rw[show u=Value.none from r];rfl
 |some k=>exact xt (P:=P) (w:=w) r
theorem qY{P:Program}{w:World}:∀{ks:List (Option Key)} {us:List Value},Vals (ks.map oV) us->ItemsAre (cC P w) ks us
 |[],_,r=>by rw[zaZ]at r;cases r;exact .nil
 |k::ks,_,r=>by
  rw[zar]at r;cases r with
  |cons h t=>exact .cons (w8 h) (qY t)
abbrev KT(H:Hp)(ad:Addr->Prop):List (List (Option Key)×V)->List (List (Option Key)×Addr×Value)->Prop:=Paired λp q=>p.1=q.1/\(H q.2.1=some (.tup (p.1.map oV))/\ad q.2.1)/\RelV p.2 q.2.2
def KT.val(r:KT H ad kvs xs)(k:List (Option Key)):RelO (di kvs k) ((atKey xs k).map (·.2)):=by
 induction r with
 |nil=>exact True.intro
 |@cons p q ps qs h t ih=>
  obtain⟨h1,_,h2⟩:=h;by_cases e:p.1=k
  .have e':q.1=k:=h1.symm.trans e;have b:atKey (q::qs) k=some q.2:=by simp[atKey,zbo,e']
   rw[iK e,b];exact h2
  .have e':¬q.1=k:=λz=>e (h1.trans z);have b:atKey (q::qs) k=atKey qs k:=by simp[atKey,zbo,e']
   rw[iL e,b];exact ih
def KT.repl(r:KT H ad kvs xs)(k:List (Option Key))(ry:RelV y u):
  KT H ad (kvs.map λkv=>if kv.1=k then(kv.1,y)else kv) (xs.map (putAt k u)):=by
 induction r with
 |nil=>exact .nil
 |@cons p q ps qs h t ih=>
  rw[zar,zar];refine .cons ?_ ih;obtain⟨h1,h2,h3⟩:=h;unfold putAt;by_cases e:p.1=k
  .rw[if_pos e,if_pos (h1.symm.trans e)];exact⟨h1,h2,ry⟩
  .rw[if_neg e,if_neg (λz=>e (h1.trans z))];exact⟨h1,h2,h3⟩
def KT.put(r:KT H ad kvs xs)(k:List (Option Key)){b:Addr}(hb:H b=some (.tup (k.map oV)))(ry:RelV y u):
  KT H (λx=>ad x\/x=b) (cc kvs k y) (storedH xs k b u):=by
 have e:(kvs.any λkv=>decide (kv.1=k))=(atKey xs k).isSome:=by
  rw[no,(r.val k).isSome_eq,Option.isSome_map]
 unfold cc storedH;rw[e];by_cases q:(atKey xs k).isSome=true
 .rw[if_pos q,if_pos q];exact Paired.mapP (r.repl k ry) λ_ _ z=>⟨z.1,⟨z.2.1.1,.inl z.2.1.2⟩,z.2.2⟩
 .rw[if_neg q,if_neg q];exact Paired.snoc (Paired.mapP r λ_ _ z=>⟨z.1,⟨z.2.1.1,.inl z.2.1.2⟩,z.2.2⟩) ⟨rfl,⟨hb,.inr rfl⟩,ry⟩
def KT.keeps(r:KT H ad kvs xs)(ht:∀b ys,H b=some (.tup ys)->H' b=some (.tup ys)):KT H' ad kvs xs:=
 Paired.mapP r λ_ _ z=>⟨z.1,⟨ht _ _ z.2.1.1,z.2.1.2⟩,z.2.2⟩
section
variable{h:Heap} 
def Et{u:HO}(ok:HOk P w H h)(e:Rd H a u):ObjOk P w H h a u:=e.ok ok
def xS{kvs:List (Key×V)}(ok:HOk P w H h)(e:Rd H a (.dK kvs)):kvs.length<=sizeLine/\(a==sysModules)=false/\∃vs,KV kvs vs/\h.DictOf (cD P w) a vs:=
 show ObjOk P w H h a (.dK kvs)from Et ok e
def LQ{kvs:List (Key×V)}(ok:HOk P w H h)(e:H a=some (.dK kvs)):kvs.length<=sizeLine/\(a==sysModules)=false/\∃vs,KV kvs vs/\h.DictOf (cD P w) a vs:=xS ok (.inl e)
def lB{ks:List (Option Key)}(ok:HOk P w H h)(e:H a=some (.tup (ks.map oV))):(tupleKind (cC P w)).is h ks a:=by
 obtain⟨_,its,r,o,h1,h2,n,h3⟩:=(show ObjOk P w H h a (.tup (ks.map oV))from ok a _ e);exact⟨o,its.toArray,n,h1,h2,h3.1,by simpa using qY r⟩
def xR(ok:HOk P w H h)(e:Rd H a (.dT kvs ad)):kvs.length<=sizeLine/\(a==sysModules)=false /\
  ∃xs,KT H ad kvs xs/\h.DictOfH (tupleKind (cC P w)) a xs:=by
 obtain⟨z,y,xs,r,o,es,ep,h1,h2,h3,h4,h5⟩:=(show ObjOk P w H h a (.dT kvs ad)from Et ok e);refine⟨z,y,xs,r,o,es,ep,h1,h2,h3,h4,λx hx=>?_,h5⟩;have all:∀{l:List (List (Option Key)×V)} {m:List (List (Option Key)×Addr×Value)},KT H ad l m->∀x∈m,(tupleKind (cC P w)).is h x.1 x.2.1:=by
  intro l m q
  induction q with
  |nil=>intro x hx;exact nomatch hx
  |@cons p q ps qs hq t ih=>
   intro x hx;rcases zay.mp hx with e|hx
   .subst e;exact lB ok (by rw[<-hq.1];exact hq.2.1.1)
   .exact ih x hx
 exact all r x hx
def LP(ok:HOk P w H h)(e:H a=some (.dT kvs ad)):kvs.length<=sizeLine/\(a==sysModules)=false /\
  ∃xs,KT H ad kvs xs/\h.DictOfH (tupleKind (cC P w)) a xs:=xR ok (.inl e)
end
def DGet(H:Hp)(a:Addr)(y:V)(r:Option V):Prop:=
 (∃kvs k,Rd H a (.dK kvs)/\y=kV k/\r=di kvs k)\/∃kvs ad k b,Rd H a (.dT kvs ad)/\y=.ref b/\H b=some (.tup (k.map oV))/\r=di kvs k
def DPut(H:Hp)(a:Addr)(y v:V)(H':Hp):Prop:=
 (∃kvs k,H a=some (.dK kvs)/\y=kV k/\kvs.length<sizeLine/\H'=upd H a (.dK (cc kvs k v))) \/
 ∃kvs ad k b,H a=some (.dT kvs ad)/\y=.ref b/\H b=some (.tup (k.map oV))/\kvs.length<sizeLine/\H'=upd H a (.dT (cc kvs k v) λx=>ad x\/x=b)
def DPut.k{H:Hp}{a:Addr}{kvs:List (Key×V)}{k:Key}{v:V}(e:H a=some (.dK kvs))(hl:kvs.length<sizeLine):DPut H a (kV k) v (upd H a (.dK (cc kvs k v))):=.inl ⟨kvs,k,e,rfl,hl,rfl⟩
section
variable{ρ:List (Addr×Obj)}{σ:St}{v:V}{r:Value}  
def Inv.big(I:Inv X ρ σ H s):sysModules<s.heap.objs.size:=by
 have h:mainGlobals<s.heap.objs.size:=(I.mod.glob.keeps I.bk).lt;exact Nat.lt_trans (by decide) h
def Gu(hu:A.units+1<cLine)(I:Inv X ρ σ H s)(g:DGet H a y o)(ry:RelV y u)(h:∀s',Inv X ρ σ H s'->Q (.bool (!o.isSome)) s'):
  wpAny (model X.prog X.w) A (compareOp .NotIn u (.ref a)) Q E s:=by
 rcases g with⟨kvs,k,e,ey,l⟩|⟨kvs,ad,k,b,e,ey,eb,l⟩
 .subst ey;obtain⟨z,hd,vs,rel,dd⟩:=xS I.hok e;refine wpAny_notIn_of (xt ry) hd dd.mapOf ?_;rw[<-(rel.val k).isSome_eq,<-l];exact h _ (I.tok _)
 .subst ey;cases(show u=Value.ref b from ry);obtain⟨z,hd,xs,rel,dd⟩:=xR I.hok e;refine wpAny_notIn_heap (tupleKind_room_in1 hu) (lB I.hok eb) hd dd ?_;have q:=(rel.val k).isSome_eq;rw[Option.isSome_map]at q;rw[<-q,<-l];exact h _ (I.tok _)
def qB{t':Nat}{ob:HO}(I:Inv X ρ σ H s)(mu:Mut (H a))(hs:Heap.SameBut a s.heap h')(he:∃q,h'.get? a=some q)(new:ObjOk X.prog X.w (upd H a ob) h' a ob):
  Inv X ρ σ (upd H a ob) { s with heap:=h',toks:=t' }:=
 I.write (x:=a) (e:=a) mu (.inl rfl) (λb q hb z=>(hs.2 b hb).trans z) he new
def KF{kvs:List (Key×V)}{vs:List (Key×Value)}(z:kvs.length<=sizeLine)(hd:(a==sysModules)=false)(rel:KV kvs vs)(dd:h'.DictOf (cD P w) a vs):
  ObjOk P w H' h' a (.dK kvs):=⟨z,hd,vs,rel,dd⟩
def Af{Q:Unit->Shared->Prop}(hu:A.units+1<cLine)(I:Inv X ρ σ H s)(g:DPut H a y v H')(ry:RelV y u)(rv:RelV v r)(h:∀s',Inv X ρ σ H' s'->Q () s'):
  wpAny (model X.prog X.w) A (setItem (.ref a) u r) Q E s:=by
 rcases g with⟨kvs,k,e,ey,l,eH⟩|⟨kvs,ad,k,b,e,ey,eb,l,eH⟩
 .subst ey eH;obtain⟨z,hd,vs,rel,dd⟩:=LQ I.hok e;have hz:vs.length<=sizeLine:=by rw[<-rel.length];exact z
  have hl:(cc kvs k v).length<=sizeLine:=by have:=jz kvs k v;lia
  refine wpAny_setItem_pairs (hsz:=hz) (xt ry) dd λh' dd' hs=>h _ ?_;have he:∃q,h'.get? a=some q:=let⟨q,_,_,hq,_⟩:=dd';⟨q,hq⟩;exact qB I (by rw[e];exact True.intro) hs he (KF hl hd (rel.put k rv) dd')
 .subst ey eH;cases(show u=Value.ref b from ry);obtain⟨z,hd,xs,rel,dd⟩:=LP I.hok e;have hz:xs.length<=sizeLine:=by rw[<-Paired.length rel];exact z
  have hl:(cc kvs k v).length<=sizeLine:=by have:=jz kvs k v;lia
  refine wpAny_setItem_heap (hsz:=hz) (tupleKind_room_in1 hu) (lB I.hok eb) dd λh' dd' hs=>h _ ?_;obtain⟨q,es,ep,hq,h2,h3,h4,_,h5⟩:=dd';refine qB I (by rw[e];exact True.intro) hs ⟨q,hq⟩ ⟨hl,hd,_,(rel.put k eb rv).keeps λc ys ec=>?_,q,es,ep,hq,h2,h3,h4,h5⟩;rw[az (xf ec e (λz=>nomatch z))];exact ec
end
def Cb(i:Expr):Prop:=∀ov iv,subscripted i false ov iv=operate [ov,iv] (getItem ov iv)
def E5{prog:Program}{env:Env}{slice:Expr}{T id:String} 
  (hl:typeLookup (.type T) "__getitem__"=pure (some (.builtin id))) (hs:Cb slice)
  (h:wpAny (model prog w) A (eval value env) (λo s₁=>wpAny (model prog w) A (eval slice env) (λi s₂=>s₂.TypeIs o T/\wpAny (model prog w) A (getItem o i) Q E s₂) E s₁) E s):
  wpAny (model prog w) A (eval (.Subscript value slice pos) env) Q E s:=by
 refine Subscript_ (wpAny_mono h (λo s₁ h₁=>wpAny_mono h₁ (λi s₂ h₂=>?_) λ_ _ x=>x) λ_ _ x=>x);obtain⟨hT,h₂⟩:=h₂;unfold subscriptTail;refine zam ?_;rw[getitemInPython_of_ne hT.not_modules];refine zam (wpAny_specialOf hT hl ?_);have fin:wpAny (model prog w) A (subscripted slice false o i) (λr s₃=>wpAny (model prog w) A (letTemporaryGo value o r >>= λ_=>pure r) Q E s₃) E s₂:=by
  rw[hs o i];exact wpAny_operating (wpAny_mono h₂ (λr s₃ h₃=>zam (wpAny_letTemporaryGo (zaS h₃))) λ_ _ x=>x)
 first
  |exact zaS (zam fin)
  |exact zam (zaS (zam fin))
  |exact zam fin
noncomputable def LV(ty td:TE):TE:=λσ H Q=>ty σ H λy H1=>td σ H1 λx H2=>∃a o,x=.ref a/\DGet H2 a y o/\Q (.bl o.isSome) H2
noncomputable def vA(ty td:TE):TE:=λσ H Q=>ty σ H λy H1=>td σ H1 λx H2=>∃a o,x=.ref a/\DGet H2 a y o/\Q (.bl (!o.isSome)) H2
def Es(td ty tv:TE):TS:=λD σ H=>tv σ H λv H1=>td σ H1 λx H2=>ty σ H2 λy H3=>∃a H4,x=.ref a/\DPut H3 a y v H4/\D.nx σ H4
section
variable{o i e:Expr}{pos' tpos:Pos}{td ty tv:TE}
def yP(hu:X.A.units+1<cLine)(hi:PE X i ty)(ho:PE X o td):PC X .NotIn i o (vA ty td):=by
 intro ρ s σ H Q I h;refine thn (hi ρ s σ H _ I h) λiv s1 ⟨y,H1,I1,ry,q1⟩=>thn (ho ρ s1 σ H1 _ I1 q1) λu s2 ⟨x,H2,I2,rx,a,ov,ex,g,q2⟩=>?_;subst ex;obtain rfl:u=Value.ref a:=rx;exact Gu hu I2 g ry λs3 I3=>⟨.bl (!ov.isSome),H2,I3,rfl,q2⟩
def Fm(hu:X.A.units+1<cLine)(ho:PE X o td)(hi:PE X i ty)(hv:PE X value tv)(hs:swapsWith value (some (.Subscript o i pos')) pos.line X.env=pure false):
  PS X (.Assign [.Subscript o i pos'] value pos) (Es td ty tv):=by
 intro ρ s σ H D I h;refine wpAny_Assign_Subscript (thn (hv ρ s σ H _ I h) λr s1 ⟨v,H1,I1,rv,q1⟩=>thn (ho ρ s1 σ H1 _ I1 q1) λu s2 ⟨x,H2,I2,rx,q2⟩=>thn (hi ρ s2 σ H2 _ I2 q2) λiv s3 ⟨y,H3,I3,ry,a,H4,ex,g,q3⟩=>?_) hs;subst ex;obtain rfl:u=Value.ref a:=rx;exact Af hu I3 g ry rv λs4 I4=>⟨σ,H4,I4,q3⟩
end
def BW(h:Heap)(hb:sysModules<h.objs.size):ObjOk P w H (h.push { cls:=.type "dict",data:=.dict #[] }) h.objs.size (.dK []):=
 ⟨zbj _,zbM.mpr (Ne.symm (zaw hb)),[],.nil,Heap.DictOf.new h⟩
def Jc:TE:=λ_ H Q=>∀p,H p=none->Q (.ref p) (upd H p (.dK []))
def pe_dnewK:PE X (.Dict [] [] pos) Jc:=λρ s σ H Q I h=>
 wpAny_Dict_empty ⟨.ref s.heap.objs.size,_,I.laid (a:=s.heap.objs.size) (o:=.dK []) (t':=s.toks) (λ_ _ q=>zaf _ q) (zav _) (BW s.heap I.big),rfl,h _ (I.hok.fresh (zav _))⟩
end L2
set_option maxHeartbeats 4000000
namespace L2
variable{scope:Scope}{env:Env}{names:List (Str×NameKind)}{n c k i j d d1 d2 d' dr cd:Nat}{X:Cx}{M:Model}{A:Around}{E:Value->Shared->Prop}{ρ:List (Addr×Obj)}{σ σ':St}{H H2 H' H1 H0:Hp}{h':Heap}{t':TT}{fp:List Addr}{p p2 p1 q:Bool}{o:HO}{P prog:Program}{w:World}{K:zbU}{elts es ifs:List Expr}{tp pos ω μ ζ pos' px:Pos}{x:Str}{ps N ns:List Str}{e tg elt iter b:Expr}{l sl it jt tu a:Addr}{te tk:TE}{Q Qv Q':VK}{js:List (Option Nat)}{s2:Shared}{tn:Nat->Heap->Prop}{RR:Value->Addr->Result->Shared->Prop}{vs:List V}{rd:HO->Prop}{tb:List (Str×V)}{u fn:Value}{v y:V}{ds ds1 ds2 ds' ds0 dps lk dsi:List Nat}{op:CmpOp}{T:String}{st:Stmt}{r:V->List V->Hp->VK->Prop}{r':R2}{Dn:Ends}
open PySem PySem.Spec PyProof.Rows
def Gc{α β:Type}{l:List α}{f:α->β->Sem (ForInStep β)}{g:β->α->β}(h:∀x∈l,∀c,f x c=pure (.yield (g c x))):∀c,forIn l c f=pure (l.foldl g c):=by
 induction l with
 |nil=>intro c;rfl
 |cons x l ih=>
  intro c;rw[List.forIn_cons,h x zaq,pure_bind];exact ih (λy hy=>h y (zaj _ hy)) (g c x)
noncomputable def fg(env:Env)(acc:List (Str×Addr))(x:Str×NameKind):List (Str×Addr):=
 if x.2==NameKind.free then(x.1,(env.cells.lookup x.1).getD 0)::acc else acc
def dO(env:Env)(names:List (Str×NameKind)):List (Str×Addr):=names.foldl (fg env) []
def pA(h:∀y∈scope.names,y.2=.free->∃c,env.cells.lookup y.1=some c):closureFor scope env=pure (dO env scope.names):=by
 simp only[closureFor];rw[Gc (g:=fg env) (λx hx c=>by
  obtain⟨n,kind⟩:=x;by_cases hk:kind=.free
  .obtain⟨a,e⟩:=h _ hx hk;subst hk;have e':env.cells.lookup n=some a:=e;simp[cellOf,fg,e']
  .have hb:(kind==NameKind.free)=false:=by simpa using hk
   simp[fg,hb])]
 rfl
theorem pB{env:Env}:∀(names:List (Str×NameKind)) (acc:List (Str×Addr)) (p:Str×Addr),
  p∈names.foldl (fg env) acc->p∈acc\/((p.1,NameKind.free)∈names/\p.2=(env.cells.lookup p.1).getD 0)
 |[],_,_,h=>.inl h
 | (n,k)::r,acc,p,h=>by
  rw[List.foldl_cons]at h;rcases pB r _ p h with q|⟨q,e⟩
  .unfold fg at q;by_cases hk:(k==NameKind.free)=true
   .rw[if_pos hk]at q;rcases zay.mp q with z|z
    .subst z;have hk':k=NameKind.free:=by simpa using hk
     subst hk';exact .inr ⟨zaq,rfl⟩
    .exact .inl z
   .rw[if_neg hk]at q;exact .inl q
  .exact .inr ⟨zaj _ q,e⟩
theorem mZ{env:Env}:∀(names:List (Str×NameKind)) (acc:List (Str×Addr)) (p:Str×Addr),p∈acc->p∈names.foldl (fg env) acc
 |[],_,_,h=>h
 |x::r,acc,p,h=>by
  rw[List.foldl_cons];refine mZ r _ p ?_;unfold fg;split
  .exact zaj _ h
  .exact h
theorem pC{env:Env}{n:Str}:∀(names:List (Str×NameKind)) (acc:List (Str×Addr)),(n,NameKind.free)∈names->∃c,(n,c)∈names.foldl (fg env) acc
 | (m,k)::r,acc,h=>by
  rw[List.foldl_cons];rcases zay.mp h with e|e
  .cases e;exact⟨(env.cells.lookup n).getD 0,mZ r _ _ (by unfold fg;rw[if_pos (show(((n,NameKind.free):Str×NameKind).2==NameKind.free)=true from rfl)];exact zaq)⟩
  .exact pC r _ e
theorem ie{α:Type}:∀{l:List (Str×α)} {n:Str} {c:α},(n,c)∈l->∃c',l.lookup n=some c'
 | (m,d)::r,n,c,h=>by
  rw[zas];cases hb:n==m with
  |true=>exact⟨d,rfl⟩
  |false=>
   rcases zay.mp h with e|e
   .cases e;simp at hb
   .exact ie e
def uD{n:Str}(h:(n,NameKind.free)∈names):∃c,(dO env names).lookup n=some c:=
 let⟨_,e⟩:=pC (env:=env) names [] h
 ie e
def rq{n:Str}{c:Addr}(h:∀y∈names,y.2=.free->∃c,env.cells.lookup y.1=some c)(e:(dO env names).lookup n=some c):env.cells.lookup n=some c:=by
 rcases pB names [] (n,c) (zaT e)with q|⟨q,z⟩
 .simp at q
 .obtain⟨a,ea⟩:=h _ q rfl;have z':c=(env.cells.lookup n).getD 0:=z;have ea':env.cells.lookup n=some a:=ea;rw[ea']at z';rw[ea',z'];rfl
theorem kc{env:Env}:∀{names:List (Str×NameKind)} {x:Str} {k:NameKind},
  (names.map λ(n,k)=>if(k==NameKind.free&&env.scope.kind==.function&&env.kindOf n==some .cell)then(n,NameKind.cell)else(n,k)).lookup x=some k ->
  names.lookup x=some k\/(names.lookup x=some .free/\k=.cell)
 |[],_,_,h=>by simp at h
 | (n,k0)::r,x,k,h=>by
  rw[zar]at h;cases hx:x==n with
  |true=>
   rcases Bool.eq_false_or_eq_true (k0==NameKind.free&&env.scope.kind==.function&&env.kindOf n==some .cell)with hc|hc
   .simp only[hc,if_true,zas,hx]at h;have hk:k0=.free:=by
     simp only[zbm,beq_iff_eq]at hc;exact hc.1.1
    refine .inr ⟨?_,?_⟩
    .simp only[zas,hx,hk]
    .exact(zat h).symm
   .simp only[hc,Bool.false_eq_true,if_false,zas,hx]at h;refine .inl ?_;simp only[zas,hx];exact h
  |false=>
   have h':(r.map λ(n,k)=>if(k==NameKind.free&&env.scope.kind==.function&&env.kindOf n==some .cell)then(n,NameKind.cell)else(n,k)).lookup x=some k:=by
    rcases Bool.eq_false_or_eq_true (k0==NameKind.free&&env.scope.kind==.function&&env.kindOf n==some .cell)with hc|hc
    .simp only[hc,if_true,zas,hx]at h;exact h
    .simp only[hc,Bool.false_eq_true,if_false,zas,hx]at h;exact h
   simp only[zas,hx];exact kc h'
theorem oH{env:Env}:∀{names:List (Str×NameKind)} {x:Str},names.lookup x=some .free ->
  (names.map λ(n,k)=>if(k==NameKind.free&&env.scope.kind==.function&&env.kindOf n==some .cell)then(n,NameKind.cell)else(n,k)).lookup x=some .cell \/
  (names.map λ(n,k)=>if(k==NameKind.free&&env.scope.kind==.function&&env.kindOf n==some .cell)then(n,NameKind.cell)else(n,k)).lookup x=some .free
 |[],_,h=>by simp at h
 | (n,k0)::r,x,h=>by
  rw[zar];cases hx:x==n with
  |true=>
   simp only[zas,hx]at h;rcases Bool.eq_false_or_eq_true (k0==NameKind.free&&env.scope.kind==.function&&env.kindOf n==some .cell)with hc|hc
   .refine .inl ?_;simp only[hc,if_true,zas,hx]
   .refine .inr ?_;simp only[hc,Bool.false_eq_true,if_false,zas,hx];exact h
  |false=>
   simp only[zas,hx]at h;have ih:=oH (env:=env) h;rcases Bool.eq_false_or_eq_true (k0==NameKind.free&&env.scope.kind==.function&&env.kindOf n==some .cell)with hc|hc
   .simp only[hc,if_true,zas,hx];exact ih
   .simp only[hc,Bool.false_eq_true,if_false,zas,hx];exact ih
noncomputable def eQ(js:List (Option Nat))(σ:St):St:=js.map λj=>match j with
 |some j=>(σ[j]?).join
 |none=>none
def PTs(X:Cx)(ifs:List Expr)(tt:TT):Prop:=
 ∀(ρ:List (Addr×Obj)) (s:Shared) (σ:St) (H:Hp) (Q:Bool->Hp->Prop),Inv X ρ σ H s->tt σ H Q ->
  wpAny (model X.prog X.w) X.A (forIn ifs true λc r=>if r=true then do let ok <-isTrue c X.env (eval c X.env);pure (ForInStep.yield ok)else pure (ForInStep.yield r)) (TP X ρ σ Q) X.xe s
structure QTs(X:Cx)(e:List Expr)(t:TT):Prop where
 h:PTs X e t
noncomputable def LT:TT:=λ_ H Q=>Q true H
def pts_nil:PTs X [] LT:=λ_ _ _ H _ I h=>wpAny_tests_nil ⟨H,I,h⟩
def Fh{c:Expr}{tc:TT}(hc:PT X c tc):PTs X [c] tc:=λρ s σ H Q I h=>wpAny_tests_one (hc ρ s σ H Q I h)
def JR(g:TG)(tt:TT)(te:TE)(D:Addr)(x:V)(τ:St)(H:Hp)(N:St->Hp->Prop):Prop:=
 g x τ H λτ4 H4=>tt τ4 H4 λb H5=>if b=true then te τ4 H5 λv H6=>∃xs,H6 D=some (.lst xs)/\xs.length<sizeLine/\N τ4 (upd H6 D (.lst (xs++[v])))else N τ4 H5
def su(J:It)(g:TG)(tt:TT)(te:TE)(σ0:St)(H1:Hp)(D:Addr)(Q:VK):Prop:=
 ∃W:Nat->Nat->St->Hp->Prop,(∃m,W 0 m σ0 (upd H1 D (.lst []))) /\
  ∀i m τ H2,W i m τ H2->(J.stop i H2/\Q (.ref D) H2)\/(J.go i H2/\∃N:St->Hp->Prop,(∀τ' H',N τ' H'->∃m',m'<m/\W (i+1) m' τ' H')/\∀x H3,J.yld i H2 x H3->JR g tt te D x τ H3 N)
def tLC(wi:TI)(g:TG)(tt:TT)(te:TE)(js:List (Option Nat)):TE:=λσ H Q=>
 wi σ H λJ H1=>∀D,H1 D=none->su J g tt te (eQ js σ) H1 D Q
def thF{α:Type}{t:Sem α}{Q Q':α->Shared->Prop}{s:Shared}(h:wpAny M A t Q (λ_ _=>False) s)(hQ:∀a s,Q a s->Q' a s):wpAny M A t Q' E s:=
 wpAny_mono h hQ λ_ _ x=>x.elim
def B3:CallR X (.builtin "isinstance") (λxs H Q=>∃x t n b,xs=[x,.ty n]/\TyOf X.K H x t/\PySem.W.kitOne X.K t (.type n)=some b/\Q (.bl b) H):=by
 intro ρ s σ H xs us Q I r h;obtain⟨x,t,n,b,rfl,ty,e,q⟩:=h;obtain⟨u,w',rfl,r1,r2⟩:=wC r;cases r2;exact zz I r1 ty e λtk=>⟨.bl b,H,I.tok _,rfl,q⟩
section
open PySem.SeqAt
variable{s:Shared}
end
def Inv.turnedLaid{s:Shared}{t':Nat}{p:Addr}(I:Inv X ρ σ H s)(f:∀b∈fp,gP X ρ H b)(hp:s.heap.objs.size<=p)
  (k:∀b ob,b∉fp->s.heap.get? b=some ob->h'.get? b=some ob) (th:∀b∈fp,∃ob,h'.get? b=some ob) (new:ObjOk X.prog X.w (upd H p o) h' p o):Inv X ρ σ (upd H p o) { s with heap:=h',toks:=t' }:=by
 have hn:H p=none:=I.hok.fresh hp;have ne:∀b ob,s.heap.get? b=some ob->b≠p:=λb ob e=>zaw (zag (zal e) hp);have nf:∀b u,H b=some u->b∉fp:=λb u e z=>by rw[(f b z).1]at e;cases e
 refine I.step (g':=s.gens) (d':=s.drawn) (ch:=fp) (λb hb=>⟨(f b hb).2.2.2.1,(f b hb).2.1,(f b hb).2.2.2.2.1,(f b hb).2.2.2.2.2⟩) (λb ob _ _ hc e _=>k b ob hc e) (λb ob _ _ hc e _=>⟨ob.slots,k b ob hc e⟩)
  (λb ob _ e n=>by rw[az (ne b ob e)];exact n) (λb ob hc e=>⟨ob,k b ob hc e⟩) (λb xs e=>by rw[az (bN e hn)];exact e) (λb ob u e=>by rw[az (bN e hn)];exact e)
  (λb ps e=>by rw[az (bN e hn)];exact e) (λm hm=>?_) (λb u e=>?_) I.bare
 .obtain⟨ob,es,ep,ho,r⟩:=hm;exact⟨ob,es,ep,k _ ob (λz=>(f _ z).2.1 rfl) ho,r⟩
 .by_cases hb:b=p
  .subst hb;rw[aF]at e;cases e;exact new
  .rw[az hb]at e;refine(I.hok b u e).stay (λc v hc q=>k c v ?_ q) (λc q=>by rw[az (bN q hn)];exact q) λc xs _ q=>by rw[az (bN q hn)];exact q
   rcases hc with z|z
   .rw[z];exact nf b u e
   .exact nf c _ z
def Ite(K:zbU)(a:Addr):It:=
 ⟨λi H=>∃xs x,SqL K H a xs/\xs[i]?=some x,
  λi H y H'=>∃p x,y=.ref p/\H p=none/\H'=upd H p (.tup [.int i,x])/\∀xs,SqL K H a xs->xs[i]?=some x,
  λi H=>∃xs,SqL K H a xs/\xs.length<=i⟩
def yt(a e it:Addr)(hei:e≠it):
  Turn P w K (.Tuple elts k tp) (Ite K a) [e,it] e (λi h=>(∃old,IsEnum h e it i old)/\h.IsListIter it a i) where
 mem:=by simp
 obj:=λi h st b hb=>by
  obtain⟨⟨old,he⟩,o,ho,hc,hd⟩:=st;have hb':b=e\/b=it:=by simpa using hb
  rcases hb' with rfl|rfl
  .exact⟨_,he,λv z=>by
    have z':Data.fields _=Data.cell v:=z;cases z'⟩
  .exact⟨o,ho,λv z=>by rw[hd]at z;cases z⟩
 keep:=λi h h' st kp=>⟨let⟨old,he⟩:=st.1;⟨old,kp e (by simp) _ he⟩,st.2.at λo q=>kp it (by simp) o q⟩
 item:=by
  intro X hP hw hK hc i ρ s σ H E I hf st hg;subst hP hw hK;obtain⟨xs,x,hq,hx⟩:=hg;obtain⟨its,rv,p,hz⟩:=I.list hq;obtain⟨u,hu,ru⟩:=rv.get hx;obtain⟨⟨old,he⟩,hit⟩:=st;refine wpAny_pyNext_enum_item he hit p.isList (x:=u) (by simpa using hu) hei λh1 ho1 hit1 ht1 hz1 hk1=>?_;refine⟨_,rfl,wpAny_letOwnedTupleGo_enum ho1 λh2 he2 hs2=>?_⟩;have eL:e<s.heap.objs.size:=zal he;have ht2:h2.get? s.heap.objs.size=some { cls:=.type "tuple",data:=.seq #[.int i s.toks,u] }:=(hs2.2 _ (Nat.ne_of_gt eL)).trans ht1;have hit2:h2.IsListIter it a (i+1):=hit1.extBut hs2.extBut hei.symm;have I2:Inv X ρ σ (upd H s.heap.objs.size (.tup [.int i,x])) { s with heap:=h2,toks:=s.toks+1 }:=by
   refine I.turnedLaid (fp:=[e,it]) hf (zav _) (λb ob hb q=>?_) (λb hb=>?_) ?_
   .have h1:b≠e:=λz=>hb (by simp[z]);have h2':b≠it:=λz=>hb (by simp[z]);exact(hs2.2 b h1).trans (hk1 b ob h1 h2' q)
   .have hb':b=e\/b=it:=by simpa using hb
    rcases hb' with rfl|rfl
    .exact⟨_,he2⟩
    .obtain⟨o,ho,_⟩:=hit2;exact⟨o,ho⟩
   .refine⟨(by show 2<=sizeLine;decide),[.int i s.toks,u],.cons ⟨_,rfl⟩ (.cons ru .nil),?_⟩;exact⟨_,ht2,rfl,_,rfl,rfl⟩
  have fr:∀b∈[e,it],upd H s.heap.objs.size (.tup [.int i,x]) b=none:=λb hb=>by
   have hlt:b<s.heap.objs.size:=by
    have hb':b=e\/b=it:=by simpa using hb
    rcases hb' with rfl|rfl
    .exact eL
    .obtain⟨o,ho,_⟩:=hit;exact zal ho
   rw[az (zaw hlt)];exact(hf b hb).1
  exact⟨.ref s.heap.objs.size,_,I2,rfl,⟨_,x,rfl,I.fresh,rfl,λys hy=>by rw[I.list_inj hy hq];exact hx⟩,⟨⟨_,he2⟩,hit2⟩,fr⟩
 done:=by
  intro X hP hw hK hc i ρ s σ H E I hf st hg;subst hP hw hK;obtain⟨xs,hq,hx⟩:=hg;obtain⟨its,rv,p,hz⟩:=I.list hq;obtain⟨⟨old,he⟩,hit⟩:=st;obtain⟨f0,f1,f2,f3,f4,f5⟩:=hf it (by simp);have hl:=rv.length;exact wpAny_pyNext_enum_end (I.ok.hd hc) he hit p.isList (by simp;lia) λh' eb=>⟨rfl,I.turned (t':=s.toks) (λb o hb q=>eb b o hb q) f0 f1 f3 f4 f5⟩
 self:=λ_ _ _ _ _ st h=>let⟨⟨_,he⟩,_⟩:=st;wpAny_pyIter_enum he h
theorem ld:∀{xs:List V} {us:List Value},Vals xs us->Vals xs.reverse us.reverse
 |_,_,.nil=>.nil
 |_,_,.cons r t=>by
  rw[List.reverse_cons,List.reverse_cons];exact(ld t).append (.cons r .nil)
def Kn(P:Program)(w:World)(K:zbU)(mg:Str->Option Value)(base:Heap)(k:Nat)(x:Str)(ps:List Str)(sp:Sp):Prop:=
 ∃f fd,FnOk P w K mg base CX0 k f fd ps sp/\mg x=some (.ref f)/\PySem.W.keepIn K (.ref f)=true/\Binds K fd ps []
def Kn.mono{P:Program}{w:World}{K:zbU}{mg:Str->Option Value}{base:Heap}{j k:Nat}{x:Str}{ps:List Str}{sp:Sp}(G:Kn P w K mg base j x ps sp)(h:j<=k):Kn P w K mg base k x ps sp:=
 let⟨f,fd,a,b,c,d⟩:=G
 ⟨f,fd,a.mono h,b,c,d⟩
section
variable{sp:Sp}{p:Pos}{t:TA}
def Ez(G:Kn X.prog X.w X.K X.mg X.base k x ps sp)(hr:Room k X.A)(hg:Gl X x)(ha:PA X (e::es) t)(hdb:(x==("__debug__":Str))=false:=by decide)
  (he:starEach (e::es) X.env=(false,eval e X.env)::starEach es X.env:=by rfl) (hpl:(backTo pos (starEach es X.env)).any (·.1)=false:=by rfl):
  PE X (.Call (.Name x p) (e::es) [] pos) (sj sp [] E0 t):=by
 obtain⟨f,fd,F,hm,hk,hb⟩:=G;exact Fx F hr hg hm hk hb .nil my ha hdb he hpl
end
def LX(K:zbU):List V->Hp->VK->Prop:=λxs H Q=>∃x n,xs=[x]/\KS K x H n/\Q (.int n) H
def Jl(K:zbU):List V->Hp->VK->Prop:=λxs H Q=>∃p ys,xs=[.ref p]/\((SqL K H p ys/\∀l,H l=none->Q (.ref l) (upd H l (.tup ys)))\/(SqT K H p ys/\Q (.ref p) H))
section
def L0(hK:X.K=K):CallR X (.builtin "len") (LX K):=by subst hK;exact B2
def JV(hK:X.K=K):CallR X (.type "tuple") (Jl K):=by subst hK;exact rZ
def L1(hK:X.K=K):IxR X (wS K):=by subst hK;exact ix_list
def LZ(hK:X.K=K):SlR X (Jm K):=by subst hK;exact Jh
def Lm(hK:X.K=K):OpR X (binaryOp .Add) (Ew K):=by subst hK;exact FC
variable{l:Expr}{tl:TE}{t:TGs}{p p2:Pos}
end
noncomputable def hide(p:Addr)(H:Hp):Hp:=λb=>if b=p then none else H b
noncomputable def sgn(c:Nat):V:=.str ⟨#[c]⟩
def Its(z:Str):It:=⟨λi _=>i<z.cps.size,λi H x H'=>H'=H/\∃c,z.cps[i]?=some c/\x=sgn c,λi _=>z.cps.size<=i⟩
def AD(it:Addr)(z:Str)(t:Tok)(ty:String)(hty:ty="str_ascii_iterator"\/ty="str_iterator"):
  Turn P w K tg (Its z) [it] it (λi h=>h.IsStrIter it ty z t i) where
 mem:=by simp
 obj:=λi h st b hb=>by
  have e:b=it:=by simpa using hb
  subst e;obtain⟨o,e,c,d⟩:=st;exact⟨o,e,λv q=>by rw[d]at q;cases q⟩
 keep:=λi h h' st k=>let⟨o,e,r⟩:=st;⟨o,k it (by simp) o e,r⟩
 item:=by
  intro X hP hw hK hc i ρ s σ H E I hf st hg;subst hP hw hK;obtain⟨f0,f1,f2,f3,f4,f5⟩:=hf it (by simp);have W:Walks X.prog X.w X.A it [it] [it] z.cps.size (SignAt z) (λi h=>h.IsStrIter it ty z t i):=by
   rcases hty with rfl|rfl
   .exact Walks.strAscii (I.ok.hd hc) it z t
   .exact Walks.strWide (I.ok.hd hc) it z t
  refine W.item i s _ _ hg st λv h' tk hv st' kk=>?_;obtain⟨c,u,hcv,rfl⟩:=hv;have I1:Inv X ρ σ H { s with heap:=h',toks:=tk }:=I.turned (λb o hb e=>kk b o (by simpa using hb) e) f0 f1 f3 f4 f5;obtain⟨o,e,ec,ed⟩:=id st';refine⟨_,rfl,sw (s:={ s with heap:=h',toks:=tk }) (n:=ty) e ec ed (by rcases hty with rfl|rfl<;>decide) ⟨sgn c,H,I1,⟨u,rfl⟩,⟨rfl,c,hcv,rfl⟩,st',λb hb=>(hf b hb).1⟩⟩
 done:=by
  intro X hP hw hK hc i ρ s σ H E I hf st hg;subst hP hw hK;obtain⟨f0,f1,f2,f3,f4,f5⟩:=hf it (by simp);have hle:z.cps.size<=i:=hg;rcases hty with rfl|rfl
  .exact wpAny_pyNext_ascii_end (I.ok.hd hc) st (by simpa using hle) λh' he=>⟨rfl,I.turned (t':=s.toks) (λb o hb e=>he b o hb e) f0 f1 f3 f4 f5⟩
  .exact wpAny_pyNext_wide_end (I.ok.hd hc) st (by simpa using hle) λh' he=>⟨rfl,I.turned (t':=s.toks) (λb o hb e=>he b o hb e) f0 f1 f3 f4 f5⟩
 self:=λA i s Q E st h=>by
  rcases hty with rfl|rfl
  .exact wpAny_pyIter_striter_ascii st h
  .exact wpAny_pyIter_striter_wide st h
def oz{ys:List Str}:∀{us:List Value},Vals (ys.map V.str) us->StrsAre us ys:=by
 induction ys with
 |nil=>intro us r;cases r;exact .nil
 |cons y ys ih=>
  intro us r;cases r with
  |cons r1 r2=>
   obtain⟨t,e⟩:=r1;subst e;exact .cons y t (ih r2)
def Ev(K:zbU):V->List V->Hp->VK->Prop:=λx xs H Q=>∃sep ys p,x=.str sep/\xs=[.ref p]/\(SqL K H p (ys.map V.str)\/SqT K H p (ys.map V.str))/\sep.length<=16/\(ys.map (·.length)).sum+ys.length<=1048576/\Q (.str (Txt.join sep ys)) H
def FI(hK:X.K=K):MtR X "str.join" (Ev K):=by
 subst hK;intro ρ s σ H x xs v us Q I rx rs h;obtain⟨sep,ys,p,rfl,rfl,hp,hs,hw,q⟩:=h;obtain⟨t,rfl⟩:=rx;obtain⟨u,rfl,ru⟩:=iy rs;cases ru;rcases hp with hp|hp
 .obtain⟨its,rv,pl,_⟩:=I.list hp;exact join_listW pl.isList (by simpa using oz rv) hs hw λt' k=>⟨.str _,H,I.tok k,⟨_,rfl⟩,q⟩
 .obtain⟨its,rv,pl,_⟩:=I.tuple hp;exact join_tupleW pl (by simpa using oz rv) hs hw λt' k=>⟨.str _,H,I.tok k,⟨_,rfl⟩,q⟩
def bY(xs:List Nat)(lo hi:Option Int):List Nat:=(xs.drop (HT.sIx xs.length 0 lo)).take (HT.sIx xs.length xs.length hi-HT.sIx xs.length 0 lo)
def sV(n d:Nat)(v:Option Int)(h:d<=n):HT.sIx n d v<=n:=by
 cases v with
 |none=>exact h
 |some i=>
  unfold HT.sIx
  dsimp only
  split<;>lia
def AH(lo hi:Option Int)(n:Nat):Builtin.Str.strSliceIndices lo hi 1 n=(List.range (HT.sIx n n hi-HT.sIx n 0 lo)).map (HT.sIx n 0 lo+·):=by
 obtain⟨h1,h2,h3⟩:=sQ lo hi n;have e:Builtin.Str.strSliceIndices lo hi 1 n=sliceRange (sliceBounds lo hi none n).1 (sliceBounds lo hi none n).2.1 (sliceBounds lo hi none n).2.2:=by
  cases lo<;>cases hi<;>rfl
 rw[e,h1,h2,h3,sliceRange_one]
def wJ(x:Str)(lo hi:Option Int):Txt.slice x lo hi=⟨(bY x.cps.toList lo hi).toArray⟩:=by
 unfold Txt.slice;have hl:x.length=x.cps.toList.length:=by simp[Str.length]
 rw[AH];have e:(((List.range (HT.sIx x.length x.length hi-HT.sIx x.length 0 lo)).map (HT.sIx x.length 0 lo+·)).filterMap (x.cps[·]?))=bY x.cps.toList lo hi:=by
  rw[pick_run,hl];rfl
 rw[e];split
 .rename_i hc;have hc':HT.sIx x.length x.length hi-HT.sIx x.length 0 lo=x.length:=by simpa using hc
  have h1:=sV x.length x.length hi (zav _);have ha:HT.sIx x.length 0 lo=0\/x.length=0:=by lia
  have:bY x.cps.toList lo hi=x.cps.toList:=by
   unfold bY;rw[<-hl,hc'];rcases ha with z|z
   .rw[z,za2,hl,zaP]
   .rw[z,List.take_zero];rw[hl]at z;exact(List.eq_nil_of_length_eq_zero z).symm
  rw[this]
 .rfl
def LW:V->Option Int->Option Int->Hp->VK->Prop:=λx lo hi H Q=>∃z,x=.str z/\z.length<=sizeLine/\Q (.str ⟨(bY z.cps.toList lo hi).toArray⟩) H
def sl_str:SlR X LW:=by
 intro ρ s σ H x v vl vu lo hi sl Q I rx hs pl pu h;obtain⟨z,rfl,hz,q⟩:=h;obtain⟨t,rfl⟩:=rx;rw[<-wJ]at q;have go:∀(l u:Option (Int×Tok)),s.heap.IsSlice sl l u none->l.map (·.1)=lo->u.map (·.1)=hi->wpAny (model X.prog X.w) X.A (getItem (.str z t) (.ref sl)) (EP X ρ σ Q) X.xe s:=λl u hsl e1 e2=>by
  subst e1 e2;exact wpAny_getItem_str_slice (st:=none) hsl rfl (post_val_or_str ⟨zau (Txt.slice_le z _ _) hz,λt' k=>⟨.str _,H,I.tok k,⟨_,rfl⟩,q⟩⟩)
 refine⟨"str",_,F.slot_str_getitem.lookup,typeIs_str _ _ _,?_⟩;cases pl with
 |none=>
  cases pu with
  |none=>exact go none none hs rfl rfl
  |int j u=>exact go none (some (j,u)) hs rfl rfl
 |int i t=>
  cases pu with
  |none=>exact go (some (i,t)) none hs rfl rfl
  |int j u=>exact go (some (i,t)) (some (j,u)) hs rfl rfl
noncomputable def Jp(K:zbU):R2:=λx y H Q=>∃a b ys,x=.ref a/\y=.ref b/\SqT K H a []/\SqT K H b ys/\Q (.ref b) H
def AZ(hK:X.K=K):OpR X (binaryOp .Add) (Jp K):=by
 subst hK;intro ρ s σ H x y v u Q I rx ry h;obtain⟨a,b,ys,rfl,rfl,ha,hb,q⟩:=h;cases rx;cases ry;obtain⟨its,r1,p1,_⟩:=I.tuple ha;obtain⟨ν,r2,p2,_⟩:=I.tuple hb;cases r1;obtain⟨⟨cls,dd,data,sl⟩,ho,hc,n,hd⟩:=id p1;obtain⟨⟨cls2,dd2,data2,sl2⟩,ho2,hc2,n2,hd2⟩:=id p2;simp only at hc hd hc2 hd2;subst hc hd hc2 hd2;exact concat_meets ⟨_,ho,rfl⟩ ⟨_,ho2,rfl⟩ noFill_tuple_add seq_tuple_add PySem.F.slot_tuple_add PySem.F.entry_tuple_add (PySem.F.args_tuple_add_2 _ _)
  (tuple_addW0 a b _ _ n n2 dd dd2 sl sl2 (by simp)) ⟨ho,ho2,⟨.ref b,H,I,rfl,q⟩⟩
noncomputable def hid(l:List Addr)(H:Hp):Hp:=λb=>if b∈l then none else H b
def Inv.turnedMany{s:Shared}{t':Nat}(I:Inv X ρ σ H s)(f:∀b∈fp,gP X ρ H b)
  (k:∀b ob,b∉fp->s.heap.get? b=some ob->h'.get? b=some ob):Inv X ρ σ H { s with heap:=h',toks:=t' }:=by
 have nf:∀b u,H b=some u->b∉fp:=λb u e z=>by rw[(f b z).1]at e;cases e
 refine I.step (g':=s.gens) (d':=s.drawn) (ch:=fp) (λb hb=>⟨(f b hb).2.2.2.1,(f b hb).2.1,(f b hb).2.2.2.2.1,(f b hb).2.2.2.2.2⟩) (λb ob _ _ hc e _=>k b ob hc e) (λb ob _ _ hc e _=>⟨ob.slots,k b ob hc e⟩)
  (λ_ _ _ _ n=>n) (λb ob hc e=>⟨ob,k b ob hc e⟩) (λ_ _ e=>e) (λ_ _ _ e=>e) (λ_ _ e=>e) (λm hm=>?_) (λb u e=>?_) I.bare
 .obtain⟨ob,es,ep,ho,r⟩:=hm;exact⟨ob,es,ep,k _ ob (λz=>(f _ z).2.1 rfl) ho,r⟩
 .refine(I.hok b u e).stay (λc v hc q=>k c v ?_ q) (λ_ q=>q) λ_ _ _ q=>q;rcases hc with z|z
  .rw[z];exact nf b u e
  .exact nf c _ z
noncomputable def K1(te tk:TE):TE:=λσ H Q=>te σ H λx H1=>tk σ H1 λy H2=>∃z,x=.str z/\y=.int (-1)/\z.length<=sizeLine/\Q (.str ⟨z.cps.toList.reverse.toArray⟩) H2
def Ft{k:Expr}{p2:Pos}(he:PE X e te)(hk:PE X k tk):PE X (.Subscript e (.Slice none none (some k) p2) pos) (K1 te tk):=by
 intro ρ s σ H Q I h;refine Subscript_ (thn (he ρ s σ H _ I h) λv s1 ⟨x,H1,I1,r1,q1⟩=>?_);refine wpAny_Slice ?_;rw[evalPart_none];refine zaS (zaS ?_);rw[evalPart_some];refine thn (hk ρ s1 σ H1 _ I1 q1) ?_;rintro vk s3 ⟨y,H3,I3,r3,q3⟩;obtain⟨z,rfl,rfl,hz,q⟩:=q3;obtain⟨t,rfl⟩:=r3;obtain⟨t1,rfl⟩:=r1;have I4:Inv X ρ σ H3 { s3 with heap:=s3.heap.push { cls:=.type "slice",data:=.fields #[.none,.none,.int (-1) t] } }:=I3.kept (t':=s3.toks) λb ob q=>zaf _ q;show wpAny (model X.prog X.w) X.A (subscriptTail e (.Slice none none (some k) p2) (.str z t1) (.ref s3.heap.objs.size)) (EP X ρ σ Q) X.xe { s3 with heap:=s3.heap.push { cls:=.type "slice",data:=.fields #[.none,.none,.int (-1) t] } };refine tail_any (ops:=[.str z t1,.ref s3.heap.objs.size]) (typeIs_str _ _ _) F.slot_str_getitem.lookup ?_ (by with_unfolding_all rfl);refine wpAny_getItem_str_slice (l:=none) (u:=none) (st:=some (-1,t)) ⟨_,zan _ rfl,rfl,rfl⟩ rfl ?_;have e:sliceMade z t1 none none (some (-1,t))=.str ⟨z.cps.toList.reverse.toArray⟩:=by
  unfold sliceMade;rw[if_neg (by
   intro q;have q':((-1:Int)==1&&(slicePicked z none none (some (-1,t))).length==z.length)=true:=q;rw[show((-1:Int)==1)=false by decide,Bool.false_and]at q';cases q')]
  show Made.str ⟨((sliceRange ((z.cps.size:Int)-1) (-1) (-1)).filterMap (z.cps[·]?)).toArray⟩=_;rw[PySem.W.krv_sliceRange,PySem.W.krv_range,List.filterMap_reverse,PySem.W.krv_all]
 rw[e];refine⟨?_,⟨.str _,H3,I4.tok _,⟨_,rfl⟩,q⟩⟩;show z.cps.toList.reverse.toArray.size<=sizeLine;rw[zai,List.length_reverse,zaX];exact hz
theorem uj{α β:Type}{f g:α->Option β}:∀{l:List α},(∀a∈l,f a=g a)->l.filterMap f=l.filterMap g
 |[],_=>rfl
 |a::l,h=>by
  rw[List.filterMap_cons,List.filterMap_cons,h a zaq,uj λb hb=>h b (zaj _ hb)]
section
variable{s:Shared}
def vp{t:Tok}{Q:Int×Int×Nat->Shared->Prop}(hs:s.heap.IsSliceOf sl .none .none (.int (-1) t))
  (h:Q ((n:Int)-1,-1,n) s):wpAny (model prog w) A (Builtin.Slice.sliceApplied (.ref sl) (pure (n:Int))) Q E s:=by
 obtain⟨os,hos,hcs,hds⟩:=id hs;unfold Builtin.Slice.sliceApplied Builtin.Slice.sliceFields;refine zam (zam (wpAny_field hos hds (x:=.none) rfl (zam (wpAny_field hos hds (x:=.none) rfl (zam (wpAny_field hos hds (x:=.int (-1) t) rfl (zaS ?_)))))));refine zam (HT.slicePart_ (.int (-1) t) ?_);show wpAny _ _ (if((-1:Int)==0)=true then _ else _) _ _ s;rw[if_neg (by decide)];refine zam (HT.slicePart_ .none (zam (HT.slicePart_ .none (zam (zaS ?_)))));show wpAny _ _ (match Builtin.Slice.sliceAdjust none none (-1) (n:Int)with | (lo,hi)=>pure (lo,(-1:Int),Builtin.Slice.slicePlaces lo hi (-1))) _ _ s;have e:Builtin.Slice.sliceAdjust none none (-1) (n:Int)=((n:Int)-1,-1):=by
  first
   |rfl
   |simp[Builtin.Slice.sliceAdjust]
 rw[e];show wpAny _ _ (pure ((n:Int)-1,(-1:Int),Builtin.Slice.slicePlaces ((n:Int)-1) (-1) (-1))) _ _ s;have e2:Builtin.Slice.slicePlaces ((n:Int)-1) (-1) (-1)=n:=by
  unfold Builtin.Slice.slicePlaces;have h1:¬((-1:Int)>0):=by lia
  simp only[h1,if_false];split
  .simp
   try lia
  .lia
 rw[e2];exact zaS h
def mM{t:Addr}{u:Tok}{items:Array Value}{Q:Value->Shared->Prop}(ht:IsTup s.heap t items)(hs:s.heap.IsSliceOf sl .none .none (.int (-1) u))
  (h:Q (.ref s.heap.objs.size) { s with heap:=s.heap.push { cls:=.type "tuple",data:=.seq items.toList.reverse.toArray } })
  (hsz:items.size<=sizeLine):wpAny (model prog w) A (getItem (.ref t) (.ref sl)) Q E s:=by
 have xN:sizeOk (.seq items.toList.reverse.toArray):=by
  show items.toList.reverse.toArray.size<=sizeLine;rw[zai,List.length_reverse,zaX];exact hsz
 obtain⟨os,hos,hcs,hds⟩:=id hs;have hTs:s.TypeIs (.ref sl) "slice":=⟨os,hos,hcs⟩;unfold getItem
 try with_reducible refine zbO ?_
 first|refine zam (zaS ?_)|skip
 refine zam (wpAny_sequenceKey ht.typeIs (by decide) ?_);refine zam (zbz (name:=Str.ofString "__getitem__") ht.typeIs PyProof.Rows.slot_tuple_getitem
  (wpAny_call_entry PyProof.Rows.slot_tuple_getitem ht.typeIs entry_tuple_getitem ?_ (args_tuple_getitem _ _)))
 show wpAny _ _ (Builtin.Tuple.tupleItemsOf (.ref t) >>= _) _ _ s;refine zam (tupleItemsOf_ ht ?_);refine zam (wpAny_typeOf hTs ?_);rw[if_pos (by decide)];refine zam (vp hs ?_);have hno:¬(((items.size:Int)-1==0&&(-1:Int)==1&&items.size==items.size)=true):=by
  intro q;rw[show((-1:Int)==1)=false by decide,zbT,Bool.false_and]at q;cases q
 show wpAny _ _ (if((items.size:Int)-1==0&&(-1:Int)==1&&items.size==items.size)=true then _ else _) _ _ s;have pick:((List.range items.size).filterMap λ(m:Nat)=>items[((items.size:Int)-1+(m:Int)*-1).toNat]?).toArray=items.toList.reverse.toArray:=by
  have e:((List.range items.size).filterMap λ(m:Nat)=>items[((items.size:Int)-1+(m:Int)*-1).toNat]?)=((List.range items.size).map λk=>items.size-1-k).filterMap (items[·]?):=by
   rw[List.filterMap_map];refine uj λm hm=>?_
   have:=zbq.mp hm;have e:((items.size:Int)-1+(m:Int)*-1).toNat=items.size-1-m:=by lia
   rw[e];rfl
  rw[e,PySem.W.krv_range,List.filterMap_reverse,PySem.W.krv_all]
 rw[if_neg hno,pick]
 first
  |exact zam (m:=Builtin.Tuple.tupleExact _) (wpAny_newObj_type (zaS ⟨_,rfl,zaS h⟩) xN)
  |exact zam (m:=Builtin.Tuple.tupleExact _) (wpAny_newObj_type (zam (zaS (zaS ⟨_,rfl,zaS h⟩))) xN)
  |exact zam (zam (m:=Builtin.Tuple.tupleExact _) (wpAny_newObj_type (zaS (zaS ⟨_,rfl,zaS h⟩)) xN))
  |exact zam (zam (m:=Builtin.Tuple.tupleExact _) (wpAny_newObj_type (zaS ⟨_,rfl,zaS h⟩) xN))
end
def KZ(K:zbU)(te tk:TE):TE:=λσ H Q=>te σ H λx H1=>tk σ H1 λy H2=>∃a xs,x=.ref a/\y=.int (-1)/\SqT K H2 a xs/\∀p,H2 p=none->Q (.ref p) (upd H2 p (.tup xs.reverse))
def Ba{k:Expr}{p2:Pos}(hK:X.K=K)(he:PE X e te)(hk:PE X k tk):PE X (.Subscript e (.Slice none none (some k) p2) pos) (KZ K te tk):=by
 subst hK;intro ρ s σ H Q I h;refine Subscript_ (thn (he ρ s σ H _ I h) λv s1 ⟨x,H1,I1,r1,q1⟩=>?_);refine wpAny_Slice ?_;rw[evalPart_none];refine zaS (zaS ?_);rw[evalPart_some];refine thn (hk ρ s1 σ H1 _ I1 q1) ?_;rintro vk s3 ⟨y,H3,I3,r3,q3⟩;obtain⟨a,xs,rfl,rfl,hx,q⟩:=q3;obtain⟨t,rfl⟩:=r3;cases r1;have I4:Inv X ρ σ H3 { s3 with heap:=s3.heap.push { cls:=.type "slice",data:=.fields #[.none,.none,.int (-1) t] } }:=I3.kept (t':=s3.toks) λb ob q=>zaf _ q;obtain⟨its,r,ht,hz⟩:=I4.tuple hx;show wpAny (model X.prog X.w) X.A (subscriptTail e (.Slice none none (some k) p2) (.ref a) (.ref s3.heap.objs.size)) (EP X ρ σ Q) X.xe { s3 with heap:=s3.heap.push { cls:=.type "slice",data:=.fields #[.none,.none,.int (-1) t] } };refine tail_any (ops:=[.ref a,.ref s3.heap.objs.size]) ht.typeIs PyProof.Rows.slot_tuple_getitem.lookup ?_ (by with_unfolding_all rfl);have ξ:=r.length;refine mM ht (Heap.IsSliceOf.new ..) ?_ (by rw[zai]<;>lia);refine⟨.ref _,_,I4.laid (t':=s3.toks) (o:=.tup xs.reverse) (λb ob q=>zaf _ q) (zav _) ?_,rfl,q _ (I4.hok.fresh (zav _))⟩;exact⟨by rw[List.length_reverse];exact hz,its.reverse,ld r,IsTupN.new _ _⟩
abbrev li(z:Str):List Nat:=z.cps.toList
noncomputable def mk1(c:Nat):Str:=⟨#[c]⟩
noncomputable def ofL(l:List Nat):Str:=⟨l.toArray⟩
theorem yU(z:Str):ofL (li z)=z:=rfl
def dD{a b:Str}(h:li a=li b):a=b:=by rw[<-yU a,<-yU b,h]
theorem tQ(z:Str):z.length=(li z).length:=rfl
def zg(a b:Str):li (a++b)=li a++li b:=by
 show(a.cps++b.cps).toList=_;rw[Array.toList_append]
noncomputable def emp:Str:=""
def cat(ks:List Str):Str:=Txt.join emp ks
noncomputable def aQ(ks:List Str):List Nat:=(ks.map li).flatten
def KH(ks:List Str):li (cat ks)=aQ ks:=by
 unfold cat Txt.join aQ;rw[StrLaws.glued_eq_join]
 induction ks with
 |nil=>rfl
 |cons x r ih=>
  cases r with
  |nil=>
   show li x=_;simp
  |cons y r=>
   show li (x++emp++Str.join emp (y::r))=_;rw[zg,zg,ih];show li x++[]++_=li x++((y::r).map li).flatten;rw[zbr]
def rE(ks:List Str)(x:Str):aQ (ks++[x])=aQ ks++li x:=by
 unfold aQ;rw[zaC,List.flatten_append];simp
def uG(ks:List Str):(ks.map (·.length)).sum=(aQ ks).length:=by
 unfold aQ;rw[List.length_flatten,zaQ];rfl
def Sub(x z:List Nat):Prop:=∀c∈x,c∈z
section
variable{s:Shared}
structure ZApart(z TI TO i1 i2:Addr):Prop where
 TIz:TI≠z
 TOz:TO≠z
 i1z:i1≠z
 i2z:i2≠z
 TITO:TI≠TO
 TIi1:TI≠i1
 TIi2:TI≠i2
 TOi1:TO≠i1
 TOi2:TO≠i2
 i12:i1≠i2
end
def wz(n:Nat):ZApart (n+4) (n+2) (n+3) n (n+1):=⟨(by show(n+2:Nat)≠(n+4:Nat);lia),(by show(n+3:Nat)≠(n+4:Nat);lia),(by show(n:Nat)≠(n+4:Nat);lia),(by show(n+1:Nat)≠(n+4:Nat);lia),(by show(n+2:Nat)≠(n+3:Nat);lia),(by show(n+2:Nat)≠(n:Nat);lia),(by show(n+2:Nat)≠(n+1:Nat);lia),(by show(n+3:Nat)≠(n:Nat);lia),(by show(n+3:Nat)≠(n+1:Nat);lia),(by show(n:Nat)≠(n+1:Nat);lia)⟩
def vG:V->List V->Hp->VK->Prop:=λx xs H Q=>∃z y,x=.str z/\xs=[.str y]/\Q (.bl (Txt.startswith z y)) H
def je:MtR X "str.startswith" vG:=by
 intro ρ s σ H x xs v us Q I rx rs h;obtain⟨z,y,rfl,rfl,q⟩:=h;obtain⟨t,rfl⟩:=rx;obtain⟨u,rfl,ru⟩:=iy rs;obtain⟨t2,rfl⟩:=ru;exact SC.startswith ⟨.bl _,H,I,rfl,q⟩
noncomputable def zE(z y:Str):Bool:=!(Builtin.Str.occurrences z y 0 z.length 1).isEmpty
section
open PySem.SeqAt
end
theorem fj:∀(names:List (Str×NameKind)) (n:Nat) (acc:List (Str×Addr)),cellsFrom n names acc=cellsFrom n names []++acc
 |[],_,_=>rfl
 | (x,k)::r,n,acc=>by
  unfold cellsFrom;split
  .rw[fj r (n+1) ((x,n)::acc),fj r (n+1) [(x,n)],zaD];rfl
  .exact fj r n acc
theorem ig:∀(names:List (Str×NameKind)) (n:Nat) (acc:List (Str×Addr)) {x:Str} {c:Addr},(x,c)∈cellsFrom n names acc->(x,c)∈acc\/(x,NameKind.cell)∈names
 |[],_,_,_,_,h=>.inl h
 | (y,k)::r,n,acc,x,c,h=>by
  unfold cellsFrom at h;split at h
  .rename_i hk;rcases ig r _ _ h with h|h
   .rcases zay.mp h with e|e
    .have hk':k=.cell:=by simpa using hk
     have e':=(Prod.mk.inj e).1;rw[e',<-hk'];exact .inr zaq
    .exact .inl e
   .exact .inr (zaj _ h)
  .rcases ig r _ _ h with h|h
   .exact .inl h
   .exact .inr (zaj _ h)
theorem gH:∀(names:List (Str×NameKind)) (n:Nat) (acc:List (Str×Addr)) {p:Str×Addr},p∈acc->p∈cellsFrom n names acc
 |[],_,_,_,h=>h
 | (y,k)::r,n,acc,p,h=>by
  unfold cellsFrom;split
  .exact gH r _ _ (zaj _ h)
  .exact gH r _ _ h
theorem ii:∀(names:List (Str×NameKind)) (n:Nat) (acc:List (Str×Addr)) {x:Str},(x,NameKind.cell)∈names->∃c,(x,c)∈cellsFrom n names acc
 |[],_,_,_,h=>by simp at h
 | (y,k)::r,n,acc,x,h=>by
  unfold cellsFrom;rcases zay.mp h with e|e
  .cases e;rw[if_pos (by rfl)];exact⟨n,gH r _ _ zaq⟩
  .split
   .exact ii r _ _ e
   .exact ii r _ _ e
theorem tP{α:Type}:∀{a b:List (Str×α)} {x:Str} {c:α},(a++b).lookup x=some c->a.lookup x=some c\/(a.lookup x=none/\b.lookup x=some c)
 |[],_,_,_,h=>.inr ⟨rfl,h⟩
 | (n,v)::r,b,x,c,h=>by
  rw[zaY,zas]at h;rw[zas];cases e:x==n with
  |true=>rw[e]at h;exact .inl h
  |false=>rw[e]at h;exact tP h
theorem lx{α:Type}:∀{a b:List (Str×α)} {x:Str} {c:α},a.lookup x=some c->(a++b).lookup x=some c
 |[],_,_,_,h=>by simp at h
 | (n,v)::r,b,x,c,h=>by
  rw[zaY,zas];rw[zas]at h;cases e:x==n with
  |true=>rw[e]at h;exact h
  |false=>rw[e]at h;exact lx h
theorem kj{α:Type}:∀{a b:List (Str×α)} {x:Str} {c:α},a.lookup x=none->b.lookup x=some c->(a++b).lookup x=some c
 |[],_,_,_,_,h=>h
 | (n,v)::r,b,x,c,hn,h=>by
  rw[zaY,zas];rw[zas]at hn;cases e:x==n with
  |true=>rw[e]at hn;cases hn
  |false=>rw[e]at hn;exact kj hn h
abbrev aC(X:Cx)(scope:Scope)(ns:List Str)(C:Addr)(cl:List (Str×Addr))(s₀:Shared)(H₀:Hp)(fp:List Addr):Cx:=
 { X with N:=ns,s₀:=s₀,H₀:=H₀,env:=compEnvC scope cl C X.env,outer:=X.stack,ex:=fp,fn:=λx=>scope.names.lookup x==some NameKind.cell,pn:=[],xe:=λ_ _=>False,hide:=λ_=>none }
structure BlkOkC(X:Cx)(scope:Scope)(ns:List Str)(js:List (Option Nat)):Prop where
 kind:scope.kind=.function
 uniq:∀y∈scope.names,y.2=.cell->scope.names.lookup y.1=some .cell
 names:∀y∈scope.names,y.2=.local->scope.names.lookup y.1=some .local
 free:∀y∈scope.names,y.2=.free->X.env.kindOf y.1=some .cell\/X.env.kindOf y.1=some .free
 nd:ns.Nodup
 len:js.length=ns.length
 out:∀(i:Nat) (x:Str) (j:Nat),ns[i]?=some x->js[i]?=some (some j)->X.N[j]?=some x/\scope.names.lookup x=some .free
noncomputable def qH(N:List Str)(sc scope:Scope)(ns:List Str)(js:List (Option Nat)):Bool:=
 decide (scope.kind=.function)&&scope.names.all (λy=>decide (y.2=.cell->scope.names.lookup y.1=some .cell))&&scope.names.all (λy=>decide (y.2=.local->scope.names.lookup y.1=some .local)) &&
 scope.names.all (λy=>decide (y.2=.free->sc.names.lookup y.1=some .cell\/sc.names.lookup y.1=some .free))&&decide ns.Nodup&&decide (js.length=ns.length) &&
 (List.range ns.length).all (λi=>match js[i]?,ns[i]? with
  |some (some j),some x=>decide (N[j]?=some x)&&decide (scope.names.lookup x=some .free)
  |_,_=>true)
def Gw(h7:∀i<ns.length,(match js[i]?,ns[i]? with
  |some (some j),some x=>decide (N[j]?=some x)&&decide (scope.names.lookup x=some .free)
  |_,_=>true)=true)(e1:ns[i]?=some x)(e2:js[i]?=some (some j)):N[j]?=some x/\scope.names.lookup x=some .free:=by
 have q:=h7 i (zah.mp e1).1;rw[e1,e2]at q;simpa using q
def BlkOkC.of{N0:List Str}{sc0:Scope}(hN:X.N=N0)(hS:X.env.scope=sc0)(h:qH N0 sc0 scope ns js=true):BlkOkC X scope ns js:=by
 unfold qH at h;simp only[zbm,List.all_eq_true,decide_eq_true_eq,zbq]at h;obtain⟨⟨⟨⟨⟨⟨h1,h2⟩,h3⟩,h4⟩,h5⟩,h6⟩,h7⟩:=h;refine⟨h1,λy hy=>h2 y hy,λy hy=>h3 y hy,λy hy hk=>?_,h5,h6,λi x j e1 e2=>?_⟩
 .have q:=h4 y hy hk;rw[<-hS]at q;exact q
 .rw[hN];exact Gw h7 e1 e2
section
variable{s:Shared}
def jb{globals:Addr}{closure:List (Str×Addr)}{qual:Str}{outer:Env}{builtins:Addr}{Q:Env->Shared->Prop}
  (hQ:Q (newEnv scope s.heap.objs.size globals (cellsFrom (s.heap.objs.size+1) scope.names closure) qual none .none (some outer) builtins) { s with heap:=pushCells (s.heap.push { cls:=.type "dict",data:=.dict #[] }) scope.names }):
  wpAny M A (newFunctionEnv scope globals closure [] qual none .none (some outer) builtins) Q E s:=by
 simp only[newFunctionEnv,Option.isSome_some,if_true];refine zam (wpAny_alloc ?_);refine zam (wpAny_layCells _ (λname kind cells=>by cases hkc:kind==NameKind.cell<;>simp[hkc]) _ _ _ _ ?_);rw[show({ s with heap:=s.heap.push { cls:=.type "dict",data:=.dict #[] } }:Shared).heap.objs.size=s.heap.objs.size+1 from zbu ..];rw[List.forIn_nil];exact zam (zaS (zaS hQ))
end
section
variable{wi:TI}{g:TG}{tt:TT} 
def B5{s3:Shared}{H3:Hp}{h₁:Heap}{tk:Nat}(B:BlkOkC X scope ns js)(I3:Inv X ρ σ H3 s3)
  (f3:∀b∈fp,gP X ρ H3 b) (lt3:∀b∈fp,b<s3.heap.objs.size) (hns:h₁.Ns s3.heap.objs.size (λ_=>none)) (old:∀b u,s3.heap.get? b=some u->h₁.get? b=some u)
  (cok:CellsOk h₁ (s3.heap.objs.size+1) (cellsFrom (s3.heap.objs.size+1) scope.names [])):
  Inv (aC X scope ns s3.heap.objs.size (cellsFrom (s3.heap.objs.size+1) scope.names (dO X.env scope.names)) s3 H3 fp) [] (eQ js σ) H3 { s3 with heap:=h₁,toks:=tk }:=by
 rw[fj];have hmem:∀{x:Str} {c:Addr},(x,c)∈cellsFrom (s3.heap.objs.size+1) scope.names []->scope.names.lookup x=some .cell:=λ{x c} h=>by
  rcases ig _ _ _ h with h|h
  .simp at h
  .exact B.uniq _ h rfl
 have hhas:∀{x:Str},scope.names.lookup x=some .cell->∃c,(cellsFrom (s3.heap.objs.size+1) scope.names []).lookup x=some c:=λ{x} h=>by
  obtain⟨c,hc⟩:=ii scope.names (s3.heap.objs.size+1) [] (zaT h);exact ie hc
 generalize cellsFrom (s3.heap.objs.size+1) scope.names []=CS at cok hmem hhas;have has:∀y∈scope.names,y.2=.free->∃c,X.env.cells.lookup y.1=some c:=λy hy hk=>I3.ok.has y.1 (B.free y hy hk);have look:∀{n:Str} {c:Addr},(CS++dO X.env scope.names).lookup n=some c->(CS.lookup n=some c/\h₁.IsCell c none/\s3.heap.objs.size+1<=c)\/(CS.lookup n=none/\X.env.cells.lookup n=some c/\c<s3.heap.objs.size):=λ{n c} e=>by
  rcases tP e with e|⟨e1,e2⟩
  .exact .inl ⟨e,cok.empty n c (zaT e)⟩
  .have e3:=rq has e2;obtain⟨v,hv⟩:=I3.cell n c e3;exact .inr ⟨e1,e3,hv.lt⟩
 refine⟨⟨I3.ok.mod,B.kind,I3.ok.glob,I3.ok.blt,zav _,λy z c h1 h2=>?_,λy hy=>?_,λy c hf h=>?_,I3.ok.hd,I3.ok.frames,.inl rfl,λb hb=>?_,I3.bs,zau I3.ok.bsz I3.sz,
   λb o e hb=>?_,λb hb z=>?_,I3.stack,I3.stkFree,λP q h=>I3.base.tbls _ _ (I3.ok.reg P q h)⟩,
  rfl,I3.bare,Un.kept old,⟨_,hns,λi x v h1 h2 h3=>?_⟩,λy c h=>?_,I3.fresh,λy c h=>?_,λp hp=>absurd (show p∈([]:List (Addr×Obj))from hp) (by simp),I3.hok.kept old,?_,λi u e=>nomatch e⟩
 .rcases look h1 with⟨a1,_,a3⟩|⟨_,a2,a3⟩<;>rcases look h2 with⟨b1,_,b3⟩|⟨_,b2,b3⟩
  .exact name_of_addr cok.apart (zaT a1) (zaT b1)
  .exact absurd (zag (zag b3 (Nat.le_succ _)) a3) (zaH _)
  .exact absurd (zag (zag a3 (Nat.le_succ _)) b3) (zaH _)
  .exact I3.ok.inj y z c a2 b2
 .have hf:scope.names.lookup y=some .cell\/scope.names.lookup y=some .free:=by
   rcases hy with hy|hy
   .rcases kc (env:=X.env) hy with q|q
    .exact .inl q
    .exact .inr q.1
   .rcases kc (env:=X.env) hy with q|q
    .exact .inr q
    .exact .inr q.1
  show ∃c,(CS++dO X.env scope.names).lookup y=some c;rcases hf with hf|hf
  .obtain⟨c,hc⟩:=hhas hf;exact⟨c,lx hc⟩
  .obtain⟨c,hc⟩:=uD (env:=X.env) (zaT hf);cases e:CS.lookup y with
   |none=>exact⟨c,kj e hc⟩
   |some d=>exact⟨d,lx e⟩
 .rcases look h with⟨_,_,a3⟩|⟨a1,_,_⟩
  .show s3.heap.objs.size<=c
   lia
  .have hf':(scope.names.lookup y==some NameKind.cell)=true:=hf;obtain⟨d,hd⟩:=hhas (by simpa using hf');rw[a1]at hd;cases hd
 .refine⟨zaw (lt3 b hb),λx c e=>?_⟩;rcases look e with⟨_,_,a3⟩|⟨_,a2,_⟩
  .have:=lt3 b hb;intro z;subst z;exact zaH _ (zag (zag this (Nat.le_succ _)) a3)
  .exact(f3 b hb).2.2.2.2.1 x c a2
 .rcases(f3 b hb).2.2.2.1 with z|z
  .exact I3.ok.noex b o e z
  .exact absurd (zag (zag (zal e) I3.ok.bsz) z) (zaH _)
 .rcases zay.mp (I3.stkSub b z)with q|q
  .exact(f3 b hb).2.1 q
  .exact(f3 b hb).2.2.1 q
 .have h2':(js.map λj=>match j with|some j=>(σ[j]?).join|none=>none)[i]?=some (some v):=h2;rw[zao]at h2';obtain⟨j,hj,hσ⟩:∃j,js[i]?=some (some j)/\σ[j]?=some (some v):=by
   cases e:js[i]? with
   |none=>rw[e]at h2';simp at h2'
   |some oj=>
    rw[e]at h2';cases oj with
    |none=>simp at h2'
    |some j=>
     refine⟨j,rfl,?_⟩;have q:(σ[j]?).join=some v:=by simpa using h2'
     cases e2:σ[j]? with
     |none=>rw[e2]at q;simp at q
     |some ov=>
      rw[e2]at q;simp at q;rw[q]
  obtain⟨hN,hfr⟩:=B.out i x j h1 hj;have hf:=B.free (x,.free) (zaT hfr) rfl;have hf':X.env.kindOf x=some .cell\/X.env.kindOf x=some .free:=hf;obtain⟨m,hn,hl⟩:=I3.loc;obtain⟨u,r,l⟩:=hl j x v hN hσ (by
   rcases hf' with z|z
   .exact .inr (.inl z)
   .exact .inr (.inr z))
  refine⟨u,r,?_⟩;rcases l with⟨hk,_⟩|⟨hk,c,hc,hcell⟩
  .rcases hf' with z|z
   .rw[z]at hk;cases hk
   .rw[z]at hk;cases hk
  .obtain⟨c',hc'⟩:=uD (env:=X.env) (zaT hfr);have e':=rq has hc';rw[hc]at e';cases e';obtain⟨o,ho,hd⟩:=hcell;have hno:CS.lookup x=none:=by
    cases e:CS.lookup x with
    |none=>rfl
    |some d=>
     have q:=hmem (zaT e);rw[hfr]at q;cases q
   exact .inr ⟨oH (env:=X.env) hfr,c,kj hno hc',⟨o,old c o ho,hd⟩⟩
 .rcases look h with⟨_,a2,_⟩|⟨_,a2,_⟩
  .exact⟨_,a2⟩
  .obtain⟨v,o,ho,hd⟩:=I3.cell y c a2;exact⟨v,o,old c o ho,hd⟩
 .rcases look h with⟨_,_,a3⟩|⟨_,a2,_⟩
  .exact I3.hok.fresh (by lia)
  .exact I3.freeC y c a2
 .show(js.map _).length=ns.length;rw[zad];exact B.len
def FB(I2:Inv X ρ σ H2 s2){C:Addr}(le2:s2.heap.objs.size<=C):C≠X.env.locals/\X.s₀.heap.objs.size<=C/\(∀x c,X.env.cells.lookup x=some c->c≠C)/\∀p∈X.pn++ρ,p.1≠C:=by
 refine⟨Nat.ne_of_gt (zag I2.lt le2),zau I2.sz le2,λx c e z=>?_,λp hp z=>?_⟩
 .obtain⟨v,hv⟩:=I2.cell x c e;exact absurd (zag hv.lt (by rw[z];exact le2)) (zaH _)
 .exact absurd (zag (zal (I2.pin p hp).1) (by rw[z];exact le2)) (zaH _)
def A6{XX:Hp->Shared->Value->Shared->Prop}{J:It}   
  (B:BlkOkC X scope ns js) (hc:X.calm=true) (I2:Inv X ρ σ H2 s2) (T:Turn X.prog X.w X.K tg J fp it tn) (st2:tn 0 s2.heap) (f2:∀b∈fp,gP X ρ H2 b)
  (hg:∀C cl s₀ H₀ fp,PG (aC X scope ns C cl s₀ H₀ fp) tg g) (ht:∀C cl s₀ H₀ fp,PTs (aC X scope ns C cl s₀ H₀ fp) ifs tt) (he:∀C cl s₀ H₀ fp ρ s τ H Q E1,Inv (aC X scope ns C cl s₀ H₀ fp) ρ τ H s->te τ H Q->(∀{ρ σ H1 s1 ev s'},Inv (aC X scope ns C cl s₀ H₀ fp) ρ σ H1 s1->XX H1 s1 ev s'->E1 ev s')->wpAny (model X.prog X.w) X.A (eval elt (aC X scope ns C cl s₀ H₀ fp).env) (EP (aC X scope ns C cl s₀ H₀ fp) ρ τ Q) E1 s)
  (hw:∀D,H2 D=none->su J g tt te (eQ js σ) H2 D Qv)
  (hRR:∀D C s' H',Inv X ρ σ H' s'->(∃m,s'.heap.Ns C m)->H' C=none->s2.heap.objs.size<=C->(Qv (.ref D) H'->RR (.ref D) C (.ok .next) s')/\∀cl ev s4,XX H' s' ev s4->notedBy (model X.prog X.w) X.A (compEnvC scope cl C X.env) (λe s'=>RR (.ref D) C (.error e) s') ev s4):
  wpAny (model X.prog X.w) X.A (newList []) (λacc s₃=>wpAny (model X.prog X.w) X.A (newFunctionEnv scope X.env.globals (dO X.env scope.names) [] X.env.qual none .none (some X.env)) (λcenv s₄=>
   cenv.frame=X.env.frame/\codeAny (model X.prog X.w) X.A (.compStart (.ListComp elt [⟨tg,iter,ifs,0⟩] scope pos) 0 (.ref it) acc { cenv with scope:=relabel scope X.env }) (RR acc cenv.locals) s₄) X.xe s₃) X.xe s2:=by
 refine wpAny_newObj_type (jb ⟨rfl,?_⟩)
 dsimp only
 have I3:Inv X ρ σ (upd H2 s2.heap.objs.size (.lst [])) { s2 with heap:=s2.heap.push { cls:=.type "list",data:=.seq ([]:List Value).toArray },toks:=s2.toks }:=I2.lnew .nil (zbj _);generalize hs3:({ s2 with heap:=s2.heap.push { cls:=.type "list",data:=.seq ([]:List Value).toArray },toks:=s2.toks }:Shared)=s3 at I3;have e3:s3.heap=s2.heap.push { cls:=.type "list",data:=.seq ([]:List Value).toArray }:=by rw[<-hs3]
 have k3:∀b u,s2.heap.get? b=some u->s3.heap.get? b=some u:=λb u e=>by rw[e3];exact zaf _ e
 have sz3:s3.heap.objs.size=s2.heap.objs.size+1:=by rw[e3,zbu]
 have hD:H2 s2.heap.objs.size=none:=I2.fresh;obtain⟨h₁,hh₁⟩:∃h₁,h₁=pushCells (s3.heap.push { cls:=.type "dict",data:=.dict #[] }) scope.names:=⟨_,rfl⟩;have old:∀b u,s3.heap.get? b=some u->h₁.get? b=some u:=λb u e=>by
  rw[hh₁];exact pushCells_keeps _ _ b u (zaf _ e)
 have hns:h₁.Ns s3.heap.objs.size (λ_=>none):=by
  rw[hh₁];exact(Heap.Ns.new s3.heap (.type "dict")).keeps (pushCells_keeps _ _)
 have cok:CellsOk h₁ (s3.heap.objs.size+1) (cellsFrom (s3.heap.objs.size+1) scope.names []):=by
  have q:=cellsFrom_ok scope.names (s3.heap.push { cls:=.type "dict",data:=.dict #[] }) (s3.heap.objs.size+1) [] ⟨λ_ _ hm=>(nomatch hm),List.Pairwise.nil⟩ (by rw[zbu];exact zav _);rw[zbu,<-hh₁]at q;exact q
 have obj2:∀b∈fp,b<s2.heap.objs.size:=λb hb=>let⟨o,e,_⟩:=T.obj 0 _ st2 b hb;zal e;have f3:∀b∈fp,gP X ρ (upd H2 s2.heap.objs.size (.lst [])) b:=λb hb=>⟨by rw[az (zaw (obj2 b hb))];exact(f2 b hb).1,(f2 b hb).2⟩;have lt3:∀b∈fp,b<s3.heap.objs.size:=λb hb=>by rw[sz3];exact Nat.lt_succ_of_lt (obj2 b hb)
 obtain⟨W,⟨m0,w0⟩,turn⟩:=hw _ hD;have J0:=λtk=>B5 (tk:=tk) B I3 f3 lt3 hns old cok;have has:∀y∈scope.names,y.2=.free->∃c,X.env.cells.lookup y.1=some c:=λy hy hk=>I2.ok.has y.1 (B.free y hy hk);have stat:∀{H':Hp},(∀b∈fp,H' b=none)->∀b∈fp,gP (aC X scope ns s3.heap.objs.size (cellsFrom (s3.heap.objs.size+1) scope.names (dO X.env scope.names)) s3 (upd H2 s2.heap.objs.size (.lst [])) fp) [] H' b:=λhn b hb=>
  ⟨hn b hb,zaw (lt3 b hb),(J0 0).ok.exfs b hb,.inl hb,λx c e=>(J0 0).ok.exf b hb |>.2 x c e,λp hp=>absurd (show p∈([]:List (Addr×Obj))from hp) (by simp)⟩
 have fin:∀{pins':List (Addr×Obj)} {τ:St} {H':Hp} {s':Shared},Inv (aC X scope ns s3.heap.objs.size (cellsFrom (s3.heap.objs.size+1) scope.names (dO X.env scope.names)) s3 (upd H2 s2.heap.objs.size (.lst [])) fp) pins' τ H' s'->_:=λ{_ _ H' s'} I6=>by
  have u1:Un (frs X.stack) fp H2 (upd H2 s2.heap.objs.size (.lst [])) s2.heap s3.heap:=Un.laid k3 (zav _) hD;have os3:s3.os=s2.os:=by rw[<-hs3]
  have I7:Inv X ρ σ H' s':=I2.call' (ch:=fp) (I6.os.trans os3) (u1.trans I6.base) I6.hok I6.bare λb hb=>⟨(f2 b hb).2.2.2.1,(f2 b hb).2.1,(f2 b hb).2.2.2.2.1,(f2 b hb).2.2.2.2.2⟩;exact hRR s2.heap.objs.size s3.heap.objs.size s' H' I7 (I6.loc.imp λ_ z=>z.1) I6.free (by rw[sz3];exact Nat.le_succ _)
 rw[<-e3,<-hh₁];have loop:∀tk,codeAny (model X.prog X.w) X.A (.compLoop (.ListComp elt [⟨tg,iter,ifs,0⟩] scope pos) 0 (.ref it) (.ref s2.heap.objs.size) (compEnvC scope (cellsFrom (s3.heap.objs.size+1) scope.names (dO X.env scope.names)) s3.heap.objs.size X.env))
   (RR (.ref s2.heap.objs.size) s3.heap.objs.size) { s3 with heap:=h₁,toks:=tk }:=λtk=>by
  refine codeAny_loop rfl (λn s'=>∃i τ H',Inv (aC X scope ns s3.heap.objs.size (cellsFrom (s3.heap.objs.size+1) scope.names (dO X.env scope.names)) s3 (upd H2 s2.heap.objs.size (.lst [])) fp) [] τ H' s'/\tn i s'.heap/\(∀b∈fp,H' b=none)/\W i n τ H') (λn s5 hI=>?_) m0
   ⟨0,_,_,J0 tk,T.keep _ _ _ st2 λb _ o e=>old b o (k3 b o e),λb hb=>(f3 b hb).1,w0⟩
  obtain⟨i,τ,H5,I5,st5,fr5,w5⟩:=hI;show wpAny _ X.A ((compTurn (.ListComp elt [⟨tg,iter,ifs,0⟩] scope pos) 0 (.ref it) (.ref s2.heap.objs.size) (compEnvC scope (cellsFrom (s3.heap.objs.size+1) scope.names (dO X.env scope.names)) s3.heap.objs.size X.env)).onRaise (λx=>do noteFrame x (compEnvC scope (cellsFrom (s3.heap.objs.size+1) scope.names (dO X.env scope.names)) s3.heap.objs.size X.env);theTreesLotGoes x)) _ _ s5;refine wpAny_noted ?_;rw[compTurn_list];refine zam (wpAny_standAt (zam ?_));rcases turn i n τ H5 w5 with⟨stop,qn⟩|⟨go,N,hN,step⟩
  .refine thn (T.done (aC X scope ns s3.heap.objs.size (cellsFrom (s3.heap.objs.size+1) scope.names (dO X.env scope.names)) s3 (upd H2 s2.heap.objs.size (.lst [])) fp) rfl rfl rfl hc i [] s5 τ H5 _ I5 (stat fr5) st5 stop) ?_;rintro r s6 ⟨hr,I6⟩;subst hr;exact zaS ((fin I6).1 qn)
  .refine thn (T.item (aC X scope ns s3.heap.objs.size (cellsFrom (s3.heap.objs.size+1) scope.names (dO X.env scope.names)) s3 (upd H2 s2.heap.objs.size (.lst [])) fp) rfl rfl rfl hc i [] s5 τ H5 _ I5 (stat fr5) st5 go) ?_;rintro r s6 ⟨u,hr,h6⟩;subst hr
   dsimp only
   refine zam (thn h6 λ_ s7 ⟨x,H7,I7,r7,y7,st7,fr7⟩=>?_);have I7':=I7.pinned (stat fr7) (T.obj _ _ st7);have back:∀{τ9:St} {H9:Hp} {s9:Shared},Inv (aC X scope ns s3.heap.objs.size (cellsFrom (s3.heap.objs.size+1) scope.names (dO X.env scope.names)) s3 (upd H2 s2.heap.objs.size (.lst [])) fp) ([]++lp fp s7.heap) τ9 H9 s9 ->
     Inv (aC X scope ns s3.heap.objs.size (cellsFrom (s3.heap.objs.size+1) scope.names (dO X.env scope.names)) s3 (upd H2 s2.heap.objs.size (.lst [])) fp) [] τ9 H9 s9/\tn (i+1) s9.heap/\∀b∈fp,H9 b=none:=λ{τ9 H9 s9} I9=>by
    refine⟨I9.unpinned,T.keep _ _ _ st7 λb hb o e=>(I9.pin (b,o) (zbg _ (zbg _ (iA hb e)))).1,λb hb=>?_⟩;obtain⟨o,e,d⟩:=T.obj _ _ st7 b hb;exact(I9.pin (b,o) (zbg _ (zbg _ (iA hb e)))).2.1
   refine zam (thF (hg _ _ _ _ _ _ s7 τ H7 x u _ I7' r7 (step x H7 y7)) λ_ s8 ⟨τ8,H8,I8,q8⟩=>?_);refine zam (thF (ht _ _ _ _ _ _ s8 τ8 H8 _ I8 q8) λb s9 ⟨H9,I9,q9⟩=>?_);cases b with
   |false=>
    rw[if_neg zbn]at q9;obtain⟨m',hm,w9⟩:=hN _ _ q9;obtain⟨a1,a2,a3⟩:=back I9;exact zaS ⟨rfl,m',hm,i+1,τ8,H9,a1,a2,a3,w9⟩
   |true=>
    rw[if_pos rfl]at q9;refine zam (zam (thn (he _ _ _ _ _ _ s9 τ8 H9 _ _ I9 q9 λI hx=>(fin I).2 _ _ _ hx) λv s10 ⟨y,H10,I10,r10,q10⟩=>?_));obtain⟨xs,hx,hz,n10⟩:=q10;obtain⟨m',hm,w10⟩:=hN _ _ n10;refine zam (thF (qX _ s10 τ8 H10 (.ref s2.heap.objs.size) [y] (.ref s2.heap.objs.size) [v] (λ_ H11=>W (i+1) m' τ8 H11) I10 rfl (.cons r10 .nil) ⟨_,xs,y,rfl,rfl,hx,hz,w10⟩) λ_ s11 ⟨_,H11,I11,_,q11⟩=>?_);obtain⟨a1,a2,a3⟩:=back I11;exact zaS (zaS ⟨rfl,m',hm,i+1,τ8,H11,a1,a2,a3,q11⟩)
 have hst1:tn 0 h₁:=T.keep _ _ _ st2 λb _ o e=>old b o (k3 b o e);subst hs3;exact codeAny_compStart_list (loop _) (T.self _ 0 _ _ _ hst1 (loop _))
def tS{J:It}   
  (B:BlkOkC X scope ns js) (hc:X.calm=true) (I2:Inv X ρ σ H2 s2) (T:Turn X.prog X.w X.K tg J fp it tn) (st2:tn 0 s2.heap) (f2:∀b∈fp,gP X ρ H2 b)
  (hg:∀C cl s₀ H₀ fp,PG (aC X scope ns C cl s₀ H₀ fp) tg g) (ht:∀C cl s₀ H₀ fp,PTs (aC X scope ns C cl s₀ H₀ fp) ifs tt) (he:∀C cl s₀ H₀ fp,PE (aC X scope ns C cl s₀ H₀ fp) elt te)
  (hw:∀D,H2 D=none->su J g tt te (eQ js σ) H2 D Qv)
  (hRR:∀D C s' H',Inv X ρ σ H' s'->Qv (.ref D) H'->(∃m,s'.heap.Ns C m)->H' C=none->C≠X.env.locals->X.s₀.heap.objs.size<=C->(∀x c,X.env.cells.lookup x=some c->c≠C)->(∀p∈X.pn++ρ,p.1≠C)->RR (.ref D) C (.ok .next) s'):
  wpAny (model X.prog X.w) X.A (newList []) (λacc s₃=>wpAny (model X.prog X.w) X.A (newFunctionEnv scope X.env.globals (dO X.env scope.names) [] X.env.qual none .none (some X.env)) (λcenv s₄=>
   codeAny (model X.prog X.w) X.A (.compStart (.ListComp elt [⟨tg,iter,ifs,0⟩] scope pos) 0 (.ref it) acc { cenv with scope:=relabel scope X.env }) (RR acc cenv.locals) s₄) X.xe s₃) X.xe s2:=
 thn (A6 (XX:=λ_ _ _ _=>False) B hc I2 T st2 f2 hg ht (λC cl s₀ H₀ fp ρ s τ H Q E1 I h _=>thF (he C cl s₀ H₀ fp ρ s τ H Q I h) λ_ _ z=>z) hw λD C s' H' I' hm c0 le=>⟨λq=>(FB I2 le).elim λc1 z=>hRR D C s' H' I' q hm c0 c1 z.1 z.2.1 z.2.2,λ_ _ _ z=>z.elim⟩) λ_ _ h=>thn h λ_ _ z=>z.2
def yM(B:BlkOkC X scope ns js)(hc:X.calm=true)(hi:PI X tg iter wi)
  (hg:∀C cl s₀ H₀ fp,PG (aC X scope ns C cl s₀ H₀ fp) tg g) (ht:∀C cl s₀ H₀ fp,PTs (aC X scope ns C cl s₀ H₀ fp) ifs tt) (he:∀C cl s₀ H₀ fp,PE (aC X scope ns C cl s₀ H₀ fp) elt te)
  (hs:∀x,foldedSetIterable iter X.env x=pure x:=by intro _;rfl):PE X (.ListComp elt [⟨tg,iter,ifs,0⟩] scope pos) (tLC wi g tt te js):=by
 intro ρ s σ H Q I h;rw[eval_ListComp];have hclos:=pA (scope:=scope) (env:=X.env) (λy hy hk=>I.ok.has y.1 (B.free y hy hk));refine wpAny_comprehension_free (use:=none) rfl hs hclos B.kind B.names (thn (hi ρ s σ H _ I h) λv s1 h1=>thn h1 λitv s2 h2=>?_);obtain⟨it,fp,tn,J,H2,e,I2,T,st2,f2,hw⟩:=h2;subst e;refine tS (RR:=λacc C=>compPost (model X.prog X.w) X.A X.xe none (EP X ρ σ Q) acc C) B hc I2 T st2 f2 hg ht he hw ?_;intro D C s' H' I' q hm c0 c1 c2 c3 c4;obtain⟨m,hn⟩:=hm;exact⟨m,hn,λh' hs'=>⟨.ref D,H',I'.turned (t':=s'.toks) (λb o hb e=>(hs'.2 b hb).trans e) c0 c1 (.inr c2) c3 c4,rfl,q⟩⟩
def yF(hN:X.N.Nodup)(hi':X.N[i]?=some x)(hx:X.env.scope.names.lookup x=some .local)(B:BlkOkC X scope ns js)(hc:X.calm=true)(hi:PI X tg iter wi)
  (hg:∀C cl s₀ H₀ fp,PG (aC X scope ns C cl s₀ H₀ fp) tg g) (ht:∀C cl s₀ H₀ fp,PTs (aC X scope ns C cl s₀ H₀ fp) ifs tt) (he:∀C cl s₀ H₀ fp,PE (aC X scope ns C cl s₀ H₀ fp) elt te)
  (hsw:swapsWith (.ListComp elt [⟨tg,iter,ifs,0⟩] scope pos) (some (.Name x pos')) ζ.line X.env=pure true:=by rfl)
  (hs:∀x,foldedSetIterable iter X.env x=pure x:=by intro _;rfl):PS X (.Assign [.Name x pos'] (.ListComp elt [⟨tg,iter,ifs,0⟩] scope pos) ζ) (sJ (tLC wi g tt te js) (oZ i)):=by
 intro ρ s σ H D I h;rw[exec_Assign_Name_used _ _ _ _ hsw];have hclos:=pA (scope:=scope) (env:=X.env) (λy hy hk=>I.ok.has y.1 (B.free y hy hk));refine zam (wpAny_standAt (zam ?_));show wpAny _ X.A (do let _ <-comprehension (.ListComp elt [⟨tg,iter,ifs,0⟩] scope pos) scope X.env _ (newList []) false (eval iter X.env) (some (assign (.Name x pos') X.env))) _ _ s;refine zam (wpAny_mono (wpAny_comprehension_free (use:=some (assign (.Name x pos') X.env)) (Q:=λ_ s'=>SP X ρ D .next s') rfl hs hclos B.kind B.names
  (thn (hi ρ s σ H _ I h) λv s1 h1=>thn h1 λitv s2 h2=>?_)) (λ_ s' hq=>zaS (zaS hq)) λ_ _ e=>e)
 obtain⟨it,fp,tn,J,H2,e,I2,T,st2,f2,hw⟩:=h2;subst e;refine tS (RR:=λacc C=>compPost (model X.prog X.w) X.A X.xe (some (assign (.Name x pos') X.env)) (λ_ s'=>SP X ρ D .next s') acc C) B hc I2 T st2 f2 hg ht he hw ?_;intro D' C s' H' I' q hm c0 c1 c2 c3 c4;obtain⟨m,hn⟩:=hm;show wpAny _ X.A (assign (.Name x pos') X.env (.ref D')) _ _ _;refine wpAny_assign_Name (qS (v:=.ref D') I' hN hi' (.inl hx) rfl (λs4 I4 ⟨a,hsb,ha⟩=>?_) (.inr hx));have ne:C≠a:=by
  rcases ha with z|z
  .rw[z];exact c1
  .exact(c3 x a z).symm
 exact⟨m,hn.sameBut hsb ne,λh' hs'=>⟨_,H',I4.turned (t':=s4.toks) (λb o hb e=>(hs'.2 b hb).trans e) c0 c1 (.inr c2) c3 c4,q⟩⟩
end
theorem mR(ns:List Int):∀k,k<=ns.length->preSum (λi=>ns.getD i 0) k=(ns.take k).sum
 |0,_=>rfl
 |k+1,h=>by
  show preSum (λi=>ns.getD i 0) k+ns.getD k 0=_;rw[mR ns k (by lia),PyProof.Rows.take_sum_succ ns k (by lia)]
mutual
def DV(H:Hp):V->PyData->Prop
 |v,.none=>v=.non
 |v,.bool b=>v=.bl b
 |v,.int i=>v=.int i
 |v,.str x=>v=.str x
 |v,.list ds=>∃a xs,v=.ref a/\H a=some (.lst xs)/\DVs H xs ds
 |v,.tuple ds=>∃a xs,v=.ref a/\H a=some (.tup xs)/\DVs H xs ds
 |_,.dict _=>False
def DVs(H:Hp):List V->List PyData->Prop
 |vs,[]=>vs=[]
 |vs,d::ds=>∃v r,vs=v::r/\DV H v d/\DVs H r ds
end
section
variable{s:Shared}
def wG{vals:Array Value}{y:Value}{R:Value->Shared->Prop}(a1:s.heap.IsTupleIter jt tu n)(a2:s.heap.IsTuple tu vals)(a3:vals[n]?=some y)
  (q:∀g,g.IsTupleIter jt tu (n+1)->Heap.SameBut jt s.heap g->R y { s with heap:=g }):wpAny (model prog w) A (Builtin.SmallTypes.nextOf (.ref jt)) R E s:=by
 obtain⟨ob,b1,b2,b3⟩:=id a1;obtain⟨ot,c1,_,m,c2⟩:=a2;unfold Builtin.SmallTypes.nextOf;refine zam (zbz (name:=Str.ofString "__next__") a1.typeIs F.slot_tuple_iterator_next (wpAny_call_entry F.slot_tuple_iterator_next a1.typeIs F.entry_tuple_iterator_next ?_ (F.args_tuple_iterator_next_1 _)));show wpAny _ _ (field (.ref jt) 0 >>= _) _ _ s;refine zam (wpAny_field b1 b3 (x:=.ref tu) rfl ?_);show wpAny _ _ (if(Value.ref tu==Value.none)=true then _ else _) _ _ s;rw[if_neg (show ¬((Value.ref tu==Value.none)=true)from zbn)];show wpAny _ _ (field (.ref jt) 1 >>= _) _ _ s;refine zam (wpAny_field b1 b3 (x:=.int n 0) rfl ?_);show wpAny _ _ (seqItems? (.ref tu) >>= _) _ _ s;refine zam (wpAny_seqItems c1 c2 ?_);simp only[zaK,a3];refine zam (wpAny_setField b1 b3 (by simp) (zaS ⟨y,rfl,zaS (q _ ?_ (Heap.SameBut.update ..))⟩));refine⟨_,Heap.get?_update_self _ b1 (Obj.isFreed_of_fields (Obj.data_mapFields b3 _)),(Obj.cls_mapFields ..).trans b2,?_⟩;rw[Obj.data_mapFields b3];simp[rawInt]
def qQ{vals:Array Value}{R:Value->Shared->Prop}(hh:A.handled=none)(a1:s.heap.IsTupleIter jt tu n)(a2:s.heap.IsTuple tu vals)(a3:vals[n]?=none)
  (q:∀g e,Heap.ExtBut jt s.heap g->(∃o,g.get? e=some o/\o.cls=.type "StopIteration")->E (.ref e) { s with heap:=g }):wpAny (model prog w) A (Builtin.SmallTypes.nextOf (.ref jt)) R E s:=by
 obtain⟨ob,b1,b2,b3⟩:=id a1;obtain⟨ot,c1,_,m,c2⟩:=a2;unfold Builtin.SmallTypes.nextOf;refine zam (zbz (name:=Str.ofString "__next__") a1.typeIs F.slot_tuple_iterator_next (wpAny_call_entry F.slot_tuple_iterator_next a1.typeIs F.entry_tuple_iterator_next ?_ (F.args_tuple_iterator_next_1 _)));show wpAny _ _ (field (.ref jt) 0 >>= _) _ _ s;refine zam (wpAny_field b1 b3 (x:=.ref tu) rfl ?_);show wpAny _ _ (if(Value.ref tu==Value.none)=true then _ else _) _ _ s;rw[if_neg (show ¬((Value.ref tu==Value.none)=true)from zbn)];show wpAny _ _ (field (.ref jt) 1 >>= _) _ _ s;refine zam (wpAny_field b1 b3 (x:=.int n 0) rfl ?_);show wpAny _ _ (seqItems? (.ref tu) >>= _) _ _ s;refine zam (wpAny_seqItems c1 c2 ?_);simp only[zaK,a3];refine zam (wpAny_rule (zam (wpAny_setField b1 b3 (by simp) ?_)));show wpAny _ _ (newExc (.type "StopIteration") [] >>= _) _ _ _;refine zam ?_;simp only[newExc,newTuple];refine zam (wpAny_newObj_type ?_ (by show(0:Nat)<=_;exact zbj _));refine zam (m:=firstArgMember _ _) (wpAny_of_eq (a:=Value.none) (by first|rfl | (simp only[firstArgMember];rfl)) ?_);refine wpAny_newObj_type ?_;simp only[raiseNew];refine zam (wpAny_handled ?_)
 first|rw[show A.in1.handled=none from hh]|rw[hh]
 refine zam (zaS (wpAny_throw ?_));exact q _ _ (((Heap.SameBut.update ..).extBut.push _).push _) ⟨_,zan _ rfl,rfl⟩
def hU(hh:A.handled=none)(jt tu:Addr)(hne:tu≠jt)(vals:Array Value):Draws prog w A jt [jt,tu] vals.size (λi v=>vals[i]?=some v) (λi h=>h.IsTupleIter jt tu i/\h.IsTuple tu vals) where
 live:=λ_ _ st=>let⟨o,ho,_⟩:=st.1;⟨o,ho⟩
 frame:=λ_ _ _ st hk=>⟨st.1.at λo e=>hk jt (by simp) o e,let⟨o,ho,r⟩:=st.2;⟨o,hk tu (by simp) o ho,r⟩⟩
 item:=λi s Q E hi st hQ=>by
  refine wG st.1 st.2 (y:=vals[i]) (by simp[hi]) λg st' sb=>?_;exact hQ _ g s.toks (by simp[hi]) ⟨st',let⟨o,ho,r⟩:=st.2;⟨o,sb.extBut _ _ hne ho,r⟩⟩ sb
 done:=λs Q E st hE=>qQ hh st.1 st.2 (by simp) hE
end
def qr(tu:Addr)(vals:Array Value)(n:Nat)(dct:Option Addr)(sl:Array (Option Value)):
  Meets (Builtin.«enumerate.__new__» ⟨[.type "enumerate",.ref tu],[]⟩) (λ_ R s=>s.heap.get? tu=some { cls:=.type "tuple",dict:=dct,data:=.seq vals n,slots:=sl } /\
   R (.ok (.ret (.ref (s.heap.push { cls:=.type "tuple_iterator",data:=.fields #[.ref tu,.int 0 0] }).objs.size)))
    { s with heap:=(s.heap.push { cls:=.type "tuple_iterator",data:=.fields #[.ref tu,.int 0 0] }).push { cls:=.type "enumerate",data:=.fields #[.none,.bool false,.ref s.heap.objs.size,rawInt 0,.none,.none] } }):=
 .of_wp λprog w A R s h=>by
  obtain⟨hp,g,d,tk,os⟩:=s;obtain⟨ht,h⟩:=h;have hsub:=sub_enumerate;have hT:Heap.IsTuple (Shared.heap ⟨hp,g,d,tk,os⟩) tu vals:=⟨_,ht,rfl,n,rfl⟩
  wp_walk using AutoSeq1.wpAny_loadPart' ht
  refine wpAny_stack_any λst=>zaS ?_;split
  .rename_i c _ _ _ _ _;cases(c==Value.type "enumerate")
   .wp_walk using AutoSeq1.wpAny_loadPart' ht,wpAny_pyIter_tuple hT
    exact⟨_,rfl,h⟩
   .wp_walk using AutoSeq1.wpAny_loadPart' ht,wpAny_pyIter_tuple hT
    exact⟨_,rfl,h⟩
  .wp_walk using AutoSeq1.wpAny_loadPart' ht,wpAny_pyIter_tuple hT
   exact⟨_,rfl,h⟩
section
variable{s:Shared}
def r8{vals:Array Value}{Q:Value->Shared->Prop}(hT:s.heap.IsTuple tu vals)
  (h:∀g,IsEnum g (s.heap.objs.size+1) s.heap.objs.size 0 .none->g.IsTupleIter s.heap.objs.size tu 0->g.objs.size=s.heap.objs.size+2 ->
   (∀b o,s.heap.get? b=some o->g.get? b=some o)->Q (.ref (s.heap.objs.size+1)) { s with heap:=g }):
  wpAny (model prog w) A (call (.type "enumerate") [.ref tu]) Q E s:=by
 obtain⟨⟨c,dct,dt,sl⟩,hl,hc,n,hd⟩:=hT;have hc':c=.type "tuple":=hc;have hd':dt=.seq vals n:=hd;subst hc' hd';refine callType_new F.called_enumerate (by decide) (F.typeCall_enumerate_1 _) (F.newCall_enumerate_1 _) (λob=>F.args_object_init_2 ob _) F.entry_enumerate_new (qr tu vals n dct sl) ⟨hl,?_⟩;have sz1:(s.heap.push { cls:=.type "tuple_iterator",data:=.fields #[.ref tu,.int 0 0] }).objs.size=s.heap.objs.size+1:=zbu ..;show _/\_;rw[sz1];have g2:=zan (s.heap.push { cls:=.type "tuple_iterator",data:=.fields #[.ref tu,.int 0 0] }) (o:={ cls:=.type "enumerate",data:=.fields #[.none,.bool false,.ref s.heap.objs.size,rawInt 0,.none,.none] }) rfl;rw[sz1]at g2;refine⟨⟨_,g2,rfl⟩,h _ g2 ⟨_,zaf _ (zan _ rfl),rfl,rfl⟩ (by rw[zbu,sz1]) λb o x=>zaf _ (zaf _ x)⟩
def Ac{e:Addr}{i:Int}{vals:Array Value}{old:Value}{Q:Option Value->Shared->Prop}(hh:A.handled=none)(he:IsEnum s.heap e it i old)(a1:s.heap.IsTupleIter it tu n)(a2:s.heap.IsTuple tu vals)(a3:vals[n]?=none)
  (q:∀g,Heap.ExtBut it s.heap g->Q none { s with heap:=g }):wpAny (model prog w) A (pyNext (.ref e)) Q E s:=by
 have ty:s.TypeIs (.ref e) "enumerate":=⟨_,he,rfl⟩;unfold pyNext;refine zam (wpAny_attempt (zbz (name:=Str.ofString "__next__") ty F.slot_enumerate_next (wpAny_call_entry F.slot_enumerate_next ty F.entry_enumerate_next ?_ (F.args_enumerate_next_1 _))));show wpAny _ _ (field (.ref e) 2 >>= _) _ _ _;refine zam (wpAny_field he rfl (x:=.ref it) rfl ?_);refine zam (qQ hh a1 a2 a3 λg x k hx=>?_);obtain⟨o,ho,hc⟩:=hx;exact zam (wpAny_isInstance (T:="StopIteration") (b:=true) ⟨o,ho,hc⟩ isSubtype_stop (zaS (q _ k)))
end
def ItT(K:zbU)(a:Addr):It:=
 ⟨λi H=>∃xs x,SqT K H a xs/\xs[i]?=some x,
  λi H y H'=>∃p x,y=.ref p/\H p=none/\H'=upd H p (.tup [.int i,x])/\∀xs,SqT K H a xs->xs[i]?=some x,
  λi H=>∃xs,SqT K H a xs/\xs.length<=i⟩
def wF(a e it:Addr)(hei:e≠it)(hai:a≠it):
  Turn P w K (.Tuple elts k tp) (ItT K a) [e,it] e (λi h=>(∃old,IsEnum h e it i old)/\h.IsTupleIter it a i) where
 mem:=by simp
 obj:=λi h st b hb=>by
  obtain⟨⟨old,he⟩,o,ho,hc,hd⟩:=st;have hb':b=e\/b=it:=by simpa using hb
  rcases hb' with rfl|rfl
  .exact⟨_,he,λv z=>by
    have z':Data.fields _=Data.cell v:=z;cases z'⟩
  .exact⟨o,ho,λv z=>by rw[hd]at z;cases z⟩
 keep:=λi h h' st kp=>⟨let⟨old,he⟩:=st.1;⟨old,kp e (by simp) _ he⟩,st.2.at λo q=>kp it (by simp) o q⟩
 item:=by
  intro X hP hw hK hc i ρ s σ H E I hf st hg;subst hP hw hK;obtain⟨xs,x,hq,hx⟩:=hg;obtain⟨its,rv,pt,hz⟩:=I.tuple hq;obtain⟨u,hu,ru⟩:=rv.get hx;obtain⟨⟨old,he⟩,hit⟩:=st;have hT:s.heap.IsTuple a its.toArray:=pt;have hea:e≠a:=λz=>by
   subst z;obtain⟨o,e1,e2,_⟩:=id hT;have he':s.heap.get? e=some _:=he;rw[e1]at he';cases he';simp at e2
  have hu':its.toArray[i]?=some u:=by simpa using hu
  have hlt:i<its.toArray.size:=(Array.getElem?_eq_some_iff.mp hu').1;refine wpAny_pyNext_enum_itemD (hU (A:=X.A.in1) (show X.A.in1.handled=none from I.ok.hd hc) it a hai its.toArray) he ⟨hit,hT⟩ hlt hei (by simp[hei,hea]) λy h1 tk hy ho1 st1 ht1 hz1 hk1=>?_;rw[hu']at hy;cases hy;refine⟨_,rfl,wpAny_letOwnedTupleGo_enum ho1 λh2 he2 hs2=>?_⟩;have eL:e<s.heap.objs.size:=zal he;have ht2:h2.get? s.heap.objs.size=some { cls:=.type "tuple",data:=.seq #[.int i tk,u] }:=(hs2.2 _ (Nat.ne_of_gt eL)).trans ht1;have hit2:h2.IsTupleIter it a (i+1):=st1.1.at λo q=>hs2.extBut _ _ hei.symm q;have I2:Inv X ρ σ (upd H s.heap.objs.size (.tup [.int i,x])) { s with heap:=h2,toks:=tk+1 }:=by
   refine I.turnedLaid (fp:=[e,it]) hf (zav _) (λb ob hb q=>?_) (λb hb=>?_) ?_
   .have h1:b≠e:=λz=>hb (by simp[z]);have h2':b≠it:=λz=>hb (by simp[z]);exact(hs2.2 b h1).trans (hk1 b ob h1 h2' q)
   .have hb':b=e\/b=it:=by simpa using hb
    rcases hb' with rfl|rfl
    .exact⟨_,he2⟩
    .obtain⟨o,ho,_⟩:=hit2;exact⟨o,ho⟩
   .refine⟨(by show 2<=sizeLine;decide),[.int i tk,u],.cons ⟨_,rfl⟩ (.cons ru .nil),?_⟩;exact⟨_,ht2,rfl,_,rfl,rfl⟩
  have fr:∀b∈[e,it],upd H s.heap.objs.size (.tup [.int i,x]) b=none:=λb hb=>by
   have hlt:b<s.heap.objs.size:=by
    have hb':b=e\/b=it:=by simpa using hb
    rcases hb' with rfl|rfl
    .exact eL
    .obtain⟨o,ho,_⟩:=hit;exact zal ho
   rw[az (zaw hlt)];exact(hf b hb).1
  exact⟨.ref s.heap.objs.size,_,I2,rfl,⟨_,x,rfl,I.fresh,rfl,λys hy=>by rw[I.tuple_inj hy hq];exact hx⟩,⟨⟨_,he2⟩,hit2⟩,fr⟩
 done:=by
  intro X hP hw hK hc i ρ s σ H E I hf st hg;subst hP hw hK;obtain⟨xs,hq,hx⟩:=hg;obtain⟨its,rv,pt,hz⟩:=I.tuple hq;obtain⟨⟨old,he⟩,hit⟩:=st;obtain⟨f0,f1,f2,f3,f4,f5⟩:=hf it (by simp);have hl:=rv.length;have hT:s.heap.IsTuple a its.toArray:=pt;exact Ac (I.ok.hd hc) he hit hT (by simp;lia) λh' eb=>⟨rfl,I.turned (t':=s.toks) (λb o hb q=>eb b o hb q) f0 f1 f3 f4 f5⟩
 self:=λ_ _ _ _ _ st h=>let⟨⟨_,he⟩,_⟩:=st;wpAny_pyIter_enum he h
section
open PySem.SeqAt
end
def Rp(H:Hp)(v:V)(txt:Str):Prop:=(∃d,DV H v d/\d.showable=true/\d.depth<=60/\d.shown.length<=sizeLine/\txt=d.shown)\/∃a,v=.ref a/\Rd H a (.dK [])/\txt=("{}":Str)
abbrev D:=PyData
variable{t t1 t2:D}{ks:List (D×D)}{m ts us:List D}{g:D->D->Option D}
abbrev En:=List (Option D)
variable{en en' en1 en2:En}
abbrev AS:=Addr->Prop
variable{R R' R1:Nat->AS}{O O' F' G F2 Ox Ox' F1 F0 O1:AS}
noncomputable def dn:Nat->Nat
 |0=>0
 |1=>0
 |2=>1
 |n+3=>n+3
def Gr:∀{a b:Nat},a<=b->dn a<=dn b
 |0,_,_=>zbj _
 |1,_,_=>zbj _
 |2,2,_=>zav _
 |2,b+3,_=>by show 1<=b+3;lia
 |a+3,b+3,h=>h
 |a+3,0,h=>by lia
 |a+3,1,h=>by lia
 |a+3,2,h=>by lia
 |2,0,h=>by lia
 |2,1,h=>by lia
noncomputable def kD:Key->D
 |.inl i=>.int i
 |.inr x=>.str x
def FzL(K:zbU)(O:AS)(H:Hp)(a:Addr)(vs:List V):Prop:=(Rd H a (.lst vs)/\¬O a)\/∀H',SqL K H' a vs
def FzT(K:zbU)(O:AS)(H:Hp)(a:Addr)(vs:List V):Prop:=H a=some (.tup vs)/\¬O a
def FzL.sq(h:FzL K O H a vs):SqL K H a vs:=h.elim (λh=>.inl h.1) λh=>h H
def FzT.sq(h:FzT K O H a vs):SqT K H a vs:=SqT.of h.1
def KB(a C:Addr):Heap->Prop:=λh=>∃o,h.get? a=some o/\o.cls=.ref C/\∀c,o.data≠.cls c
def oD:Option Key->D
 |none=>.none
 |some k=>kD k
noncomputable def bO:D->Bool
 |.none=>true
 |.bool _=>true
 |.int _=>true
 |.str _=>true
 |_=>false
noncomputable def dV:D->V
 |.bool b=>.bl b
 |.int i=>.int i
 |.str x=>.str x
 |_=>.non
abbrev TKs:=List (List (Option Key)×D)
def tkD(q:List (Option Key)×D):D×D:=(.tuple (q.1.map oD),q.2)
def tkL(kvs:TKs):List (D×D):=(.none,.none)::kvs.map tkD
def tkV(q:List (Option Key)×D):List (Option Key)×V:=(q.1,dV q.2)
def PrD(O:AS)(H:Hp)(rd:HO->Prop)(ks:List (D×D)):Prop:=∃(kvs:TKs) (ad:Addr->Prop),(kvs.all λq=>bO q.2)=true/\ks=tkL kvs/\rd (.dT (kvs.map tkV) ad)/\∀b,ad b->¬O b/\∃vs,H b=some (.tup vs)
def Mc(H:Hp)(a:Addr):Prop:=∃(o:Obj) (fd:FuncData),H a=some (.frz o (.own a))/\o.data=.func fd
noncomputable def fnK(a:Addr):List (D×D):=[(.none,.int (a:Int))]
def TupD(K:zbU)(H:Hp)(O:AS)(ks:List (D×D))(a:Addr):Prop:=(PrD O H (Rd H a) ks/\¬O a) \/
 (∃(x:Str) (C:Addr),ks=[(.none,.str x)]/\PySem.W.nsIn K mainGlobals x=some (some (.ref C))/\H a=some (.ext (KB a C))/\¬O a)\/(ks=fnK a/\Mc H a/\¬O a)
def PrD.to{rd':HO->Prop}(h:PrD O H rd ks)(k0:∀kvs ad,rd (.dT kvs ad)->rd' (.dT kvs ad))(k:∀b o,H b=some o->¬O b->H' b=some o/\¬O' b):PrD O' H' rd' ks:=by
 obtain⟨kvs,ad,h2,h3,h4,h5⟩:=h;refine⟨kvs,ad,h2,h3,k0 _ _ h4,λb z=>?_⟩;obtain⟨g1,vs,g2⟩:=h5 b z;exact⟨(k b _ g2 g1).2,vs,(k b _ g2 g1).1⟩
def TupD.to{K:zbU}{H H':Hp}{O O':AS}{ks:List (D×D)}{a:Addr}(h:TupD K H O ks a)(k:∀b o,H b=some o->¬O b->H' b=some o/\¬O' b):TupD K H' O' ks a:=by
 rcases h with⟨h2,h3⟩|⟨x,C,h1,h0,h2,h3⟩|⟨h1,⟨o,fd,h2,h0⟩,h3⟩
 .refine .inl ⟨h2.to (λkvs ad r=>?_) k,?_⟩
  .rcases r with r|⟨o,r⟩
   .exact .inl (k a _ r h3).1
   .exact .inr ⟨o,(k a _ r h3).1⟩
  .obtain⟨_,_,_,_,r,_⟩:=h2;rcases r with r|⟨o,r⟩<;>exact(k a _ r h3).2
 .obtain⟨g1,g2⟩:=k a _ h2 h3;exact .inr (.inl ⟨x,C,h1,h0,g1,g2⟩)
 .obtain⟨g1,g2⟩:=k a _ h2 h3;exact .inr (.inr ⟨h1,⟨o,fd,g1,h0⟩,g2⟩)
def Le4(a b:Nat):Prop:=a<=b/\(b=4->a=0\/a=4)/\(b=5->a=0\/a=5)
instance (a b:Nat):Decidable (Le4 a b):=inferInstanceAs (Decidable (_/\_))
def Le4.refl(a:Nat):Le4 a a:=⟨zav _,.inr,.inr⟩
def Le4.zero(a:Nat):Le4 0 a:=⟨zbj _,λ_=>.inl rfl,λ_=>.inl rfl⟩
def Ae{b:Nat}(e:L2.dn b=n+3):b=n+3:=by
 match b,e with
 |0,e=>cases e
 |1,e=>cases e
 |2,e=>cases e
 |n+3,e=>exact e
def Le4.dn{a b:Nat}(h:Le4 a b):Le4 (L2.dn a) (L2.dn b):=⟨Gr h.1,λe=>(h.2.1 (Ae e)).imp (λz=>by rw[z];rfl) λz=>by rw[z];rfl,λe=>(h.2.2 (Ae e)).imp (λz=>by rw[z];rfl) λz=>by rw[z];rfl⟩
inductive Ow0(Z:Prop)(S:Nat->List V->AS->Prop)(d:Nat)(vs:List V)(F:AS):Prop
 |mk (h:d=0) (z:Z) (s:S 0 vs F)
inductive Ow1{α:Type}(E:Prop)(S:Nat->List α->AS->Prop)(d:Nat)(vs:List α)(a:Addr)(F:AS):Prop
 |mk (h:d≠0) (e:E) (f:F a) (F':AS) (g:∀b,F' b->F b/\b≠a) (s:S (dn d) vs F')
inductive OwC(H:Hp)(u:List V->HO)(Z:Addr->List V->Prop)(S:Nat->List V->AS->Prop)(d:Nat)(v:V)(F:AS):Prop
 |mk (a:Addr) (vs:List V) (e:v=.ref a) (q:Ow0 (Z a vs) S d vs F\/Ow1 (H a=some (u vs)) S d vs a F)
inductive OwD0(Z:Prop)(O:AS)(a:Addr)(S:Prop)(d:Nat):Prop
 |mk (h:d=0) (z:Z) (n:¬O a) (s:S)
abbrev NKs:=List (List (KyN 3)×D)
def kyD:(n:Nat)->KyN n->D
 |0,o=>oD o
 |_+1,.inl o=>oD o
 |n+1,.inr ks=>.tuple (ks.map (kyD n))
def nkD(q:List (KyN 3)×D):D×D:=(.tuple (q.1.map (kyD 3)),q.2)
def nkL(kvs:NKs):List (D×D):=(.none,.bool true)::kvs.map nkD
def nkV(q:List (KyN 3)×D):List (KyN 3)×V:=(q.1,dV q.2)
def TabZ(H:Hp)(O:AS)(m:List D)(tb:List (Str×V))(d:Nat)(F:AS):Prop:=(m=[]/\tb=[]/\d=0)\/∃k kvs ad,m=[.dict (nkL kvs)]/\tb=[(("known":Str),V.ref k)]/\((kvs.all λq=>bO q.2)=true) /\
 H k=some (.dN (kvs.map nkV) ad)/\(∀b,ad b->¬O b/\∃vs,H b=some (.tup vs))/\((d=5/\F k)\/(d=0/\¬O k))
def TabZ.to{F:AS}(h:TabZ H O m tb d F)(hf:∀b,F b->F' b)(k0:∀b o,H b=some o->F b->H' b=some o)(k:∀b o,H b=some o->¬O b->H' b=some o/\¬O' b):TabZ H' O' m tb d F':=by
 rcases h with h|⟨b,kvs,ad,h1,h2,h3,h4,h5,h6⟩
 .exact .inl h
 .refine .inr ⟨b,kvs,ad,h1,h2,h3,?_,λc hc=>?_,?_⟩
  .rcases h6 with⟨_,g⟩|⟨_,g⟩
   .exact k0 _ _ h4 g
   .exact(k _ _ h4 g).1
  .obtain⟨g1,vs,g2⟩:=h5 c hc;exact⟨(k _ _ g2 g1).2,vs,(k _ _ g2 g1).1⟩
  .rcases h6 with⟨e,g⟩|⟨e,g⟩
   .exact .inl ⟨e,hf _ g⟩
   .exact .inr ⟨e,(k _ _ h4 g).2⟩
def TabZ.any0{F:AS}(h:TabZ H O m tb 0 F):TabZ H O m tb 0 F':=by
 rcases h with h|⟨k,kvs,ad,h1,h2,h3,h4,h5,⟨z,_⟩|h6⟩
 .exact .inl h
 .cases z
 .exact .inr ⟨k,kvs,ad,h1,h2,h3,h4,h5,.inr h6⟩
inductive OwI(K:zbU)(O:AS)(H:Hp)(ks:List (D×D))(S:List (Str×V)->Prop)(d:Nat)(a:Addr)(F:AS):Prop
 |mk (c:Str) (C dx:Addr) (fs tb:List (Str×V)) (m:List D) (r:List (D×D)) (e:ks=(.none,.list (.str c::m))::r) (h0:PySem.W.nsIn K mainGlobals c=some (some (.ref C))) (h1:H a=some (.ins C dx (fs++tb))) (h2:¬O a) (h3:S fs) (h4:TabZ H O m tb d F)
inductive OwiC(k:D)(A:V->AS->Prop)(B:List (Str×V)->Prop)(fs:List (Str×V)):Prop
 |skip (h:k=.none) (y:B fs)
 |mk (f:Str) (v:V) (r:List (Str×V)) (e:fs=(f,v)::r) (e2:k=.tuple [.str f]) (x:A v (λ_=>False)) (y:B r)
inductive OwDi(K:zbU)(O:AS)(H:Hp)(ks:List (D×D))(S:Nat->List (Key×V)->AS->Prop)(Si:List (Str×V)->Prop)(d:Nat)(v:V)(F:AS):Prop
 |mk (a:Addr) (vs:List (Key×V)) (e:v=.ref a) (q:OwD0 (Rd H a (.dK vs)) O a (S 0 vs F) d\/Ow1 (H a=some (.dK vs)) S d vs a F\/(d=0/\TupD K H O ks a)\/(d=4/\F a/\PrD O H (λu=>H a=some u) ks)\/OwI K O H ks Si d a F)
inductive OwsC(A:V->AS->Prop)(B:List V->AS->Prop)(vs:List V)(F:AS):Prop
 |mk (v:V) (r:List V) (F1 F2:AS) (e:vs=v::r) (h1:∀b,F1 b->F b) (h2:∀b,F2 b->F b) (h3:∀b,F1 b->¬F2 b) (x:A v F1) (y:B r F2)
inductive OwdC(k:D)(A:V->AS->Prop)(B:List (Key×V)->AS->Prop)(vs:List (Key×V))(F:AS):Prop
 |mk (q:Key) (v:V) (r:List (Key×V)) (F1 F2:AS) (e:vs=(q,v)::r) (e2:k=kD q) (h1:∀b,F1 b->F b) (h2:∀b,F2 b->F b) (h3:∀b,F1 b->¬F2 b) (x:A v F1) (y:B r F2)
mutual
def Ow(K:zbU)(O:AS)(H:Hp):D->Nat->V->AS->Prop
 |.none,_,v,_=>v=.non
 |.bool b,_,v,_=>v=.bl b
 |.int i,_,v,_=>v=.int i
 |.str x,_,v,_=>v=.str x
 |.tuple ts,d,v,F=>OwC H .tup (FzT K O H) (Ows K O H ts) d v F
 |.list ts,d,v,F=>OwC H .lst (FzL K O H) (Ows K O H ts) d v F
 |.dict ks,d,v,F=>OwDi K O H ks (Owd K O H ks) (Owi K O H ks) d v F
def Ows(K:zbU)(O:AS)(H:Hp):List D->Nat->List V->AS->Prop
 |[],_,vs,_=>vs=[]
 |t::ts,d,vs,F=>OwsC (Ow K O H t d) (Ows K O H ts d) vs F
def Owd(K:zbU)(O:AS)(H:Hp):List (D×D)->Nat->List (Key×V)->AS->Prop
 |[],_,vs,_=>vs=[]
 | (k,t)::ts,d,vs,F=>OwdC k (Ow K O H t d) (Owd K O H ts d) vs F
def Owi(K:zbU)(O:AS)(H:Hp):List (D×D)->List (Str×V)->Prop
 |[],fs=>fs=[]
 | (k,t)::ts,fs=>OwiC k (Ow K O H t 0) (Owi K O H ts) fs
end
def Rd.mv{u:HO}(hk:∀o,H a=some o->H' a=some o)(h:Rd H a u):Rd H' a u:=by
 rcases h with h|⟨o,h⟩
 .exact .inl (hk _ h)
 .exact .inr ⟨o,hk _ h⟩
def Rd.there{u:HO}(h:Rd H a u):H a≠none:=by
 rcases h with h|⟨o,h⟩<;>rw[h]<;>exact λz=>nomatch z
structure Mv(O O':AS)(G:AS)(H H':Hp):Prop where
 k:∀a o,H a=some o->(¬O a\/G a)->H' a=some o
 o:∀a,O' a->O a\/H a=none
def FzL.mv{G:AS}{a:Addr}{vs:List V}(m:Mv O O' G H H')(h:FzL K O H a vs):FzL K O' H' a vs:=by
 rcases h with⟨h,n⟩|h
 .refine .inl ⟨h.mv λo e=>m.k _ _ e (.inl n),λz=>?_⟩;rcases m.o _ z with z|z
  .exact n z
  .exact h.there z
 .exact .inr h
def FzT.mv(m:Mv O O' G H H')(h:FzT K O H a vs):FzT K O' H' a vs:=by
 obtain⟨h,n⟩:=h;refine⟨m.k _ _ h (.inl n),λz=>?_⟩;rcases m.o _ z with z|z
 .exact n z
 .rw[h]at z;cases z
mutual
theorem Ow.mv{G:AS}(m:Mv O O' G H H'):∀(t:D) {d:Nat} {v:V} {F:AS},(∀b,F b->G b)->Ow K O H t d v F->Ow K O' H' t d v F
 |.none,_,_,_,_,h=>h
 |.bool _,_,_,_,_,h=>h
 |.int _,_,_,_,_,h=>h
 |.str _,_,_,_,_,h=>h
 |.tuple ts,_,_,_,g,h=>by
  obtain⟨a,vs,e,⟨h0,h1,h2⟩|⟨h0,h1,h2,F',hf,h3⟩⟩:=h
  .exact⟨a,vs,e,.inl ⟨h0,h1.mv m,Ows.mv m ts g h2⟩⟩
  .exact⟨a,vs,e,.inr ⟨h0,m.k _ _ h1 (.inr (g _ h2)),h2,F',hf,Ows.mv m ts (λb hb=>g _ (hf b hb).1) h3⟩⟩
 |.list ts,_,_,_,g,h=>by
  obtain⟨a,vs,e,⟨h0,h1,h2⟩|⟨h0,h1,h2,F',hf,h3⟩⟩:=h
  .exact⟨a,vs,e,.inl ⟨h0,h1.mv m,Ows.mv m ts g h2⟩⟩
  .exact⟨a,vs,e,.inr ⟨h0,m.k _ _ h1 (.inr (g _ h2)),h2,F',hf,Ows.mv m ts (λb hb=>g _ (hf b hb).1) h3⟩⟩
 |.dict ks,_,_,_,g,h=>by
  obtain⟨a,vs,e,⟨h0,h1,hn,h2⟩|⟨h0,h1,h2,F',hf,h3⟩|⟨h0,ht⟩|⟨h0,h1,hp⟩|⟨c,C,dx,fs,tb,mm,r,i0,i1,i2,i3,i4,i5⟩⟩:=h
  .refine⟨a,vs,e,.inl ⟨h0,h1.mv λo e=>m.k _ _ e (.inl hn),λz=>?_,Owd.mv m ks g h2⟩⟩;rcases m.o _ z with z|z
   .exact hn z
   .exact h1.there z
  .exact⟨a,vs,e,.inr (.inl ⟨h0,m.k _ _ h1 (.inr (g _ h2)),h2,F',hf,Owd.mv m ks (λb hb=>g _ (hf b hb).1) h3⟩)⟩
  .refine⟨a,vs,e,.inr (.inr (.inl ⟨h0,ht.to λb o h2 hn=>⟨m.k _ _ h2 (.inl hn),λz=>?_⟩⟩))⟩;rcases m.o _ z with z|z
   .exact hn z
   .rw[h2]at z;cases z
  .refine⟨a,vs,e,.inr (.inr (.inr (.inl ⟨h0,h1,hp.to (λ_ _ q=>m.k _ _ q (.inr (g _ h1))) λb o h2 hn=>⟨m.k _ _ h2 (.inl hn),λz=>?_⟩⟩)))⟩;rcases m.o _ z with z|z
   .exact hn z
   .rw[h2]at z;cases z
  .have kk:∀b o,H b=some o->¬O b->H' b=some o/\¬O' b:=λb o h2 hn=>⟨m.k _ _ h2 (.inl hn),λz=>(m.o _ z).elim hn λz=>by rw[h2]at z;cases z⟩;exact⟨a,vs,e,.inr (.inr (.inr (.inr ⟨c,C,dx,fs,tb,mm,r,i0,i1,(kk _ _ i2 i3).1,(kk _ _ i2 i3).2,Owi.mv m ks i4,i5.to (λ_ z=>z) (λb o h2 z=>m.k _ _ h2 (.inr (g _ z))) kk⟩)))⟩
theorem Ows.mv{G:AS}(m:Mv O O' G H H'):∀(ts:List D) {d:Nat} {vs:List V} {F:AS},(∀b,F b->G b)->Ows K O H ts d vs F->Ows K O' H' ts d vs F
 |[],_,_,_,_,h=>h
 |t::ts,_,_,_,g,h=>by
  obtain⟨v,r,F1,F2,e,h1,h2,h3,h4,h5⟩:=h;exact⟨v,r,F1,F2,e,h1,h2,h3,Ow.mv m t (λb hb=>g _ (h1 b hb)) h4,Ows.mv m ts (λb hb=>g _ (h2 b hb)) h5⟩
theorem Owd.mv{G:AS}(m:Mv O O' G H H'):∀(ts:List (D×D)) {d:Nat} {vs:List (Key×V)} {F:AS},(∀b,F b->G b)->Owd K O H ts d vs F->Owd K O' H' ts d vs F
 |[],_,_,_,_,h=>h
 | (k,t)::ts,_,_,_,g,h=>by
  obtain⟨q,v,r,F1,F2,e,e2,h1,h2,h3,h4,h5⟩:=h;exact⟨q,v,r,F1,F2,e,e2,h1,h2,h3,Ow.mv m t (λb hb=>g _ (h1 b hb)) h4,Owd.mv m ts (λb hb=>g _ (h2 b hb)) h5⟩
theorem Owi.mv{G:AS}(m:Mv O O' G H H'):∀(ts:List (D×D)) {fs:List (Str×V)},Owi K O H ts fs->Owi K O' H' ts fs
 |[],_,h=>h
 | (k,t)::ts,_,h=>by
  rcases h with⟨h1,h2⟩|⟨f,v,r,e,e2,x,y⟩
  .exact .skip h1 (Owi.mv m ts h2)
  .exact .mk f v r e e2 (Ow.mv m t (λ_ z=>z.elim) x) (Owi.mv m ts y)
end
def FzL.sub(ho:∀a,O' a->O a)(h:FzL K O H a vs):FzL K O' H a vs:=h.imp (λh=>⟨h.1,λz=>h.2 (ho _ z)⟩) id
def FzT.sub(ho:∀a,O' a->O a)(h:FzT K O H a vs):FzT K O' H a vs:=⟨h.1,λz=>h.2 (ho _ z)⟩
mutual
theorem Ow.any0:∀(t:D) {v:V} {F F':AS},Ow K O H t 0 v F->Ow K O H t 0 v F'
 |.none,_,_,_,h=>h
 |.bool _,_,_,_,h=>h
 |.int _,_,_,_,h=>h
 |.str _,_,_,_,h=>h
 |.tuple ts,_,_,_,h=>by
  obtain⟨a,vs,e,⟨h0,h1,h2⟩|⟨h0,_⟩⟩:=h
  .exact⟨a,vs,e,.inl ⟨rfl,h1,Ows.any0 ts h2⟩⟩
  .exact absurd rfl h0
 |.list ts,_,_,_,h=>by
  obtain⟨a,vs,e,⟨h0,h1,h2⟩|⟨h0,_⟩⟩:=h
  .exact⟨a,vs,e,.inl ⟨rfl,h1,Ows.any0 ts h2⟩⟩
  .exact absurd rfl h0
 |.dict ts,_,_,_,h=>by
  obtain⟨a,vs,e,⟨h0,h1,hn,h2⟩|⟨h0,_⟩|⟨_,ht⟩|⟨h0,_⟩|⟨c,C,dx,fs,tb,mm,r,i0,i1,i2,i3,i4,i5⟩⟩:=h
  .exact⟨a,vs,e,.inl ⟨rfl,h1,hn,Owd.any0 ts h2⟩⟩
  .exact absurd rfl h0
  .exact⟨a,vs,e,.inr (.inr (.inl ⟨rfl,ht⟩))⟩
  .cases h0
  .exact⟨a,vs,e,.inr (.inr (.inr (.inr ⟨c,C,dx,fs,tb,mm,r,i0,i1,i2,i3,i4,i5.any0⟩)))⟩
theorem Ows.any0:∀(ts:List D) {vs:List V} {F F':AS},Ows K O H ts 0 vs F->Ows K O H ts 0 vs F'
 |[],_,_,_,h=>h
 |t::ts,_,_,_,h=>by
  obtain⟨v,r,F1,F2,e,_,_,_,h4,h5⟩:=h;exact⟨v,r,λ_=>False,λ_=>False,e,λ_ z=>z.elim,λ_ z=>z.elim,λ_ z=>z.elim,Ow.any0 t h4,Ows.any0 ts h5⟩
theorem Owd.any0:∀(ts:List (D×D)) {vs:List (Key×V)} {F F':AS},Owd K O H ts 0 vs F->Owd K O H ts 0 vs F'
 |[],_,_,_,h=>h
 | (k,t)::ts,_,_,_,h=>by
  obtain⟨q,v,r,F1,F2,e,e2,_,_,_,h4,h5⟩:=h;exact⟨q,v,r,λ_=>False,λ_=>False,e,e2,λ_ z=>z.elim,λ_ z=>z.elim,λ_ z=>z.elim,Ow.any0 t h4,Owd.any0 ts h5⟩
end
def Ow.none0(t:D){F:AS}(h:Ow K O H t 0 v F):Ow K O H t 0 v (λ_=>False):=Ow.any0 t h
mutual
theorem Ow.less(ho:∀a,O' a->O a):∀(t:D) {v:V},Ow K O H t 0 v (λ_=>False)->Ow K O' H t 0 v (λ_=>False)
 |.none,_,h=>h
 |.bool _,_,h=>h
 |.int _,_,h=>h
 |.str _,_,h=>h
 |.tuple ts,_,h=>by
  obtain⟨a,vs,e,⟨h0,h1,h2⟩|⟨h0,_⟩⟩:=h
  .exact⟨a,vs,e,.inl ⟨rfl,h1.sub ho,Ows.less ho ts h2⟩⟩
  .exact absurd rfl h0
 |.list ts,_,h=>by
  obtain⟨a,vs,e,⟨h0,h1,h2⟩|⟨h0,_⟩⟩:=h
  .exact⟨a,vs,e,.inl ⟨rfl,h1.sub ho,Ows.less ho ts h2⟩⟩
  .exact absurd rfl h0
 |.dict ts,_,h=>by
  obtain⟨a,vs,e,⟨h0,h1,hn,h2⟩|⟨h0,_⟩|⟨h0,ht⟩|⟨h0,_⟩|⟨c,C,dx,fs,tb,mm,r,i0,i1,i2,i3,i4,i5⟩⟩:=h
  .exact⟨a,vs,e,.inl ⟨h0,h1,λz=>hn (ho _ z),Owd.less ho ts h2⟩⟩
  .exact absurd rfl h0
  .exact⟨a,vs,e,.inr (.inr (.inl ⟨h0,ht.to λ_ o h2 hn=>⟨h2,λz=>hn (ho _ z)⟩⟩))⟩
  .cases h0
  .exact⟨a,vs,e,.inr (.inr (.inr (.inr ⟨c,C,dx,fs,tb,mm,r,i0,i1,i2,λz=>i3 (ho _ z),Owi.less ho ts i4,i5.to (λ_ z=>z) (λ_ _ h2 _=>h2) λ_ o h2 hn=>⟨h2,λz=>hn (ho _ z)⟩⟩)))⟩
theorem Ows.less(ho:∀a,O' a->O a):∀(ts:List D) {vs:List V} {F:AS},Ows K O H ts 0 vs F->Ows K O' H ts 0 vs (λ_=>False)
 |[],_,_,h=>h
 |t::ts,_,_,h=>by
  obtain⟨v,r,F1,F2,e,_,_,_,h4,h5⟩:=h;exact⟨v,r,λ_=>False,λ_=>False,e,λ_ z=>z,λ_ z=>z,λ_ z=>z.elim,Ow.less ho t (Ow.none0 t h4),Ows.less ho ts h5⟩
theorem Owd.less(ho:∀a,O' a->O a):∀(ts:List (D×D)) {vs:List (Key×V)} {F:AS},Owd K O H ts 0 vs F->Owd K O' H ts 0 vs (λ_=>False)
 |[],_,_,h=>h
 | (k,t)::ts,_,_,h=>by
  obtain⟨q,v,r,F1,F2,e,e2,_,_,_,h4,h5⟩:=h;exact⟨q,v,r,λ_=>False,λ_=>False,e,e2,λ_ z=>z,λ_ z=>z,λ_ z=>z.elim,Ow.less ho t (Ow.none0 t h4),Owd.less ho ts h5⟩
theorem Owi.less(ho:∀a,O' a->O a):∀(ts:List (D×D)) {fs:List (Str×V)},Owi K O H ts fs->Owi K O' H ts fs
 |[],_,h=>h
 | (k,t)::ts,_,h=>by
  rcases h with⟨h1,h2⟩|⟨f,v,r,e,e2,x,y⟩
  .exact .skip h1 (Owi.less ho ts h2)
  .exact .mk f v r e e2 (Ow.less ho t x) (Owi.less ho ts y)
end
mutual
theorem Ow.cut:∀(t:D) {d d':Nat} {v:V} {F:AS},Le4 d' d->Ow K O H t d v F->∃F':AS,(∀b,F' b->F b)/\∀O':AS,(∀a,O' a->O a)->(∀a,F a->O' a->F' a)->Ow K O' H t d' v F'
 |.none,_,_,_,F,_,h=>⟨F,λ_ z=>z,λ_ _ _=>h⟩
 |.bool _,_,_,_,F,_,h=>⟨F,λ_ z=>z,λ_ _ _=>h⟩
 |.int _,_,_,_,F,_,h=>⟨F,λ_ z=>z,λ_ _ _=>h⟩
 |.str _,_,_,_,F,_,h=>⟨F,λ_ z=>z,λ_ _ _=>h⟩
 |.tuple ts,d,d',_,F,hd,h=>by
  obtain⟨a,vs,e,⟨h0,h1,h2⟩|⟨h0,h1,h2,G,hg,h3⟩⟩:=h
  .subst h0;have e0:d'=0:=Nat.le_zero.mp hd.1;subst e0;obtain⟨F',s1,s2⟩:=Ows.cut ts (.refl _) h2;exact⟨F',s1,λO' ho hx=>⟨a,vs,e,.inl ⟨rfl,h1.sub ho,s2 O' ho hx⟩⟩⟩
  .by_cases e0:d'=0
   .subst e0;obtain⟨F',s1,s2⟩:=Ows.cut ts (.zero _) h3;refine⟨F',λb hb=>(hg _ (s1 b hb)).1,λO' ho hx=>⟨a,vs,e,.inl ⟨rfl,⟨h1,λz=>(hg _ (s1 _ (hx _ h2 z))).2 rfl⟩,s2 O' ho λb hb=>hx b (hg b hb).1⟩⟩⟩
   .obtain⟨F',s1,s2⟩:=Ows.cut ts hd.dn h3;refine⟨λb=>b=a\/F' b,λb hb=>hb.elim (λz=>z▸h2) λz=>(hg _ (s1 b z)).1,λO' ho hx=>⟨a,vs,e,.inr ⟨e0,h1,.inl rfl,F',λb hb=>⟨.inr hb,(hg _ (s1 b hb)).2⟩,s2 O' ho λb hb hz=>?_⟩⟩⟩;exact(hx b (hg b hb).1 hz).elim (λz=>absurd z (hg b hb).2) id
 |.list ts,d,d',_,F,hd,h=>by
  obtain⟨a,vs,e,⟨h0,h1,h2⟩|⟨h0,h1,h2,G,hg,h3⟩⟩:=h
  .subst h0;have e0:d'=0:=Nat.le_zero.mp hd.1;subst e0;obtain⟨F',s1,s2⟩:=Ows.cut ts (.refl _) h2;exact⟨F',s1,λO' ho hx=>⟨a,vs,e,.inl ⟨rfl,h1.sub ho,s2 O' ho hx⟩⟩⟩
  .by_cases e0:d'=0
   .subst e0;obtain⟨F',s1,s2⟩:=Ows.cut ts (.zero _) h3;refine⟨F',λb hb=>(hg _ (s1 b hb)).1,λO' ho hx=>⟨a,vs,e,.inl ⟨rfl,.inl ⟨.inl h1,λz=>(hg _ (s1 _ (hx _ h2 z))).2 rfl⟩,s2 O' ho λb hb=>hx b (hg b hb).1⟩⟩⟩
   .obtain⟨F',s1,s2⟩:=Ows.cut ts hd.dn h3;refine⟨λb=>b=a\/F' b,λb hb=>hb.elim (λz=>z▸h2) λz=>(hg _ (s1 b z)).1,λO' ho hx=>⟨a,vs,e,.inr ⟨e0,h1,.inl rfl,F',λb hb=>⟨.inr hb,(hg _ (s1 b hb)).2⟩,s2 O' ho λb hb hz=>?_⟩⟩⟩;exact(hx b (hg b hb).1 hz).elim (λz=>absurd z (hg b hb).2) id
 |.dict ts,d,d',_,F,hd,h=>by
  obtain⟨a,vs,e,⟨h0,h1,hn,h2⟩|⟨h0,h1,h2,G,hg,h3⟩|⟨h0,ht⟩|⟨h0,h1,hp⟩|⟨c,C,dx,fs,tb,mm,r,i0,i1,i2,i3,i4,i5⟩⟩:=h
  .subst h0;have e0:d'=0:=Nat.le_zero.mp hd.1;subst e0;obtain⟨F',s1,s2⟩:=Owd.cut ts (.refl _) h2;exact⟨F',s1,λO' ho hx=>⟨a,vs,e,.inl ⟨rfl,h1,λz=>hn (ho _ z),s2 O' ho hx⟩⟩⟩
  .by_cases e0:d'=0
   .subst e0;obtain⟨F',s1,s2⟩:=Owd.cut ts (.zero _) h3;refine⟨F',λb hb=>(hg _ (s1 b hb)).1,λO' ho hx=>⟨a,vs,e,.inl ⟨rfl,.inl h1,λz=>(hg _ (s1 _ (hx _ h2 z))).2 rfl,s2 O' ho λb hb=>hx b (hg b hb).1⟩⟩⟩
   .obtain⟨F',s1,s2⟩:=Owd.cut ts hd.dn h3;refine⟨λb=>b=a\/F' b,λb hb=>hb.elim (λz=>z▸h2) λz=>(hg _ (s1 b z)).1,λO' ho hx=>⟨a,vs,e,.inr (.inl ⟨e0,h1,.inl rfl,F',λb hb=>⟨.inr hb,(hg _ (s1 b hb)).2⟩,s2 O' ho λb hb hz=>?_⟩)⟩⟩;exact(hx b (hg b hb).1 hz).elim (λz=>absurd z (hg b hb).2) id
  .subst h0;have e0:d'=0:=Nat.le_zero.mp hd.1;subst e0;exact⟨F,λ_ z=>z,λO' ho hx=>⟨a,vs,e,.inr (.inr (.inl ⟨rfl,ht.to λ_ o h2 hn=>⟨h2,λz=>hn (ho _ z)⟩⟩))⟩⟩
  .rcases hd.2.1 h0 with e0|e0
   .exact⟨λ_=>False,λ_ z=>z.elim,λO' ho hx=>⟨a,vs,e,.inr (.inr (.inl ⟨e0,.inl ⟨hp.to (λ_ _ q=>.inl q) λ_ o h2 hn=>⟨h2,λz=>hn (ho _ z)⟩,λz=>hx a h1 z⟩⟩))⟩⟩
   .exact⟨F,λ_ z=>z,λO' ho hx=>⟨a,vs,e,.inr (.inr (.inr (.inl ⟨e0,h1,hp.to (λ_ _ q=>q) λ_ o h2 hn=>⟨h2,λz=>hn (ho _ z)⟩⟩)))⟩⟩
  .have kk:∀O':AS,(∀a,O' a->O a)->∀b o,H b=some o->¬O b->H b=some o/\¬O' b:=λO' ho b o h2 hn=>⟨h2,λz=>hn (ho _ z)⟩;have fin:∀O':AS,∀F':AS,(∀a,O' a->O a)->TabZ H O' mm tb d' F'->Ow K O' H (.dict ts) d' _ F':=λO' F' ho z=>⟨a,vs,e,.inr (.inr (.inr (.inr ⟨c,C,dx,fs,tb,mm,r,i0,i1,i2,λz=>i3 (ho _ z),Owi.less ho ts i4,z⟩)))⟩;rcases i5 with⟨m0,t0,e0⟩|⟨b,kvs,ad,g1,g2,g3,g4,g5,g6⟩
   .subst e0;have e0:d'=0:=Nat.le_zero.mp hd.1;exact⟨F,λ_ z=>z,λO' ho hx=>fin O' F ho (.inl ⟨m0,t0,e0⟩)⟩
   .have g5':∀O':AS,(∀a,O' a->O a)->∀b,ad b->¬O' b/\∃vs,H b=some (.tup vs):=λO' ho b hb=>⟨λz=>(g5 b hb).1 (ho _ z),(g5 b hb).2⟩;rcases g6 with⟨e5,hk⟩|⟨e0,hk⟩
    .rcases hd.2.2 e5 with e0|e0
     .exact⟨λ_=>False,λ_ z=>z.elim,λO' ho hx=>fin O' _ ho (.inr ⟨b,kvs,ad,g1,g2,g3,g4,g5' O' ho,.inr ⟨e0,λz=>hx b hk z⟩⟩)⟩
     .exact⟨F,λ_ z=>z,λO' ho hx=>fin O' F ho (.inr ⟨b,kvs,ad,g1,g2,g3,g4,g5' O' ho,.inl ⟨e0,hk⟩⟩)⟩
    .subst e0;have e0:d'=0:=Nat.le_zero.mp hd.1;exact⟨F,λ_ z=>z,λO' ho hx=>fin O' F ho (.inr ⟨b,kvs,ad,g1,g2,g3,g4,g5' O' ho,.inr ⟨e0,λz=>hk (ho _ z)⟩⟩)⟩
theorem Ows.cut:∀(ts:List D) {d d':Nat} {vs:List V} {F:AS},Le4 d' d->Ows K O H ts d vs F->∃F':AS,(∀b,F' b->F b)/\∀O':AS,(∀a,O' a->O a)->(∀a,F a->O' a->F' a)->Ows K O' H ts d' vs F'
 |[],_,_,_,F,_,h=>⟨F,λ_ z=>z,λ_ _ _=>h⟩
 |t::ts,_,_,_,F,hd,h=>by
  obtain⟨v,r,F1,F2,e,h1,h2,h3,h4,h5⟩:=h;obtain⟨G1,a1,a2⟩:=Ow.cut t hd h4;obtain⟨G2,b1,b2⟩:=Ows.cut ts hd h5;refine⟨λb=>G1 b\/G2 b,λb hb=>hb.elim (λz=>h1 _ (a1 _ z)) λz=>h2 _ (b1 _ z),λO' ho hx=>⟨v,r,G1,G2,e,λb=>.inl,λb=>.inr,λb z1 z2=>h3 b (a1 b z1) (b1 b z2),a2 O' ho λb hb hz=>?_,b2 O' ho λb hb hz=>?_⟩⟩
  .exact(hx b (h1 b hb) hz).elim id λz=>absurd (b1 b z) (h3 b hb)
  .exact(hx b (h2 b hb) hz).elim (λz=>absurd hb (h3 b (a1 b z))) id
theorem Owd.cut:∀(ts:List (D×D)) {d d':Nat} {vs:List (Key×V)} {F:AS},Le4 d' d->Owd K O H ts d vs F->∃F':AS,(∀b,F' b->F b)/\∀O':AS,(∀a,O' a->O a)->(∀a,F a->O' a->F' a)->Owd K O' H ts d' vs F'
 |[],_,_,_,F,_,h=>⟨F,λ_ z=>z,λ_ _ _=>h⟩
 | (k,t)::ts,_,_,_,F,hd,h=>by
  obtain⟨q,v,r,F1,F2,e,e2,h1,h2,h3,h4,h5⟩:=h;obtain⟨G1,a1,a2⟩:=Ow.cut t hd h4;obtain⟨G2,b1,b2⟩:=Owd.cut ts hd h5;refine⟨λb=>G1 b\/G2 b,λb hb=>hb.elim (λz=>h1 _ (a1 _ z)) λz=>h2 _ (b1 _ z),λO' ho hx=>⟨q,v,r,G1,G2,e,e2,λb=>.inl,λb=>.inr,λb z1 z2=>h3 b (a1 b z1) (b1 b z2),a2 O' ho λb hb hz=>?_,b2 O' ho λb hb hz=>?_⟩⟩
  .exact(hx b (h1 b hb) hz).elim id λz=>absurd (b1 b z) (h3 b hb)
  .exact(hx b (h2 b hb) hz).elim (λz=>absurd hb (h3 b (a1 b z))) id
end
mutual
theorem Ow.grow(ho:∀a,O' a->O a):∀(t:D) {d:Nat} {v:V} {F F':AS},(∀b,F b->F' b)->Ow K O H t d v F->Ow K O' H t d v F'
 |.none,_,_,_,_,_,h=>h
 |.bool _,_,_,_,_,_,h=>h
 |.int _,_,_,_,_,_,h=>h
 |.str _,_,_,_,_,_,h=>h
 |.tuple ts,_,_,_,_,hf,h=>by
  obtain⟨a,vs,e,⟨h0,h1,h2⟩|⟨h0,h1,h2,G,hg,h3⟩⟩:=h
  .exact⟨a,vs,e,.inl ⟨h0,h1.sub ho,Ows.grow ho ts hf h2⟩⟩
  .exact⟨a,vs,e,.inr ⟨h0,h1,hf _ h2,G,λb hb=>⟨hf _ (hg b hb).1,(hg b hb).2⟩,Ows.grow ho ts (λ_ z=>z) h3⟩⟩
 |.list ts,_,_,_,_,hf,h=>by
  obtain⟨a,vs,e,⟨h0,h1,h2⟩|⟨h0,h1,h2,G,hg,h3⟩⟩:=h
  .exact⟨a,vs,e,.inl ⟨h0,h1.sub ho,Ows.grow ho ts hf h2⟩⟩
  .exact⟨a,vs,e,.inr ⟨h0,h1,hf _ h2,G,λb hb=>⟨hf _ (hg b hb).1,(hg b hb).2⟩,Ows.grow ho ts (λ_ z=>z) h3⟩⟩
 |.dict ts,_,_,_,_,hf,h=>by
  obtain⟨a,vs,e,⟨h0,h1,hn,h2⟩|⟨h0,h1,h2,G,hg,h3⟩|⟨h0,ht⟩|⟨h0,h1,hp⟩|⟨c,C,dx,fs,tb,mm,r,i0,i1,i2,i3,i4,i5⟩⟩:=h
  .exact⟨a,vs,e,.inl ⟨h0,h1,λz=>hn (ho _ z),Owd.grow ho ts hf h2⟩⟩
  .exact⟨a,vs,e,.inr (.inl ⟨h0,h1,hf _ h2,G,λb hb=>⟨hf _ (hg b hb).1,(hg b hb).2⟩,Owd.grow ho ts (λ_ z=>z) h3⟩)⟩
  .exact⟨a,vs,e,.inr (.inr (.inl ⟨h0,ht.to λ_ o h2 hn=>⟨h2,λz=>hn (ho _ z)⟩⟩))⟩
  .exact⟨a,vs,e,.inr (.inr (.inr (.inl ⟨h0,hf _ h1,hp.to (λ_ _ q=>q) λ_ o h2 hn=>⟨h2,λz=>hn (ho _ z)⟩⟩)))⟩
  .exact⟨a,vs,e,.inr (.inr (.inr (.inr ⟨c,C,dx,fs,tb,mm,r,i0,i1,i2,λz=>i3 (ho _ z),Owi.less ho ts i4,i5.to hf (λ_ _ h2 _=>h2) λ_ o h2 hn=>⟨h2,λz=>hn (ho _ z)⟩⟩)))⟩
theorem Ows.grow(ho:∀a,O' a->O a):∀(ts:List D) {d:Nat} {vs:List V} {F F':AS},(∀b,F b->F' b)->Ows K O H ts d vs F->Ows K O' H ts d vs F'
 |[],_,_,_,_,_,h=>h
 |t::ts,_,_,_,_,hf,h=>by
  obtain⟨v,r,F1,F2,e,h1,h2,h3,h4,h5⟩:=h;exact⟨v,r,F1,F2,e,λb z=>hf _ (h1 b z),λb z=>hf _ (h2 b z),h3,Ow.grow ho t (λ_ z=>z) h4,Ows.grow ho ts (λ_ z=>z) h5⟩
theorem Owd.grow(ho:∀a,O' a->O a):∀(ts:List (D×D)) {d:Nat} {vs:List (Key×V)} {F F':AS},(∀b,F b->F' b)->Owd K O H ts d vs F->Owd K O' H ts d vs F'
 |[],_,_,_,_,_,h=>h
 | (k,t)::ts,_,_,_,_,hf,h=>by
  obtain⟨q,v,r,F1,F2,e,e2,h1,h2,h3,h4,h5⟩:=h;exact⟨q,v,r,F1,F2,e,e2,λb z=>hf _ (h1 b z),λb z=>hf _ (h2 b z),h3,Ow.grow ho t (λ_ z=>z) h4,Owd.grow ho ts (λ_ z=>z) h5⟩
end
mutual
theorem Ow.full:∀(t:D) {v:V} {F:AS},Ow K O H t 3 v F->Ow K O' H t 3 v F
 |.none,_,_,h=>h
 |.bool _,_,_,h=>h
 |.int _,_,_,h=>h
 |.str _,_,_,h=>h
 |.tuple ts,_,_,h=>by
  obtain⟨a,vs,e,⟨h0,h1,h2⟩|⟨h0,h1,h2,G,hg,h3⟩⟩:=h
  .cases h0
  .exact⟨a,vs,e,.inr ⟨h0,h1,h2,G,hg,Ows.full ts h3⟩⟩
 |.list ts,_,_,h=>by
  obtain⟨a,vs,e,⟨h0,h1,h2⟩|⟨h0,h1,h2,G,hg,h3⟩⟩:=h
  .cases h0
  .exact⟨a,vs,e,.inr ⟨h0,h1,h2,G,hg,Ows.full ts h3⟩⟩
 |.dict ts,_,_,h=>by
  obtain⟨a,vs,e,⟨h0,h1,hn,h2⟩|⟨h0,h1,h2,G,hg,h3⟩|⟨h0,_⟩|⟨h0,hp⟩|⟨c,C,dx,fs,tb,mm,r,i0,i1,i2,i3,i4,i5⟩⟩:=h
  .cases h0
  .exact⟨a,vs,e,.inr (.inl ⟨h0,h1,h2,G,hg,Owd.full ts h3⟩)⟩
  .cases h0
  .cases h0
  .rcases i5 with⟨_,_,z⟩|⟨_,_,_,_,_,_,_,_,⟨z,_⟩|⟨z,_⟩⟩<;>cases z
theorem Ows.full:∀(ts:List D) {vs:List V} {F:AS},Ows K O H ts 3 vs F->Ows K O' H ts 3 vs F
 |[],_,_,h=>h
 |t::ts,_,_,h=>by
  obtain⟨v,r,F1,F2,e,h1,h2,h3,h4,h5⟩:=h;exact⟨v,r,F1,F2,e,h1,h2,h3,Ow.full t h4,Ows.full ts h5⟩
theorem Owd.full:∀(ts:List (D×D)) {vs:List (Key×V)} {F:AS},Owd K O H ts 3 vs F->Owd K O' H ts 3 vs F
 |[],_,_,h=>h
 | (k,t)::ts,_,_,h=>by
  obtain⟨q,v,r,F1,F2,e,e2,h1,h2,h3,h4,h5⟩:=h;exact⟨q,v,r,F1,F2,e,e2,h1,h2,h3,Ow.full t h4,Owd.full ts h5⟩
end
def Ow.fz{F:AS}(ho:∀a,O' a->O a)(hn:∀a,F a->¬O' a)(h:Ow K O H t d v F):Ow K O' H t 0 v F2:=by
 obtain⟨F',s1,s2⟩:=Ow.cut t (.zero d) h;exact Ow.any0 t (s2 O' ho λa z1 z2=>absurd z2 (hn a z1))
noncomputable def U(A B:AS):AS:=λa=>A a\/B a
noncomputable def Own(R:Nat->AS)(Ox:AS):AS:=λa=>(∃i,R i a)\/Ox a
def jm{A B:AS}(h:∀a,A a↔B a):A=B:=funext λa=>propext (h a)
structure EnvOk(K:zbU)(ds:List Nat)(Ox:AS)(H:Hp)(σ:St)(en:En)(R:Nat->AS):Prop where
 at_:∀(i:Nat) (t:D),en[i]?=some (some t)->∃v d,σ[i]?=some (some v)/\ds[i]?=some d/\Ow K (Own R Ox) H t d v (R i)
 dj:∀i j a,R i a->R j a->i=j
 dx:∀i a,R i a->¬Ox a
 dom:∀a,Own R Ox a->∃o,H a=some o
 l1:en.length=σ.length
 l2:ds.length=σ.length
structure Post(K:zbU)(p:Bool)(ds':List Nat)(Ox:AS)(σ:St)(H:Hp)(en:En)(R:Nat->AS)(en':En)(H':Hp)(R':Nat->AS)(F:AS):Prop where
 env:EnvOk K ds' (U F Ox) H' σ en' R'
 fx:∀a,F a->¬Ox a
 keep:∀a o,H a=some o->(∀i,¬R i a)->H' a=some o
 own:∀a,(F a\/∃i,R' i a)->(∃i,R i a)\/H a=none
 dom:∀a o,H a=some o->∃o',H' a=some o'
 pure:p=true->en'=en/\R'=R/\∀a o,H a=some o->H' a=some o
def EnvOk.grow(e:EnvOk K ds Ox H σ en R)(hk:∀a o,H a=some o->H' a=some o){F:AS}(hf:∀a,F a->H a=none/\∃o,H' a=some o):EnvOk K ds (U F Ox) H' σ en R:=by
 have fo:∀a,F a->¬Own R Ox a:=λa z z2=>by
  obtain⟨o,q⟩:=e.dom a z2;rw[(hf a z).1]at q;cases q
 refine⟨λi t h=>?_,e.dj,λi a h z=>?_,λa h=>?_,e.l1,e.l2⟩
 .obtain⟨v,d,h1,h2,h3⟩:=e.at_ i t h;refine⟨v,d,h1,h2,Ow.mv (G:=R i) ⟨λa o q _=>hk a o q,λa z=>?_⟩ t (λ_ z=>z) h3⟩;rcases z with z|z|z
  .exact .inl (.inl z)
  .exact .inr (hf a z).1
  .exact .inl (.inr z)
 .rcases z with z|z
  .exact fo a z (.inl ⟨i,h⟩)
  .exact e.dx i a h z
 .rcases h with h|h|h
  .obtain⟨o,q⟩:=e.dom a (.inl h);exact⟨o,hk a o q⟩
  .exact(hf a h).2
  .obtain⟨o,q⟩:=e.dom a (.inr h);exact⟨o,hk a o q⟩
def EnvOk.fewer(e:EnvOk K ds Ox H σ en R)(h:∀a,Ox' a->Ox a):EnvOk K ds Ox' H σ en R:=by
 refine⟨λi t q=>?_,e.dj,λi a z1 z2=>e.dx i a z1 (h a z2),λa z=>e.dom a (z.imp id (h a)),e.l1,e.l2⟩;obtain⟨v,d,h1,h2,h3⟩:=e.at_ i t q;exact⟨v,d,h1,h2,Ow.grow (λa z=>z.imp id (h a)) t (λ_ z=>z) h3⟩
inductive tF(K:zbU)(p:Bool)(ds ds':List Nat)(d:Nat)(f:En->Option (D×En))(σ:St)(H:Hp)(Q:VK):Prop
 |mk (Ox:AS) (en:En) (R:Nat->AS) (t:PyData) (en':En) (h0:EnvOk K ds Ox H σ en R) (h1:f en=some (t,en')) (h2:∀v H' R' F,Post K p ds' Ox σ H en R en' H' R' F->Ow K (Own R' (U F Ox)) H' t d v F->Q v H')
def n6{a b:Bool}(h:(a&&b)=true):a=true:=by cases a;cases h;rfl
def xV{a b:Bool}(h:(a&&b)=true):b=true:=by cases a;cases h;exact h
def Post.refl(e:EnvOk K ds Ox H σ en R):Post K p ds Ox σ H en R en H R (λ_=>False):=by
 have eq:U (λ_=>False) Ox=Ox:=jm λa=>⟨λz=>z.elim (λz=>z.elim) id,.inr⟩;exact⟨eq.symm▸e,λ_ z=>z.elim,λ_ _ q _=>q,λa z=>z.elim (λz=>z.elim) .inl,λa o q=>⟨o,q⟩,λ_=>⟨rfl,rfl,λ_ _ q=>q⟩⟩
def Post.new(e:EnvOk K ds Ox H σ en R)(hk:∀a o,H a=some o->H' a=some o){F:AS}(hf:∀a,F a->H a=none/\∃o,H' a=some o):Post K p ds Ox σ H en R en H' R F:=by
 refine⟨e.grow hk hf,λa z z2=>?_,λa o q _=>hk a o q,λa z=>z.elim (λz=>.inr (hf a z).1) .inl,λa o q=>⟨o,hk a o q⟩,λ_=>⟨rfl,rfl,hk⟩⟩;obtain⟨o,q⟩:=e.dom a (.inr z2);rw[(hf a z).1]at q;cases q
theorem Post.trans{H1 H2:Hp}{R1 R2:Nat->AS}{F1 F2:AS}(P1:Post K p1 ds1 Ox σ H en R en1 H1 R1 F1)(P2:Post K p2 ds2 (U F1 Ox) σ H1 en1 R1 en2 H2 R2 F2):
  Post K (p1&&p2) ds2 Ox σ H en R en2 H2 R2 (U F1 F2):=by
 have eq:U F2 (U F1 Ox)=U (U F1 F2) Ox:=jm λa=>by unfold U;exact⟨λz=>by rcases z with z|z|z;exact .inl (.inr z);exact .inl (.inl z);exact .inr z,λz=>by rcases z with (z|z)|z;exact .inr (.inl z);exact .inl z;exact .inr (.inr z)⟩
 have n1:∀a,H1 a=none->H a=none:=λa z=>by
  cases q:H a with
  |none=>rfl
  |some o=>
   obtain⟨o',q'⟩:=P1.dom a o q;rw[z]at q';cases q'
 refine⟨eq▸P2.env,λa z z2=>?_,λa o q n=>?_,λa z=>?_,λa o q=>?_,λhp=>?_⟩
 .rcases z with z|z
  .exact P1.fx a z z2
  .exact P2.fx a z (.inr z2)
 .refine P2.keep a o (P1.keep a o q n) λi z=>?_;rcases P1.own a (.inr ⟨i,z⟩)with⟨j,z⟩|z
  .exact n j z
  .rw[q]at z;cases z
 .rcases z with (z|z)|z
  .exact P1.own a (.inl z)
  .rcases P2.own a (.inl z)with z|z
   .exact P1.own a (.inr z)
   .exact .inr (n1 a z)
  .rcases P2.own a (.inr z)with z|z
   .exact P1.own a (.inr z)
   .exact .inr (n1 a z)
 .obtain⟨o',q'⟩:=P1.dom a o q;exact P2.dom a o' q'
 .have h1:p1=true:=n6 hp;have h2:p2=true:=xV hp;obtain⟨a1,a2,a3⟩:=P1.pure h1;obtain⟨b1,b2,b3⟩:=P2.pure h2;exact⟨b1.trans a1,b2.trans a2,λa o q=>b3 a o (a3 a o q)⟩
def Ow.over{R2:Nat->AS}(P1:EnvOk K ds1 (U F1 Ox) H1 σ en1 R1)(P2:Post K p2 ds2 (U F1 Ox) σ H1 en1 R1 en2 H2 R2 F2)(h:Ow K (Own R1 (U F1 Ox)) H1 t d v F1):
  Ow K (Own R2 (U (U F1 F2) Ox)) H2 t d v F1:=by
 refine Ow.mv (G:=F1) ⟨λa o q z=>P2.keep a o q λi zi=>?_,λa z=>?_⟩ t (λ_ z=>z) h
 .rcases z with z|z
  .exact z (.inl ⟨i,zi⟩)
  .exact P1.dx i a zi (.inl z)
 .rcases z with z | (z|z)|z
  .rcases P2.own a (.inr z)with z|z
   .exact .inl (.inl z)
   .exact .inr z
  .exact .inl (.inr (.inl z))
  .rcases P2.own a (.inl z)with z|z
   .exact .inl (.inl z)
   .exact .inr z
  .exact .inl (.inr (.inr z))
def lS:U F2 (U F1 Ox)=U (U F1 F2) Ox:=jm λa=>by unfold U;exact⟨λz=>by rcases z with z|z|z;exact .inl (.inr z);exact .inl (.inl z);exact .inr z,λz=>by rcases z with (z|z)|z;exact .inr (.inl z);exact .inl z;exact .inr (.inr z)⟩
def two{f g:En->Option (D×En)}{Q:V->V->Hp->Prop}(e:EnvOk K ds Ox H σ en R)(h1:f en=some (t1,en1))(h2:g en1=some (t2,en2))
  (k:∀x y H2 R2 F1 F2,Post K (p1&&p2) ds2 Ox σ H en R en2 H2 R2 (U F1 F2)->Ow K (Own R2 (U (U F1 F2) Ox)) H2 t1 d1 x F1->Ow K (Own R2 (U (U F1 F2) Ox)) H2 t2 d2 y F2->Q x y H2):
  tF K p1 ds ds1 d1 f σ H λx H1=>tF K p2 ds1 ds2 d2 g σ H1 λy H2=>Q x y H2:=by
 refine⟨Ox,en,R,t1,en1,e,h1,λx H1 R1 F1 P1 o1=>?_⟩;refine⟨U F1 Ox,en1,R1,t2,en2,P1.env,h2,λy H2 R2 F2 P2 o2=>?_⟩;exact k x y H2 R2 F1 F2 (P1.trans P2) (Ow.over P1.env P2 o1) (lS▸o2)
abbrev ME:=En->Option (D×En)
variable{f f1 f2 fe:ME}
abbrev MT:=En->Option (Bool×En)
variable{c1 c2:MT}
abbrev MA:=En->Option (List (D ⊕ Nat)×En)
variable{fa:MA}
noncomputable def ac(i:Nat):ME:=λen=>(en[i]?).join.map λt=>(t,en)
noncomputable def eMv(i:Nat):ME:=λen=>(en[i]?).join.map λt=>(t,en.set i none)
noncomputable def eC(t:D):ME:=λen=>some (t,en)
noncomputable def e1(g:D->Option D)(f:ME):ME:=λen=>(f en).bind λr=>(g r.1).map λt=>(t,r.2)
noncomputable def e2(g:D->D->Option D)(f1 f2:ME):ME:=λen=>(f1 en).bind λr=>(f2 r.2).bind λq=>(g r.1 q.1).map λt=>(t,q.2)
noncomputable def kE(f g:ME):ME:=λen=>(f en).bind λr=>match r.1 with
 |.bool true=>g r.2
 |.bool false=>some (.bool false,r.2)
 |_=>none
noncomputable def eOr(f g:ME):ME:=λen=>(f en).bind λr=>match r.1 with
 |.bool true=>some (.bool true,r.2)
 |.bool false=>g r.2
 |_=>none
noncomputable def nV(f:ME):ME:=λen=>(f en).bind λr=>match r.1 with
 |.bool b=>some (.bool (!b),r.2)
 |_=>none
noncomputable def eIf(c:MT)(f g:ME):ME:=λen=>(c en).bind λr=>if r.1 then f r.2 else g r.2
noncomputable def tV(f:ME):MT:=λen=>(f en).bind λr=>match r.1 with
 |.bool b=>some (b,r.2)
 |_=>none
noncomputable def fX(f g:MT):MT:=λen=>(f en).bind λr=>if r.1 then g r.2 else some (false,r.2)
noncomputable def bOr(f g:MT):MT:=λen=>(f en).bind λr=>if r.1 then some (true,r.2)else g r.2
noncomputable def jC(f:MT):MT:=λen=>(f en).map λr=>(!r.1,r.2)
noncomputable def ai:MA:=λen=>some ([],en)
noncomputable def ae(f:ME)(r:MA):MA:=λen=>(f en).bind λx=>(r x.2).map λy=>(.inl x.1::y.1,y.2)
noncomputable def aY(i:Nat)(r:MA):MA:=λen=>(en[i]?).join.bind λ_=>(r en).map λy=>(.inr i::y.1,y.2)
noncomputable def vals:List (D ⊕ Nat)->Option (List D)
 |[]=>some []
 |.inl t::r=>(vals r).map (t::·)
 |.inr _::_=>none
def eN(g:List D->Option D)(fa:MA):ME:=λen=>(fa en).bind λr=>(vals r.1).bind λts=>(g ts).map λt=>(t,r.2)
structure NewTo(H H':Hp)(F:AS):Prop where
 l:∀a o,H a=some o->H' a=some o
 r:∀a,F a->H a=none/\∃o,H' a=some o
noncomputable def NoA:AS:=λ_=>False
def fC{A:AS}:U NoA A=A:=jm λa=>⟨λz=>z.elim (λz=>z.elim) id,.inr⟩
inductive rF1(K:zbU)(g:D->Option D)(d:Nat)(x:V)(H:Hp)(Q:VK):Prop
 |mk (O:AS) (a t:D) (h0:Ow K O H a 0 x NoA) (h1:(∀a,O a->∃o,H a=some o)) (h2:g a=some t) (h3:∀v H' F,NewTo H H' F->Ow K (U F O) H' t d v F->Q v H')
inductive rF2(K:zbU)(g:D->D->Option D)(d:Nat)(x:V)(y:V)(H:Hp)(Q:VK):Prop
 |mk (O:AS) (a b t:D) (h0:Ow K O H a 0 x NoA) (h1:Ow K O H b 0 y NoA) (h2:(∀a,O a->∃o,H a=some o)) (h3:g a b=some t) (h4:∀v H' F,NewTo H H' F->Ow K (U F O) H' t d v F->Q v H')
inductive rFn(K:zbU)(g:List D->Option D)(d:Nat)(xs:List V)(H:Hp)(Q:VK):Prop
 |mk (O:AS) (ts:List D) (t:D) (h0:Ows K O H ts 0 xs NoA) (h1:(∀a,O a->∃o,H a=some o)) (h2:g ts=some t) (h3:∀v H' F,NewTo H H' F->Ow K (U F O) H' t d v F->Q v H')
section
variable{fa fb:ME}
def pL{F:AS}:U F (Own R Ox)=Own R (U F Ox):=jm λa=>by
 unfold U Own;exact⟨λz=>by rcases z with z|z|z;exact .inr (.inl z);exact .inl z;exact .inr (.inr z),λz=>by rcases z with z|z|z;exact .inr (.inl z);exact .inl z;exact .inr (.inr z)⟩
def Post.fin{F:AS}(P:Post K p ds' Ox σ H en R en' H1 R' F0)(n:NewTo H1 H' F):Post K p ds' Ox σ H en R en' H' R' F:=by
 have e:=P.env.fewer (Ox':=Ox) λa z=>.inr z;have n1:∀a,H1 a=none->H a=none:=λa z=>by
  cases q:H a with
  |none=>rfl
  |some o=>
   obtain⟨o',q'⟩:=P.dom a o q;rw[z]at q';cases q'
 refine⟨e.grow n.1 n.2,λa z z2=>?_,λa o q nn=>n.1 a o (P.keep a o q nn),λa z=>?_,λa o q=>?_,λhp=>?_⟩
 .obtain⟨o,q⟩:=e.dom a (.inr z2);rw[(n.2 a z).1]at q;cases q
 .rcases z with z|z
  .exact .inr (n1 a (n.2 a z).1)
  .exact P.own a (.inr z)
 .obtain⟨o',q'⟩:=P.dom a o q;exact⟨o',n.1 a o' q'⟩
 .obtain⟨a1,a2,a3⟩:=P.pure hp;exact⟨a1,a2,λa o q=>n.1 a o (a3 a o q)⟩
def Post.less{F:AS}(P:Post K p ds' Ox σ H en R en' H' R' F)(h:∀a,F' a->F a):Post K p ds' Ox σ H en R en' H' R' F':=
 ⟨P.env.fewer λa z=>z.imp (h a) id,λa z=>P.fx a (h a z),P.keep,λa z=>P.own a (z.imp (h a) id),P.dom,P.pure⟩
def Ow.letgo{F:AS}(P:Post K p ds' Ox σ H en R en' H' R' F0)(hf:∀a,F a->F0 a)(h:Ow K (Own R' (U F0 Ox)) H' t d v F):Ow K (Own R' Ox) H' t 0 v NoA:=by
 refine Ow.fz (λa z=>z.imp id .inr) (λa z z2=>?_) h;rcases z2 with⟨i,z2⟩|z2
 .exact P.env.dx i a z2 (.inl (hf a z))
 .exact P.fx a (hf a z) z2
def Post.doms(P:Post K p ds' Ox σ H en R en' H' R' F0):∀a,Own R' Ox a->∃o,H' a=some o:=λa z=>P.env.dom a (z.imp id .inr)
def Ly(hd:ds[i]?=some 0)(h:tF K true ds ds 0 (ac i) σ H Q):cV i σ H Q:=by
 obtain⟨Ox,en,R,t,en',e,hf,k⟩:=h;unfold ac at hf;cases q:en[i]? with
 |none=>rw[q]at hf;cases hf
 |some o=>
  rw[q]at hf;cases o with
  |none=>cases hf
  |some t'=>
   cases hf;obtain⟨v,d,h1,h2,h3⟩:=e.at_ i t q;rw[hd]at h2;cases h2;exact⟨v,h1,k v H R NoA (Post.refl e) (by rw[fC];exact Ow.any0 t h3)⟩
def f_c(hv:∀K O H F,Ow K O H t 3 v F)(h:tF K true ds ds 3 (eC t) σ H Q):tC v σ H Q:=by
 obtain⟨Ox,en,R,t',en',e,hf,k⟩:=h;cases hf;exact k v H R NoA (Post.refl e) (hv _ _ _ _)
def LC(hd:Le4 d' d)(h:tF K p ds ds' d' f σ H Q):tF K p ds ds' d f σ H Q:=by
 obtain⟨Ox,en,R,t,en',e,hf,k⟩:=h;refine⟨Ox,en,R,t,en',e,hf,λv H' R' F P o=>?_⟩;obtain⟨F',s1,s2⟩:=Ow.cut t hd o;refine k v H' R' F' (P.less s1) (s2 _ (λa z=>z.imp id λz=>z.imp (s1 a) id) λa z z2=>?_);rcases z2 with⟨i,z2⟩|z2|z2
 .exact absurd (.inl z) (P.env.dx i a z2)
 .exact z2
 .exact absurd z2 (P.fx a z)
def gS(hp:p'=true->p=true)(h:tF K p' ds ds' d f σ H Q):tF K p ds ds' d f σ H Q:=by
 obtain⟨Ox,en,R,t,en',e,hf,k⟩:=h;exact⟨Ox,en,R,t,en',e,hf,λv H' R' F P o=>k v H' R' F ⟨P.env,P.fx,P.keep,P.own,P.dom,λz=>P.pure (hp z)⟩ o⟩
theorem EnvOk.cut(e:EnvOk K ds Ox H σ en R)(hl:ds0.length=ds.length)(hd:∀(i:Nat) a b,ds0[i]?=some a->ds[i]?=some b->Le4 a b):∃R',(∀i a,R' i a->R i a)/\EnvOk K ds0 Ox H σ en R':=by
 have ch:∀i,∃F':AS,(∀b,F' b->R i b)/\∀t v d0,en[i]?=some (some t)->σ[i]?=some (some v)->ds0[i]?=some d0->∀O':AS,(∀a,O' a->Own R Ox a)->(∀a,R i a->O' a->F' a)->Ow K O' H t d0 v F':=λi=>by
  by_cases h:∃t,en[i]?=some (some t)
  .obtain⟨t,ht⟩:=h;obtain⟨v,d,h1,h2,h3⟩:=e.at_ i t ht;cases q:ds0[i]? with
   |none=>exact⟨NoA,λ_ z=>z.elim,λ_ _ _ _ _ z=>nomatch z⟩
   |some d0=>
    obtain⟨F',s1,s2⟩:=Ow.cut t (hd i d0 d q h2) h3;refine⟨F',s1,λt' v' d0' h1' h2' h3' O'=>?_⟩;rw[ht]at h1';cases h1';rw[h1]at h2';cases h2';cases h3';exact s2 O'
  .exact⟨NoA,λ_ z=>z.elim,λt _ _ ht=>absurd ⟨t,ht⟩ h⟩
 refine⟨λi=>(ch i).choose,λi=>(ch i).choose_spec.1,λi t ht=>?_,λi j a z1 z2=>e.dj i j a ((ch i).choose_spec.1 a z1) ((ch j).choose_spec.1 a z2),λi a z=>e.dx i a ((ch i).choose_spec.1 a z),λa z=>e.dom a (z.imp (λ⟨i,z⟩=>⟨i,(ch i).choose_spec.1 a z⟩) id),e.l1,hl.trans e.l2⟩;obtain⟨v,d,h1,h2,h3⟩:=e.at_ i t ht;have hi:i<ds0.length:=by rw[hl];exact(zah.mp h2).1
 refine⟨v,ds0[i],h1,zak hi,(ch i).choose_spec.2 t v _ ht h1 (zak hi) _ (λa z=>z.imp (λ⟨j,z⟩=>⟨j,(ch j).choose_spec.1 a z⟩) id) λa z z2=>?_⟩;rcases z2 with⟨j,z2⟩|z2
 .have:=e.dj i j a z ((ch j).choose_spec.1 a z2);subst this;exact z2
 .exact absurd z2 (e.dx i a z)
noncomputable def leD:List Nat->List Nat->Bool
 |[],[]=>true
 |a::r,b::s=>decide (Le4 a b)&&leD r s
 |_,_=>false
theorem eK:∀{a b:List Nat},leD a b=true->a.length=b.length/\∀(i:Nat) x y,a[i]?=some x->b[i]?=some y->Le4 x y
 |[],[],_=>⟨rfl,λi x y h=>by simp at h⟩
 |a::r,b::s,h=>by
  unfold leD at h;rw[zbm]at h;obtain⟨h1,h2⟩:=h;obtain⟨h3,h4⟩:=eK h2;refine⟨by rw[zac,zac,h3],λi x y e1 e2=>?_⟩;cases i with
  |zero=>cases e1;cases e2;exact of_decide_eq_true h1
  |succ i=>exact h4 i x y e1 e2
 |[],_::_,h=>nomatch h
 |_::_,[],h=>nomatch h
def L7(hd:leD ds0 ds=true)(h:tF K false ds ds' d f σ H Q):tF K p ds0 ds' d f σ H Q:=by
 obtain⟨Ox,en,R,t,en',e,hf,k⟩:=h;obtain⟨R1,s1,e1⟩:=e.cut (eK hd).1 (eK hd).2;refine⟨Ox,en,R1,t,en',e1,hf,λv H' R' F P o=>k v H' R' F ⟨P.env,P.fx,λa o q n=>P.keep a o q λi z=>n i (s1 i a z),λa z=>(P.own a z).imp (λ⟨i,z⟩=>⟨i,s1 i a z⟩) id,P.dom,λz=>nomatch z⟩ o⟩
def LL(hd:leD ds0 ds=true)(h:tF K true ds ds 3 f σ H Q):tF K true ds0 ds0 3 f σ H Q:=by
 obtain⟨Ox,en,R,t,en',e,hf,k⟩:=h;obtain⟨R1,s1,e1⟩:=e.cut (eK hd).1 (eK hd).2;refine⟨Ox,en,R1,t,en',e1,hf,λv H' R' F P o=>?_⟩;obtain⟨a1,a2,a3⟩:=P.pure rfl;subst a1 a2;have nf:∀a,F a->H a=none:=λa z=>by
  rcases P.own a (.inl z)with⟨i,z2⟩|z2
  .exact absurd (.inl z) (P.env.dx i a z2)
  .exact z2
 have nt:NewTo H H' F:=⟨a3,λa z=>⟨nf a z,P.env.dom a (.inr (.inl z))⟩⟩;exact k v H' R F (Post.new e nt.1 nt.2) (Ow.full t o)
def LD{g:D->Option D}(h:tF K p ds ds1 d (e1 g f) σ H Q):tUn (rF1 K g d) (tF K p ds ds1 d1 f) σ H Q:=by
 obtain⟨Ox,en,R,t,en',e,hf,k⟩:=h;unfold e1 at hf;obtain⟨⟨t1,en1⟩,h1,hf⟩:=zaa.mp hf;obtain⟨t',h3,hf⟩:=zab.mp hf;cases hf;refine⟨Ox,en,R,t1,en1,e,h1,λv H' R' F P o=>?_⟩;refine⟨Own R' Ox,t1,t,Ow.letgo P (λ_ z=>z) o,P.doms,h3,λv2 H2 F2 n o2=>k v2 H2 R' F2 (P.fin n) (pL▸o2)⟩
def mG(h:tF K (p1&&p2) ds ds2 d (e2 g f1 f2) σ H Q):tOp (rF2 K g d) (tF K p1 ds ds1 d1 f1) (tF K p2 ds1 ds2 d2 f2) σ H Q:=by
 obtain⟨Ox,en,R,t,en',e,hf,k⟩:=h;unfold e2 at hf;obtain⟨⟨t1,en1⟩,h1,hf⟩:=zaa.mp hf;obtain⟨⟨t2,en2⟩,h2,hf⟩:=zaa.mp hf;obtain⟨t',h3,hf⟩:=zab.mp hf;cases hf;refine two e h1 h2 λx y H2 R2 F1 F2 P o1 o2=>?_;exact⟨Own R2 Ox,t1,t2,t,Ow.letgo P (λ_=>.inl) o1,Ow.letgo P (λ_=>.inr) o2,P.doms,h3,λv2 H3 F3 n o3=>k v2 H3 R2 F3 (P.fin n) (pL▸o3)⟩
def Post.after{R2:Nat->AS}{F:AS}(P1:Post K p1 ds1 Ox σ H en R en1 H1 R1 F1)(P2:Post K p2 ds2 Ox σ H1 en1 R1 en2 H' R2 F):Post K (p1&&p2) ds2 Ox σ H en R en2 H' R2 F:=by
 have P1':=P1.less (F':=NoA) λ_ z=>z.elim;have P2':Post K p2 ds2 (U NoA Ox) σ H1 en1 R1 en2 H' R2 F:=by rw[fC];exact P2
 have:=P1'.trans P2';rw[fC]at this;exact this
def Post.env0{F:AS}(P:Post K p ds' Ox σ H en R en' H' R' F):EnvOk K ds' Ox H' σ en' R':=P.env.fewer λa z=>.inr z
def LN(h:tF K (p1&&p2) ds ds1 d (kE f1 f2) σ H Q):Eo (tF K p1 ds ds1 d1 f1) (tF K p2 ds1 ds1 d f2) σ H Q:=by
 obtain⟨Ox,en,R,t,en',e,hf,k⟩:=h;unfold kE at hf;obtain⟨⟨t1,en1⟩,h1,hf⟩:=zaa.mp hf;refine⟨Ox,en,R,t1,en1,e,h1,λv H1 R1 F1 P1 o1=>?_⟩;cases t1 with
 |bool b=>
  have ev:v=.bl b:=o1;refine⟨b,ev,?_⟩;cases b with
  |true=>
   rw[if_pos rfl];exact⟨Ox,en1,R1,t,en',P1.env0,hf,λv2 H2 R2 F2 P2 o2=>k v2 H2 R2 F2 (P1.after P2) o2⟩
  |false=>
   cases hf;rw[if_neg zbn];refine k _ H1 R1 NoA ?_ rfl
   have:=(P1.less (F':=NoA) λ_ z=>z.elim);exact⟨this.env,this.fx,this.keep,this.own,this.dom,λhp=>this.pure (n6 hp)⟩
 |_=>cases hf
def LE(h:tF K p ds ds1 3 (nV f) σ H Q):Eh (tF K p ds ds1 d1 f) σ H Q:=by
 obtain⟨Ox,en,R,t,en',e,hf,k⟩:=h;unfold nV at hf;obtain⟨⟨t1,en1⟩,h1,hf⟩:=zaa.mp hf;refine⟨Ox,en,R,t1,en1,e,h1,λv H1 R1 F1 P1 o1=>?_⟩;cases t1 with
 |bool b=>
  cases hf;exact⟨b,o1,k _ H1 R1 NoA (P1.less λ_ z=>z.elim) rfl⟩
 |_=>cases hf
inductive tFT(K:zbU)(p:Bool)(ds ds':List Nat)(f:MT)(σ:St)(H:Hp)(Q:Bool->Hp->Prop):Prop
 |mk (Ox:AS) (en:En) (R:Nat->AS) (b:Bool) (en':En) (h0:EnvOk K ds Ox H σ en R) (h1:f en=some (b,en')) (h2:∀H' R',Post K p ds' Ox σ H en R en' H' R' NoA->Q b H')
variable{c:MT}{QT:Bool->Hp->Prop}
def pd(h:tFT K p ds ds' (tV f) σ H QT):tB (tF K p ds ds' d f) σ H QT:=by
 obtain⟨Ox,en,R,b,en',e,hf,k⟩:=h;unfold tV at hf;obtain⟨⟨t1,en1⟩,h1,hf⟩:=zaa.mp hf;refine⟨Ox,en,R,t1,en1,e,h1,λv H1 R1 F1 P1 o1=>?_⟩;cases t1 with
 |bool b=>
  cases hf;exact⟨_,o1,k H1 R1 (P1.less λ_ z=>z.elim)⟩
 |_=>cases hf
def Kh(h:tFT K (p1&&p2) ds ds1 (fX c1 c2) σ H QT):Je (tFT K p1 ds ds1 c1) (tFT K p2 ds1 ds1 c2) σ H QT:=by
 obtain⟨Ox,en,R,b,en',e,hf,k⟩:=h;unfold fX at hf;obtain⟨⟨b1,en1⟩,h1,hf⟩:=zaa.mp hf;refine⟨Ox,en,R,b1,en1,e,h1,λH1 R1 P1=>?_⟩;cases b1 with
 |true=>
  rw[if_pos rfl];exact⟨Ox,en1,R1,b,en',P1.env0,hf,λH2 R2 P2=>k H2 R2 (P1.after P2)⟩
 |false=>
  cases hf;rw[if_neg zbn];exact k H1 R1 ⟨P1.env,P1.fx,P1.keep,P1.own,P1.dom,λhp=>P1.pure (n6 hp)⟩
def Lr(h:tFT K (p1&&p2) ds ds1 (bOr c1 c2) σ H QT):tOr (tFT K p1 ds ds1 c1) (tFT K p2 ds1 ds1 c2) σ H QT:=by
 obtain⟨Ox,en,R,b,en',e,hf,k⟩:=h;unfold bOr at hf;obtain⟨⟨b1,en1⟩,h1,hf⟩:=zaa.mp hf;refine⟨Ox,en,R,b1,en1,e,h1,λH1 R1 P1=>?_⟩;cases b1 with
 |false=>
  rw[if_neg zbn];exact⟨Ox,en1,R1,b,en',P1.env0,hf,λH2 R2 P2=>k H2 R2 (P1.after P2)⟩
 |true=>
  cases hf;rw[if_pos rfl];exact k H1 R1 ⟨P1.env,P1.fx,P1.keep,P1.own,P1.dom,λhp=>P1.pure (n6 hp)⟩
def Kf(h:tFT K p ds ds1 (jC c) σ H QT):Ja (tFT K p ds ds1 c) σ H QT:=by
 obtain⟨Ox,en,R,b,en',e,hf,k⟩:=h;unfold jC at hf;obtain⟨⟨b1,en1⟩,h1,hf⟩:=zab.mp hf;cases hf;exact⟨Ox,en,R,b1,_,e,h1,λH1 R1 P1=>k H1 R1 P1⟩
def Kg(hd:leD ds0 ds=true)(h:tFT K true ds ds c σ H QT):tFT K true ds0 ds0 c σ H QT:=by
 obtain⟨Ox,en,R,t,en',e,hf,k⟩:=h;obtain⟨R1,s1,e1⟩:=e.cut (eK hd).1 (eK hd).2;refine⟨Ox,en,R1,t,en',e1,hf,λH' R' P=>?_⟩;obtain⟨a1,a2,a3⟩:=P.pure rfl;subst a1 a2;exact k H' R (Post.new e a3 λ_ z=>z.elim)
def L6(h:tF K (p&&(p1&&p2)) ds ds2 d (eIf c f1 f2) σ H Q):tIf (tFT K p ds ds1 c) (tF K p1 ds1 ds2 d f1) (tF K p2 ds1 ds2 d f2) σ H Q:=by
 obtain⟨Ox,en,R,t,en',e,hf,k⟩:=h;unfold eIf at hf;obtain⟨⟨b1,en1⟩,h1,hf⟩:=zaa.mp hf;refine⟨Ox,en,R,b1,en1,e,h1,λH1 R1 P1=>?_⟩;cases b1 with
 |true=>
  rw[if_pos rfl];refine⟨Ox,en1,R1,t,en',P1.env0,hf,λv H2 R2 F2 P2 o2=>k v H2 R2 F2 ?_ o2⟩
  have:=P1.after P2;exact⟨this.env,this.fx,this.keep,this.own,this.dom,λhp=>this.pure (by rw[n6 hp,n6 (xV hp)];rfl)⟩
 |false=>
  rw[if_neg zbn];refine⟨Ox,en1,R1,t,en',P1.env0,hf,λv H2 R2 F2 P2 o2=>k v H2 R2 F2 ?_ o2⟩
  have:=P1.after P2;exact⟨this.env,this.fx,this.keep,this.own,this.dom,λhp=>this.pure (by rw[n6 hp,xV (xV hp)];rfl)⟩
end
abbrev Sh:=List (Nat ⊕ Nat)
variable{sh:Sh}
def OwA(K:zbU)(O:AS)(H:Hp)(σ:St):List (D ⊕ Nat)->Sh->List V->AS->Prop
 |[],ds,vs,_=>ds=[]/\vs=[]
 |.inl t::as,ds,vs,F=>∃v r d dr,∃F1 F2:AS,vs=v::r/\ds=.inl d::dr/\(∀b,F1 b->F b)/\(∀b,F2 b->F b)/\(∀b,F1 b->¬F2 b)/\Ow K O H t d v F1/\OwA K O H σ as dr r F2
 |.inr i::as,ds,vs,F=>∃v r dr,vs=v::r/\ds=.inr i::dr/\σ[i]?=some (some v)/\OwA K O H σ as dr r F
inductive tFA(K:zbU)(p:Bool)(ds ds':List Nat)(sh:Sh)(f:MA)(σ:St)(H:Hp)(Q:List V->Hp->Prop):Prop
 |mk (Ox:AS) (en:En) (R:Nat->AS) (as:List (PyData ⊕ Nat)) (en':En) (h0:EnvOk K ds Ox H σ en R) (h1:f en=some (as,en')) (h2:∀vs H' R' F,Post K p ds' Ox σ H en R en' H' R' F->OwA K (Own R' (U F Ox)) H' σ as sh vs F->Q vs H')
def bt(fa:MA):ME:=λen=>(fa en).bind λr=>(vals r.1).bind λts=>if ts.length<=sizeLine then some (.list ts,r.2)else none
def eF(fa:MA):ME:=λen=>(fa en).bind λr=>(vals r.1).bind λts=>if ts.length<=sizeLine then some (.tuple ts,r.2)else none
section
variable{QA:List V->Hp->Prop} 
def pq(h:tFA K true ds ds [] ai σ H QA):p9 σ H QA:=by
 obtain⟨Ox,en,R,as,en',e,hf,k⟩:=h;cases hf;exact k [] H R NoA (Post.refl e) ⟨rfl,rfl⟩
def mF(h:tFA K (p1&&p2) ds ds2 (.inl d::sh) (ae f fa) σ H QA):mr (tF K p1 ds ds1 d f) (tFA K p2 ds1 ds2 sh fa) σ H QA:=by
 obtain⟨Ox,en,R,as,en',e,hf,k⟩:=h;unfold ae at hf;obtain⟨⟨t1,en1⟩,h1,hf⟩:=zaa.mp hf;obtain⟨⟨as2,en2⟩,h2,hf⟩:=zab.mp hf;cases hf;refine⟨Ox,en,R,t1,en1,e,h1,λx H1 R1 F1 P1 o1=>?_⟩;refine⟨U F1 Ox,en1,R1,as2,en2,P1.env,h2,λvs H2 R2 F2 P2 o2=>?_⟩;refine k (x::vs) H2 R2 (U F1 F2) (P1.trans P2) ⟨x,vs,d,sh,F1,F2,rfl,rfl,λ_=>.inl,λ_=>.inr,λb z1 z2=>P2.fx b z2 (.inl z1),Ow.over P1.env P2 o1,?_⟩;rw[<-lS];exact o2
def wg(h:tFA K p ds ds2 (.inr i::sh) (aY i fa) σ H QA):mr (cV i) (tFA K p ds ds2 sh fa) σ H QA:=by
 obtain⟨Ox,en,R,as,en',e,hf,k⟩:=h;unfold aY at hf;obtain⟨t0,h0,hf⟩:=zaa.mp hf;obtain⟨⟨as2,en2⟩,h2,hf⟩:=zab.mp hf;cases hf;have q:en[i]?=some (some t0):=by
  cases q:en[i]? with
  |none=>rw[q]at h0;cases h0
  |some o=>rw[q]at h0;exact congrArg some h0
 obtain⟨v,d,h1,_⟩:=e.at_ i t0 q;exact⟨v,h1,Ox,en,R,as2,en2,e,h2,λvs H2 R2 F2 P2 o2=>k (v::vs) H2 R2 F2 P2 ⟨v,vs,sh,rfl,rfl,h1,o2⟩⟩
noncomputable def bL(c:Nat):Sh->Bool
 |[]=>true
 |.inl d::r=>decide (Le4 c d)&&bL c r
 |.inr _::_=>false
theorem OwA.ows:∀{as:List (D ⊕ Nat)} {sh:Sh} {vs:List V} {F:AS} {ts:List D} {c:Nat},bL c sh=true->vals as=some ts->OwA K O H σ as sh vs F ->
  ∃F':AS,(∀b,F' b->F b)/\∀O':AS,(∀a,O' a->O a)->(∀a,F a->O' a->F' a)->Ows K O' H ts c vs F'
 |[],_,_,F,ts,c,_,hv,h=>by
  cases hv;exact⟨F,λ_ z=>z,λ_ _ _=>h.2⟩
 |.inl t::as,_,_,F,ts,c,hs,hv,h=>by
  obtain⟨v,r,d,dr,F1,F2,e1,e2,s1,s2,s3,h1,h2⟩:=h;subst e1 e2;unfold vals at hv;obtain⟨ts',hv',e⟩:=zab.mp hv;subst e;unfold bL at hs;rw[zbm]at hs;obtain⟨G1,a1,a2⟩:=Ow.cut t (of_decide_eq_true hs.1) h1;obtain⟨G2,b1,b2⟩:=OwA.ows hs.2 hv' h2;refine⟨λb=>G1 b\/G2 b,λb hb=>hb.elim (λz=>s1 _ (a1 _ z)) λz=>s2 _ (b1 _ z),λO' ho hx=>⟨v,r,G1,G2,rfl,λb=>.inl,λb=>.inr,λb z1 z2=>s3 b (a1 b z1) (b1 b z2),a2 O' ho λb hb hz=>?_,b2 O' ho λb hb hz=>?_⟩⟩
  .exact(hx b (s1 b hb) hz).elim id λz=>absurd (b1 b z) (s3 b hb)
  .exact(hx b (s2 b hb) hz).elim (λz=>absurd hb (s3 b (a1 b z))) id
 |.inr i::as,_,_,F,ts,c,_,hv,_=>by cases hv
theorem OwA.len:∀{as:List (D ⊕ Nat)} {sh:Sh} {vs:List V} {F:AS},OwA K O H σ as sh vs F->vs.length=as.length
 |[],_,_,_,h=>by rw[h.2];rfl
 |.inl t::as,_,_,_,h=>by
  obtain⟨v,r,d,dr,F1,F2,e1,e2,s1,s2,s3,h1,h2⟩:=h;rw[e1,zac,zac,h2.len]
 |.inr i::as,_,_,_,h=>by
  obtain⟨v,r,dr,e1,e2,e3,h2⟩:=h;rw[e1,zac,zac,h2.len]
theorem nk:∀{as:List (D ⊕ Nat)} {ts:List D},vals as=some ts->ts.length=as.length
 |[],_,h=>by cases h;rfl
 |.inl t::as,_,h=>by
  unfold vals at h;obtain⟨ts',hv',e⟩:=zab.mp h;subst e;rw[zac,zac,nk hv']
 |.inr _::_,_,h=>by cases h
def ur{g:List D->Option D}(hs:bL 0 sh=true)(h:tF K p ds ds1 d (eN g fa) σ H Q):tCB (rFn K g d) (tFA K p ds ds1 sh fa) σ H Q:=by
 obtain⟨Ox,en,R,t,en',e,hf,k⟩:=h;unfold eN at hf;obtain⟨⟨as,en1⟩,h1,hf⟩:=zaa.mp hf;obtain⟨ts,h2,hf⟩:=zaa.mp hf;obtain⟨t',h3,hf⟩:=zab.mp hf;cases hf;refine⟨Ox,en,R,as,en1,e,h1,λvs H1 R1 F P o=>?_⟩;obtain⟨F',s1,s2⟩:=OwA.ows hs h2 o;have o2:Ows K (Own R1 Ox) H1 ts 0 vs F':=s2 _ (λa z=>z.imp id .inr) λa z z2=>by
  rcases z2 with⟨i,z2⟩|z2
  .exact absurd (.inl z) (P.env.dx i a z2)
  .exact absurd z2 (P.fx a z)
 exact⟨Own R1 Ox,ts,t,Ows.any0 ts o2,P.doms,h3,λv2 H2 F2 n o2=>k v2 H2 R1 F2 (P.fin n) (pL▸o2)⟩
def Post.add{F:AS}(P:Post K p ds' Ox σ H en R en' H1 R' F)(n:NewTo H1 H' G):Post K p ds' Ox σ H en R en' H' R' (U F G):=by
 have P2:Post K true ds' (U F Ox) σ H1 en' R' en' H' R' G:=Post.new P.env n.1 n.2
 have:=P.trans P2;rw[zbS]at this;exact this
def bJ(hl:H l=none):NewTo H (upd H l o) (λb=>b=l):=by
 refine⟨λa u q=>?_,λa z=>?_⟩
 .rw[az]
  .exact q
  .intro z;subst z;rw[hl]at q;cases q
 .subst z;exact⟨hl,_,aF⟩
def LF(hs:bL c sh=true)(hd:dn d=c)(hz:d≠0)(h:tF K p ds ds1 d (bt fa) σ H Q):Jb (tFA K p ds ds1 sh fa) σ H Q:=by
 obtain⟨Ox,en,R,t,en',e,hf,k⟩:=h;unfold bt at hf;obtain⟨⟨as,en1⟩,h1,hf⟩:=zaa.mp hf;obtain⟨ts,h2,hf⟩:=zaa.mp hf;by_cases ξ:ts.length<=sizeLine
 case neg=>rw[if_neg ξ]at hf;cases hf
 rw[if_pos ξ]at hf;cases hf;refine⟨Ox,en,R,as,en1,e,h1,λvs H1 R1 F P o=>⟨?_,λl hl=>?_⟩⟩
 .rw[o.len,<-nk h2];exact ξ
 obtain⟨F',s1,s2⟩:=OwA.ows hs h2 o;have o2:=s2 (Own R1 (U F' Ox)) (λa z=>z.imp id λz=>z.imp (s1 a) id) λa z z2=>by
  rcases z2 with⟨i,z2⟩|z2|z2
  .exact absurd (.inl z) (P.env.dx i a z2)
  .exact z2
  .exact absurd z2 (P.fx a z)
 have P':=(P.less s1).add (bJ (o:=.lst vs) hl);have nl:∀a,F' a->a≠l:=λa z z2=>by
  subst z2;obtain⟨o',q⟩:=P.env.dom a (.inr (.inl (s1 a z)));rw[hl]at q;cases q
 refine k (.ref l) (upd H1 l (.lst vs)) R1 _ P' ⟨l,vs,rfl,.inr ⟨hz,aF,.inr rfl,F',λb z=>⟨.inl z,nl b z⟩,?_⟩⟩;rw[hd];refine Ows.mv (G:=F') ⟨λa o q _=>(bJ (o:=.lst vs) hl).1 a o q,λa z=>?_⟩ ts (λ_ z=>z) o2;rcases z with z | (z|z)|z
 .exact .inl (.inl z)
 .exact .inl (.inr (.inl z))
 .exact .inr (by rw[show a=l from z];exact hl)
 .exact .inl (.inr (.inr z))
def Lz(hs:bL c sh=true)(hd:dn d=c)(h:tF K p ds ds1 d (eF fa) σ H Q):IZ (tFA K p ds ds1 sh fa) σ H Q:=by
 obtain⟨Ox,en,R,t,en',e,hf,k⟩:=h;unfold eF at hf;obtain⟨⟨as,en1⟩,h1,hf⟩:=zaa.mp hf;obtain⟨ts,h2,hf⟩:=zaa.mp hf;by_cases ξ:ts.length<=sizeLine
 case neg=>rw[if_neg ξ]at hf;cases hf
 rw[if_pos ξ]at hf;cases hf;refine⟨Ox,en,R,as,en1,e,h1,λvs H1 R1 F P o=>⟨?_,λl hl=>?_⟩⟩
 .rw[o.len,<-nk h2];exact ξ
 obtain⟨F',s1,s2⟩:=OwA.ows hs h2 o;have o2:=s2 (Own R1 (U F' Ox)) (λa z=>z.imp id λz=>z.imp (s1 a) id) λa z z2=>by
  rcases z2 with⟨i,z2⟩|z2|z2
  .exact absurd (.inl z) (P.env.dx i a z2)
  .exact z2
  .exact absurd z2 (P.fx a z)
 have nl:∀a,Own R1 (U F' Ox) a->a≠l:=λa z z2=>by
  subst z2;obtain⟨o',q⟩:=P.env.dom a (z.imp id λz=>z.imp (s1 a) id);rw[hl]at q;cases q
 by_cases hz:d=0
 .subst hz;have P':=(P.less s1).add (G:=NoA) (H':=upd H1 l (.tup vs)) ⟨(bJ (o:=.tup vs) hl).1,λ_ z=>z.elim⟩;have eq:U F' NoA=F':=jm λa=>⟨λz=>z.elim id λz=>z.elim,.inl⟩;rw[eq]at P';refine k (.ref l) (upd H1 l (.tup vs)) R1 _ P' ⟨l,vs,rfl,.inl ⟨rfl,⟨aF,λz=>nl l z rfl⟩,?_⟩⟩;have hc:c=0:=hd.symm;subst hc;exact Ows.mv (G:=F') ⟨λa o q _=>(bJ (o:=.tup vs) hl).1 a o q,λa z=>.inl z⟩ ts (λ_ z=>z) o2
 .have P':=(P.less s1).add (bJ (o:=.tup vs) hl);refine k (.ref l) (upd H1 l (.tup vs)) R1 _ P' ⟨l,vs,rfl,.inr ⟨hz,aF,.inr rfl,F',λb z=>⟨.inl z,nl b (.inr (.inl z))⟩,?_⟩⟩;rw[hd];refine Ows.mv (G:=F') ⟨λa o q _=>(bJ (o:=.tup vs) hl).1 a o q,λa z=>?_⟩ ts (λ_ z=>z) o2;rcases z with z | (z|z)|z
  .exact .inl (.inl z)
  .exact .inl (.inr (.inl z))
  .exact .inr (by rw[show a=l from z];exact hl)
  .exact .inl (.inr (.inr z))
end
def spF(K:zbU)(dps:List Nat)(dr:Nat)(F:List D->Option (D×En)):Sp:=λvs H Q _=>
 ∃Ox ts R r ψ,EnvOk K dps Ox H (vs.map some) (ts.map some) R/\F ts=some (r,ψ) /\
  ∀v H' R' Fr,Post K false dps Ox (vs.map some) H (ts.map some) R ψ H' R' Fr->Ow K (Own R' (U Fr Ox)) H' r dr v Fr->Q v H'
noncomputable def fB:List (D ⊕ Nat)->En->Option (List D)
 |[],_=>some []
 |.inl t::r,en=>(fB r en).map (t::·)
 |.inr i::r,en=>(en[i]?).join.bind λt=>(fB r en).map (t::·)
noncomputable def wb:List (D ⊕ Nat)->En->En->En
 |.inr i::r,o::ψ,en=>wb r ψ (en.set i o)
 |.inl _::r,_::ψ,en=>wb r ψ en
 |_,_,en=>en
def aw(F:List D->Option (D×En))(fa:MA):ME:=λen=>(fa en).bind λr=>(fB r.1 r.2).bind λts=>(F ts).map λq=>(q.1,wb r.1 q.2 r.2)
noncomputable def jO:Sh->List Nat
 |[]=>[]
 |.inl _::r=>jO r
 |.inr i::r=>i::jO r
def cA(ds:List Nat):Sh->List Nat->Bool
 |[],[]=>true
 |.inl d::r,q::s=>decide (d=q)&&cA ds r s
 |.inr i::r,q::s=>decide (ds[i]?=some q)&&(decide (i∉jO r)&&cA ds r s)
 |_,_=>false
noncomputable def e8:Sh->Bool
 |[]=>true
 |.inl _::r=>e8 r
 |.inr _::_=>false
section
variable{QA:List V->Hp->Prop} 
theorem OwA.parts:∀{as:List (D ⊕ Nat)} {sh:Sh} {vs:List V} {F:AS},OwA K O H σ as sh vs F ->
  ∃Rp:Nat->AS,(∀(j:Nat) t,as[j]?=some (.inl t)->∃v d,vs[j]?=some v/\sh[j]?=some (.inl d)/\Ow K O H t d v (Rp j))/\(∀(j i:Nat),as[j]?=some (.inr i)->∃v,vs[j]?=some v/\sh[j]?=some (.inr i)/\σ[i]?=some (some v)) /\
   (∀j a,Rp j a->F a)/\(∀j j' a,Rp j a->Rp j' a->j=j')
 |[],sh,vs,F,h=>⟨λ_=>NoA,λj t z=>by simp at z,λj i z=>by simp at z,λ_ _ z=>z.elim,λ_ _ _ z=>z.elim⟩
 |.inl t::as,sh,vs,F,h=>by
  obtain⟨v,r,d,dr,F1,F2,e1,e2,s1,s2,s3,h1,h2⟩:=h;subst e1 e2;obtain⟨Rp,a1,a2,a3,a4⟩:=h2.parts;refine⟨λj=>match j with|0=>F1|j+1=>Rp j,λj u hj=>?_,λj i hj=>?_,λj a z=>?_,λj j' a z z'=>?_⟩
  .cases j with
   |zero=>
    have:t=u:=by simpa using hj
    subst this;exact⟨v,d,rfl,rfl,h1⟩
   |succ j=>exact a1 j u (by simpa using hj)
  .cases j with
   |zero=>simp at hj
   |succ j=>exact a2 j i (by simpa using hj)
  .cases j with
   |zero=>exact s1 a z
   |succ j=>exact s2 a (a3 j a z)
  .cases j with
   |zero=>
    cases j' with
    |zero=>rfl
    |succ j'=>exact absurd (a3 j' a z') (s3 a z)
   |succ j=>
    cases j' with
    |zero=>exact absurd (a3 j a z) (s3 a z')
    |succ j'=>rw[a4 j j' a z z']
 |.inr i::as,sh,vs,F,h=>by
  obtain⟨v,r,dr,e1,e2,e3,h2⟩:=h;subst e1 e2;obtain⟨Rp,a1,a2,a3,a4⟩:=h2.parts;refine⟨λj=>match j with|0=>NoA|j+1=>Rp j,λj u hj=>?_,λj i' hj=>?_,λj a z=>?_,λj j' a z z'=>?_⟩
  .cases j with
   |zero=>simp at hj
   |succ j=>exact a1 j u (by simpa using hj)
  .cases j with
   |zero=>
    have:i=i':=by simpa using hj
    subst this;exact⟨v,rfl,rfl,e3⟩
   |succ j=>exact a2 j i' (by simpa using hj)
  .cases j with
   |zero=>exact z.elim
   |succ j=>exact a3 j a z
  .cases j with
   |zero=>exact z.elim
   |succ j=>
    cases j' with
    |zero=>exact z'.elim
    |succ j'=>rw[a4 j j' a z z']
theorem nZ:∀{as:List (D ⊕ Nat)} {en:En} {ts:List D},fB as en=some ts->ts.length=as.length/\∀(j:Nat) t,ts[j]?=some t->as[j]?=some (.inl t)\/∃i,as[j]?=some (.inr i)/\en[i]?=some (some t)
 |[],_,_,h=>by cases h;exact⟨rfl,λj t z=>by simp at z⟩
 |.inl t::as,en,_,h=>by
  unfold fB at h;obtain⟨ts',h',e⟩:=zab.mp h;subst e;obtain⟨l,g⟩:=nZ h';refine⟨by rw[zac,zac,l],λj u z=>?_⟩;cases j with
  |zero=>simp at z;subst z;exact .inl rfl
  |succ j=>exact g j u (by simpa using z)
 |.inr i::as,en,_,h=>by
  unfold fB at h;obtain⟨t,ht,h⟩:=zaa.mp h;obtain⟨ts',h',e⟩:=zab.mp h;subst e;obtain⟨l,g⟩:=nZ h';refine⟨by rw[zac,zac,l],λj u z=>?_⟩;cases j with
  |zero=>
   simp at z;subst z;refine .inr ⟨i,rfl,?_⟩;cases q:en[i]? with
   |none=>rw[q]at ht;cases ht
   |some o=>rw[q]at ht;exact congrArg some ht
  |succ j=>exact g j u (by simpa using z)
theorem lO:∀{sh:Sh} {dps:List Nat},cA ds sh dps=true->sh.length=dps.length/\(∀(j d:Nat),sh[j]?=some (.inl d)->dps[j]?=some d)/\(∀(j i:Nat),sh[j]?=some (.inr i)->∃q,dps[j]?=some q/\ds[i]?=some q) /\
   (∀(j j' i:Nat),sh[j]?=some (.inr i)->sh[j']?=some (.inr i)->j=j')
 |[],[],_=>⟨rfl,λj d z=>by simp at z,λj d z=>by simp at z,λj j' d z=>by simp at z⟩
 |.inl d::r,q::s,h=>by
  unfold cA at h;rw[zbm]at h;obtain⟨h1,h2⟩:=h;have h1':=of_decide_eq_true h1;subst h1';obtain⟨l,a,b,c⟩:=lO h2;refine⟨by rw[zac,zac,l],λj u z=>?_,λj i z=>?_,λj j' i z z'=>?_⟩
  .cases j with
   |zero=>simp at z;subst z;rfl
   |succ j=>exact a j u (by simpa using z)
  .cases j with
   |zero=>simp at z
   |succ j=>exact b j i (by simpa using z)
  .cases j with
   |zero=>simp at z
   |succ j=>
    cases j' with
    |zero=>simp at z'
    |succ j'=>rw[c j j' i (by simpa using z) (by simpa using z')]
 |.inr i0::r,q::s,h=>by
  unfold cA at h;rw[zbm,zbm]at h;obtain⟨h1,h2,h3⟩:=h;have h1':=of_decide_eq_true h1;have h2':=of_decide_eq_true h2;obtain⟨l,a,b,c⟩:=lO h3;have mem:∀{r:Sh} {j i:Nat},r[j]?=some (.inr i)->i∈jO r:=λ{r}=>by
   induction r with
   |nil=>intro j i z;simp at z
   |cons x r ih=>
    intro j i z;cases j with
    |zero=>
     simp at z;subst z;unfold jO;exact zaq
    |succ j=>
     have:=ih (j:=j) (i:=i) (by simpa using z);cases x with
     |inl _=>exact this
     |inr _=>exact zaj _ this
  refine⟨by rw[zac,zac,l],λj u z=>?_,λj i z=>?_,λj j' i z z'=>?_⟩
  .cases j with
   |zero=>simp at z
   |succ j=>exact a j u (by simpa using z)
  .cases j with
   |zero=>simp at z;subst z;exact⟨q,rfl,h1'⟩
   |succ j=>exact b j i (by simpa using z)
  .cases j with
   |zero=>
    simp at z;subst z;cases j' with
    |zero=>rfl
    |succ j'=>exact absurd (mem (by simpa using z')) h2'
   |succ j=>
    cases j' with
    |zero=>
     simp at z';subst z';exact absurd (mem (by simpa using z)) h2'
    |succ j'=>rw[c j j' i (by simpa using z) (by simpa using z')]
 |[],_::_,h=>nomatch h
 |.inl _::_,[],h=>nomatch h
 |.inr _::_,[],h=>nomatch h
theorem sE:∀(as:List (D ⊕ Nat)) (ψ en:En),(wb as ψ en).length=en.length
 |[],_,_=>by unfold wb;rfl
 |.inl _::as,[],_=>by unfold wb;rfl
 |.inr _::as,[],_=>by unfold wb;rfl
 |.inl _::as,o::ψ,en=>by unfold wb;exact sE as ψ en
 |.inr i::as,o::ψ,en=>by unfold wb;rw[sE as ψ _,zaU]
theorem jM:∀(as:List (D ⊕ Nat)) (ψ en:En) (i:Nat),(∀j:Nat,as[j]?≠some (.inr i))->(wb as ψ en)[i]?=en[i]?
 |[],_,_,_,_=>by unfold wb;rfl
 |.inl _::as,[],_,_,_=>by unfold wb;rfl
 |.inr _::as,[],_,_,_=>by unfold wb;rfl
 |.inl _::as,o::ψ,en,i,h=>by unfold wb;exact jM as ψ en i λj=>h (j+1)
 |.inr k::as,o::ψ,en,i,h=>by
  unfold wb;rw[jM as ψ _ i λj=>h (j+1),zaN];intro e;subst e;exact h 0 rfl
theorem wA:∀(as:List (D ⊕ Nat)) (ψ en:En) (i j:Nat),as[j]?=some (.inr i)->(∀j':Nat,as[j']?=some (.inr i)->j'=j)->ψ.length=as.length->i<en.length->(wb as ψ en)[i]?=ψ[j]?
 |[],_,_,_,_,h,_,_,_=>by simp at h
 |.inl _::as,[],_,_,_,_,_,h,_=>by simp at h
 |.inr _::as,[],_,_,_,_,_,h,_=>by simp at h
 |.inl _::as,o::ψ,en,i,j,h,u,l,b=>by
  unfold wb;cases j with
  |zero=>simp at h
  |succ j=>exact wA as ψ en i j (by simpa using h) (λj' z=>by have:=u (j'+1) (by simpa using z);lia) (by simpa using l) b
 |.inr k::as,o::ψ,en,i,j,h,u,l,b=>by
  unfold wb;cases j with
  |zero=>
   have e:k=i:=by simpa using h
   subst e;rw[jM as ψ _ k λj' z=>by have:=u (j'+1) (by simpa using z);lia];rw[zaO b];rfl
  |succ j=>exact wA as ψ _ i j (by simpa using h) (λj' z=>by have:=u (j'+1) (by simpa using z);lia) (by simpa using l) (by rw[zaU];exact b)
theorem OwA.shl:∀{as:List (D ⊕ Nat)} {sh:Sh} {vs:List V} {F:AS},OwA K O H σ as sh vs F->sh.length=as.length
 |[],_,_,_,h=>by rw[h.1];rfl
 |.inl t::as,_,_,_,h=>by
  obtain⟨v,r,d,dr,F1,F2,e1,e2,s1,s2,s3,h1,h2⟩:=h;rw[e2,zac,zac,h2.shl]
 |.inr i::as,_,_,_,h=>by
  obtain⟨v,r,dr,e1,e2,e3,h2⟩:=h;rw[e2,zac,zac,h2.shl]
theorem oN:∀{sh:Sh},e8 sh=true->∀(j i:Nat),sh[j]?≠some (.inr i)
 |[],_,j,i,z=>by simp at z
 |.inl _::r,h,j,i,z=>by
  cases j with
  |zero=>simp at z
  |succ j=>exact oN (sh:=r) h j i (by simpa using z)
 |.inr _::r,h,_,_,_=>nomatch h
def Jg{E:XK}{F:List D->Option (D×En)}{as:List (D ⊕ Nat)}{r:D}{ψ:En}(hc:cA ds1 sh dps=true)(P:Post K p ds1 Ox σ H en R en1 H1 R1 F0)(o:OwA K (Own R1 (U F0 Ox)) H1 σ as sh vs F0)(h2:fB as en1=some ts)(h3:F ts=some (r,ψ))
  (k:∀v H' R' F,Post K (p&&e8 sh) ds1 Ox σ H en R (wb as ψ en1) H' R' F->(p=true->∀i0:Nat,(∀j:Nat,sh[j]?≠some (.inr i0))->(∀a o,H a=some o->R i0 a->H' a=some o)/\(wb as ψ en1)[i0]?=en[i0]?)->Ow K (Own R' (U F Ox)) H' r dr v F->Q v H'):spF K dps dr F vs H1 Q E:=by
 obtain⟨cl,c1,c2,c3⟩:=lO hc;obtain⟨Rp,a1,a2,a3,a4⟩:=o.parts;obtain⟨tl,tg⟩:=nZ h2;have ol:=o.len;have asl:∀(j i:Nat),as[j]?=some (.inr i)->sh[j]?=some (.inr i):=λj i z=>(a2 j i z).choose_spec.2.1;have asr:∀(j i:Nat),sh[j]?=some (.inr i)->as[j]?=some (.inr i):=λj i z=>by
  cases q:as[j]? with
  |none=>
   have e1:as.length<=j:=List.getElem?_eq_none_iff.mp q;have e2:j<sh.length:=(zah.mp z).1
   have:=o.shl
   lia
  |some x=>
   cases x with
   |inl t=>
    obtain⟨_,_,_,e2,_⟩:=a1 j t q;rw[z]at e2;cases e2
   |inr i'=>
    have:=asl j i' q;rw[z]at this;cases this;rfl
 let Rq:Nat->AS:=λj=>match sh[j]? with|some (.inr i)=>R1 i|_=>Rp j
 have rq1:∀j i:Nat,sh[j]?=some (.inr i)->Rq j=R1 i:=λj i z=>by show(match sh[j]? with|some (.inr i)=>R1 i|_=>Rp j)=R1 i;rw[z]
 have rq2:∀j:Nat,(∀i:Nat,sh[j]?≠some (.inr i))->Rq j=Rp j:=λj z=>by
  show(match sh[j]? with|some (.inr i)=>R1 i|_=>Rp j)=Rp j;split
  .next i q=>exact absurd q (z i)
  .rfl
 have rqc:∀(j:Nat) a,Rq j a->(∃i,sh[j]?=some (.inr i)/\R1 i a)\/Rp j a:=λj a z=>by
  by_cases q:∃i,sh[j]?=some (.inr i)
  .obtain⟨i,q⟩:=q;rw[rq1 j i q]at z;exact .inl ⟨i,q,z⟩
  .rw[rq2 j λi z=>q ⟨i,z⟩]at z;exact .inr z
 let Oxp:AS:=λa=>Ox a\/∃i,R1 i a/\∀j:Nat,sh[j]?≠some (.inr i)
 have sub:∀a,Own Rq Oxp a->Own R1 (U F0 Ox) a:=λa z=>by
  rcases z with⟨j,z⟩|z|⟨i,z,_⟩
  .rcases rqc j a z with⟨i,_,z⟩|z
   .exact .inl ⟨i,z⟩
   .exact .inr (.inl (a3 j a z))
  .exact .inr (.inr z)
  .exact .inl ⟨i,z⟩
 have ec:EnvOk K dps Oxp H1 (vs.map some) (ts.map some) Rq:=by
  refine⟨λj u hu=>?_,λj j' a z z'=>?_,λj a z z2=>?_,λa z=>P.env.dom a (sub a z),by rw[zad,zad,tl,ol],?_⟩
  .rw[zao]at hu;obtain⟨u',hu,eu⟩:=zab.mp hu;cases eu;rcases tg j u hu with q|⟨i,q,qe⟩
   .obtain⟨v,d,b1,b2,b3⟩:=a1 j u q;refine⟨v,d,by rw[zao,b1];rfl,c1 j d b2,?_⟩;rw[rq2 j λi z=>by rw[b2]at z;cases z];exact Ow.grow sub u (λ_ z=>z) b3
   .obtain⟨v,b1,b2,b3⟩:=a2 j i q;obtain⟨v',d,g1,g2,g3⟩:=P.env.at_ i u qe;rw[b3]at g1;cases g1;obtain⟨qd,q1,q2⟩:=c2 j i b2;rw[g2]at q2;cases q2;refine⟨v,d,by rw[zao,b1];rfl,q1,?_⟩;rw[rq1 j i b2];exact Ow.grow sub u (λ_ z=>z) g3
  .rcases rqc j a z with⟨i,q,z⟩|z<;>rcases rqc j' a z' with⟨i',q',z'⟩|z'
   .have:=P.env.dj i i' a z z';subst this;exact c3 j j' i q q'
   .exact absurd (.inl (a3 j' a z')) (P.env.dx i a z)
   .exact absurd (.inl (a3 j a z)) (P.env.dx i' a z')
   .exact a4 j j' a z z'
  .rcases rqc j a z with⟨i,q,z⟩|z
   .rcases z2 with z2|⟨i',z2,n⟩
    .exact P.env.dx i a z (.inr z2)
    .have:=P.env.dj i i' a z z2;subst this;exact n j q
   .rcases z2 with z2|⟨i',z2,n⟩
    .exact P.fx a (a3 j a z) z2
    .exact P.env.dx i' a z2 (.inl (a3 j a z))
  .have:=o.shl;rw[zad]
   lia
 refine⟨Oxp,ts,Rq,r,ψ,ec,h3,λv H2 R2 Fr Pc oc=>?_⟩;have outl:ψ.length=as.length:=by rw[Pc.env.l1,zad];exact ol
 classical
 let R3:Nat->AS:=λi=>if q:∃j:Nat,sh[j]?=some (.inr i)then R2 q.choose else R1 i
 have r31:∀(i j:Nat),sh[j]?=some (.inr i)->R3 i=R2 j:=λi j z=>by
  have q:∃j:Nat,sh[j]?=some (.inr i):=⟨j,z⟩
  have:q.choose=j:=c3 _ _ i q.choose_spec z;show(if q:∃j:Nat,sh[j]?=some (.inr i)then R2 q.choose else R1 i)=R2 j;rw[dif_pos q,this]
 have r32:∀i:Nat,(∀j:Nat,sh[j]?≠some (.inr i))->R3 i=R1 i:=λi z=>by
  show(if q:∃j:Nat,sh[j]?=some (.inr i)then R2 q.choose else R1 i)=R1 i;rw[dif_neg λ⟨j,q⟩=>z j q]
 have r3c:∀(i:Nat) a,R3 i a->(∃j:Nat,sh[j]?=some (.inr i)/\R2 j a)\/((∀j:Nat,sh[j]?≠some (.inr i))/\R1 i a):=λi a z=>by
  by_cases q:∃j:Nat,sh[j]?=some (.inr i)
  .obtain⟨j,q⟩:=q;rw[r31 i j q]at z;exact .inl ⟨j,q,z⟩
  .rw[r32 i λj z=>q ⟨j,z⟩]at z;exact .inr ⟨λj z=>q ⟨j,z⟩,z⟩
 have eE:∀a,Own R3 (U Fr Ox) a->Own R2 (U Fr Oxp) a:=λa z=>by
  rcases z with⟨i,z⟩|z|z
  .rcases r3c i a z with⟨j,_,z⟩|⟨n,z⟩
   .exact .inl ⟨j,z⟩
   .exact .inr (.inr (.inr ⟨i,z,n⟩))
  .exact .inr (.inl z)
  .exact .inr (.inr (.inl z))
 have back:∀a,(Fr a\/∃j,R2 j a)->Own R1 (U F0 Ox) a\/H1 a=none:=λa z=>by
  rcases Pc.own a z with⟨j,z⟩|z
  .exact .inl (sub a (.inl ⟨j,z⟩))
  .exact .inr z
 have kC:∀a,(Fr a\/∃j,R2 j a)->(F0 a\/∃i,R1 i a)\/H1 a=none:=λa z=>by
  rcases Pc.own a z with⟨j,z⟩|z
  .rcases rqc j a z with⟨i,_,z⟩|z
   .exact .inl (.inr ⟨i,z⟩)
   .exact .inl (.inl (a3 j a z))
  .exact .inr z
 have n1:∀a,H1 a=none->H a=none:=λa z=>by
  cases q:H a with
  |none=>rfl
  |some o=>
   obtain⟨o',q'⟩:=P.dom a o q;rw[z]at q';cases q'
 have rqsub:∀j a,Rq j a->Own R1 (U F0 Ox) a:=λj a z=>sub a (.inl ⟨j,z⟩);have env3:EnvOk K ds1 (U Fr Ox) H2 σ (wb as ψ en1) R3:=by
  refine⟨λi u hu=>?_,λi i' a z z'=>?_,λi a z z2=>?_,λa z=>Pc.env.dom a (eE a z),by rw[sE];exact P.env.l1,P.env.l2⟩
  .by_cases q:∃j:Nat,as[j]?=some (.inr i)
   .obtain⟨j,q⟩:=q;obtain⟨v,b1,b2,b3⟩:=a2 j i q;have hil:i<en1.length:=by rw[P.env.l1];exact(zah.mp b3).1
    rw[wA as ψ en1 i j q (λj' z=>c3 j' j i (asl j' i z) b2) outl hil]at hu;obtain⟨v',d,g1,g2,g3⟩:=Pc.env.at_ j u hu;rw[zao,b1]at g1;cases g1;obtain⟨qd,q1,q2⟩:=c2 j i b2;rw[g2]at q1;cases q1;refine⟨v,d,b3,q2,?_⟩;rw[r31 i j b2];exact Ow.grow eE u (λ_ z=>z) g3
   .rw[jM as ψ en1 i λj z=>q ⟨j,z⟩]at hu;have ns:∀j:Nat,sh[j]?≠some (.inr i):=λj z=>q ⟨j,asr j i z⟩;obtain⟨v,d,g1,g2,g3⟩:=P.env.at_ i u hu;refine⟨v,d,g1,g2,?_⟩;rw[r32 i ns];refine Ow.mv (G:=R1 i) ⟨λa o q z=>Pc.keep a o q λj zj=>?_,λa z=>?_⟩ u (λ_ z=>z) g3
    .rcases z with z|z
     .exact z (rqsub j a zj)
     .rcases rqc j a zj with⟨i',q',z'⟩|z'
      .have:=P.env.dj i i' a z z';subst this;exact ns j q'
      .exact P.env.dx i a z (.inl (a3 j a z'))
    .rcases z with⟨i',z⟩|z|z
     .rcases r3c i' a z with⟨j,_,z⟩|⟨n,z⟩
      .exact back a (.inr ⟨j,z⟩)
      .exact .inl (.inl ⟨i',z⟩)
     .exact back a (.inl z)
     .exact .inl (.inr (.inr z))
  .rcases r3c i a z with⟨j,q,z⟩|⟨n,z⟩<;>rcases r3c i' a z' with⟨j',q',z'⟩|⟨n',z'⟩
   .have:=Pc.env.dj j j' a z z';subst this;rw[q]at q';cases q';rfl
   .exact absurd (.inr (.inr ⟨i',z',n'⟩)) (Pc.env.dx j a z)
   .exact absurd (.inr (.inr ⟨i,z,n⟩)) (Pc.env.dx j' a z')
   .exact P.env.dj i i' a z z'
  .rcases r3c i a z with⟨j,q,z⟩|⟨n,z⟩
   .exact Pc.env.dx j a z (z2.imp id .inl)
   .rcases z2 with z2|z2
    .exact Pc.fx a z2 (.inr ⟨i,z,n⟩)
    .exact P.env.dx i a z (.inr z2)
 refine k v H2 R3 Fr ⟨env3,λa z z2=>Pc.fx a z (.inl z2),λa o q n=>?_,λa z=>?_,λa o q=>?_,λhp=>?_⟩ (λhp i0 hi0=>⟨λa o q z=>?_,?_⟩) (Ow.grow eE r (λ_ z=>z) oc)
 .refine Pc.keep a o (P.keep a o q n) λj z=>?_;have nn:∀i,¬R1 i a:=λi z=>by
   rcases P.own a (.inr ⟨i,z⟩)with⟨i',z⟩|z
   .exact n i' z
   .rw[q]at z;cases z
  rcases rqc j a z with⟨i,_,z⟩|z
  .exact nn i z
  .rcases P.own a (.inl (a3 j a z))with⟨i',z⟩|z
   .exact n i' z
   .rw[q]at z;cases z
 .have:(F0 a\/∃i,R1 i a)\/H1 a=none:=by
   rcases z with z|⟨i,z⟩
   .exact kC a (.inl z)
   .rcases r3c i a z with⟨j,_,z⟩|⟨n,z⟩
    .exact kC a (.inr ⟨j,z⟩)
    .exact .inl (.inr ⟨i,z⟩)
  rcases this with z|z
  .exact P.own a z
  .exact .inr (n1 a z)
 .obtain⟨o',q'⟩:=P.dom a o q;exact Pc.dom a o' q'
 .obtain⟨hp1,hp2⟩:=(zbm _ _▸hp:p=true/\e8 sh=true);obtain⟨b1,b2,b3⟩:=P.pure hp1;have ns:=oN hp2;refine⟨?_,?_,λa o q=>?_⟩
  .show wb as ψ en1=en;rw[<-b1];refine List.ext_getElem? λi=>?_;exact jM as ψ en1 i λj z=>ns j i (asl j i z)
  .rw[<-b2]
   funext i
   exact r32 i λj=>ns j i
  .refine Pc.keep a o (b3 a o q) λj z=>?_;rcases rqc j a z with⟨i,z,_⟩|z
   .exact ns j i z
   .have zf:=a3 j a z;rcases P.own a (.inl zf)with⟨i,z2⟩|z2
    .rw[<-b2]at z2;exact P.env.dx i a z2 (.inl zf)
    .rw[q]at z2;cases z2
 .obtain⟨b1,b2,b3⟩:=P.pure hp;rw[<-b2]at z;refine Pc.keep a o (b3 a o q) λj zj=>?_;rcases rqc j a zj with⟨i',q',z'⟩|z'
  .have:=P.env.dj i0 i' a z z';subst this;exact hi0 j q'
  .exact P.env.dx i0 a z (.inl (a3 j a z'))
 .obtain⟨b1,b2,b3⟩:=P.pure hp;rw[jM as ψ en1 i0 λj z=>hi0 j (asl j i0 z),b1]
def LH{E:XK}{F:List D->Option (D×En)}(hc:cA ds1 sh dps=true)(h:∃Ox en R t en',EnvOk K ds Ox H σ en R/\aw F fa en=some (t,en')/\∀v H' R' F,Post K (p&&e8 sh) ds1 Ox σ H en R en' H' R' F->(p=true->∀i0:Nat,(∀j:Nat,sh[j]?≠some (.inr i0))->(∀a o,H a=some o->R i0 a->H' a=some o)/\en'[i0]?=en[i0]?)->Ow K (Own R' (U F Ox)) H' t dr v F->Q v H'):sj (spF K dps dr F) [] E (tFA K p ds ds1 sh fa) σ H Q:=by
 obtain⟨Ox,en,R,t,en',e,hf,k⟩:=h;unfold aw at hf;obtain⟨⟨as,en1⟩,h1,hf⟩:=zaa.mp hf;obtain⟨ts,h2,hf⟩:=zaa.mp hf;obtain⟨⟨r,ψ⟩,h3,hf⟩:=zab.mp hf;cases hf;refine⟨Ox,en,R,as,en1,e,h1,λvs H1 R1 F0 P o=>?_⟩;rw[zbr];exact Jg hc P o h2 h3 k
def xL{E:XK}{F:List D->Option (D×En)}(hc:cA ds1 sh dps=true)(h:tF K (p&&e8 sh) ds ds1 dr (aw F fa) σ H Q):sj (spF K dps dr F) [] E (tFA K p ds ds1 sh fa) σ H Q:=
 let⟨Ox,en,R,t,en',e,hf,k⟩:=h
 LH hc ⟨Ox,en,R,t,en',e,hf,λv H' R' F P _ o=>k v H' R' F P o⟩
end
inductive Fl where
 |nx (en:En)|rt (t:D) (en:En)|ct (en:En)
abbrev MS:=En->Option Fl
variable{m1 m2:MS}
structure Jd where
 lk:List Nat
 dsr:List Nat
 dr:Nat
 dsl:List Nat
variable{J:Jd}
structure PostS(K:zbU)(lk:List Nat)(ds':List Nat)(Ox:AS)(σ:St)(H:Hp)(R:Nat->AS)(σ':St)(en':En)(H':Hp)(R':Nat->AS)(F:AS):Prop where
 env:EnvOk K ds' (U F Ox) H' σ' en' R'
 fx:∀a,F a->¬Ox a
 keep:∀a o,H a=some o->(∀i,¬R i a)->H' a=some o
 own:∀a,(F a\/∃i,R' i a)->(∃i,R i a)\/H a=none
 dom:∀a o,H a=some o->∃o',H' a=some o'
 lk:∀j∈lk,σ'[j]?=σ[j]?
def LU(K:zbU)(J:Jd)(ds':List Nat)(D:Ends)(σ:St)(H:Hp)(Ox:AS)(R:Nat->AS):Fl->Prop
 |.nx en'=>∀σ' H' R',PostS K J.lk ds' Ox σ H R σ' en' H' R' NoA->D.nx σ' H'
 |.ct en'=>∀σ' H' R',PostS K J.lk J.dsl Ox σ H R σ' en' H' R' NoA->D.ct σ' H'
 |.rt t en'=>∀v σ' H' R' F,PostS K J.lk J.dsr Ox σ H R σ' en' H' R' F->Ow K (Own R' (U F Ox)) H' t J.dr v F->D.rt v H'
inductive tFS(K:zbU)(J:Jd)(ds ds':List Nat)(f:MS)(D:Ends)(σ:St)(H:Hp):Prop
 |mk (Ox:AS) (en:En) (R:Nat->AS) (fl:Fl) (h0:EnvOk K ds Ox H σ en R) (h1:f en=some fl) (h2:LU K J ds' D σ H Ox R fl)
def ao(f g:MS):MS:=λen=>(f en).bind λfl=>match fl with
 |.nx en1=>g en1
 |.rt t en1=>some (.rt t en1)
 |.ct en1=>some (.ct en1)
def av(i:Nat)(f:ME):MS:=λen=>(f en).map λr=>.nx (r.2.set i (some r.1))
def fP(f:ME):MS:=λen=>(f en).map λr=>.nx r.2
noncomputable def aG(f:ME):MS:=λen=>(f en).map λr=>.rt r.1 r.2
noncomputable def Mu:MS:=λen=>some (.rt .none en)
def bj:MS:=λen=>some (.nx en)
noncomputable def Mw:MS:=λen=>some (.ct en)
noncomputable def oE:MS:=λ_=>none
noncomputable def sIf(c:MT)(f g:MS):MS:=λen=>(c en).bind λr=>if r.1 then f r.2 else g r.2
section
variable{c:MT}{m:MS}{D:Ends}
def PostS.refl(e:EnvOk K ds Ox H σ en R):PostS K lk ds Ox σ H R σ en H R NoA:=
 ⟨by rw[fC];exact e,λ_ z=>z.elim,λ_ _ q _=>q,λa z=>z.elim (λz=>z.elim) .inl,λa o q=>⟨o,q⟩,λ_ _=>rfl⟩
def PostS.env0{F:AS}(P:PostS K lk ds' Ox σ H R σ' en' H' R' F):EnvOk K ds' Ox H' σ' en' R':=P.env.fewer λa z=>.inr z
def PostS.less{F:AS}(P:PostS K lk ds' Ox σ H R σ' en' H' R' F)(h:∀a,F' a->F a):PostS K lk ds' Ox σ H R σ' en' H' R' F':=
 ⟨P.env.fewer λa z=>z.imp (h a) id,λa z=>P.fx a (h a z),P.keep,λa z=>P.own a (z.imp (h a) id),P.dom,P.lk⟩
def PostS.after{σ1 σ2:St}{R2:Nat->AS}{F:AS}(P1:PostS K lk ds1 Ox σ H R σ1 en1 H1 R1 NoA)(P2:PostS K lk ds2 Ox σ1 H1 R1 σ2 en2 H' R2 F):PostS K lk ds2 Ox σ H R σ2 en2 H' R2 F:=by
 have n1:∀a,H1 a=none->H a=none:=λa z=>by
  cases q:H a with
  |none=>rfl
  |some o=>
   obtain⟨o',q'⟩:=P1.dom a o q;rw[z]at q';cases q'
 refine⟨P2.env,P2.fx,λa o q n=>?_,λa z=>?_,λa o q=>?_,λj hj=>(P2.lk j hj).trans (P1.lk j hj)⟩
 .refine P2.keep a o (P1.keep a o q n) λi z=>?_;rcases P1.own a (.inr ⟨i,z⟩)with⟨j,z⟩|z
  .exact n j z
  .rw[q]at z;cases z
 .rcases P2.own a z with z|z
  .exact P1.own a (.inr z)
  .exact .inr (n1 a z)
 .obtain⟨o',q'⟩:=P1.dom a o q;exact P2.dom a o' q'
def Post.s{F:AS}(P:Post K p ds' Ox σ H en R en' H' R' F):PostS K lk ds' Ox σ H R σ en' H' R' F:=⟨P.env,P.fx,P.keep,P.own,P.dom,λ_ _=>rfl⟩
def PostS.cut{F:AS}(P:PostS K lk ds1 Ox σ H R σ' en' H' R' F)(hd:leD ds2 ds1=true):∃R2,(∀i a,R2 i a->R' i a)/\PostS K lk ds2 Ox σ H R σ' en' H' R2 F:=by
 obtain⟨R2,s1,e2⟩:=P.env.cut (eK hd).1 (eK hd).2;exact⟨R2,s1,e2,P.fx,P.keep,λa z=>P.own a (z.imp id λ⟨i,z⟩=>⟨i,s1 i a z⟩),P.dom,P.lk⟩
def Kl(h:tFS K J ds ds bj D σ H):sg D σ H:=by
 obtain⟨Ox,en,R,fl,e,hf,k⟩:=h;cases hf;exact k σ H R (PostS.refl e)
def Kj(h:tFS K J ds ds2 (ao m1 m2) D σ H):p8 (tFS K J ds ds1 m1) (tFS K J ds1 ds2 m2) D σ H:=by
 obtain⟨Ox,en,R,fl,e,hf,k⟩:=h;unfold ao at hf;obtain⟨fl1,h1,hf⟩:=zaa.mp hf;refine⟨Ox,en,R,fl1,e,h1,?_⟩;cases fl1 with
 |nx en1=>
  intro σ1 H1 R1 P1;refine⟨Ox,en1,R1,fl,P1.env0,hf,?_⟩;cases fl with
  |nx en2=>exact λσ2 H2 R2 P2=>k σ2 H2 R2 (P1.after P2)
  |ct en2=>exact λσ2 H2 R2 P2=>k σ2 H2 R2 (P1.after P2)
  |rt t en2=>exact λv σ2 H2 R2 F P2 o=>k v σ2 H2 R2 F (P1.after P2) o
 |ct en1=>cases hf;exact k
 |rt t en1=>cases hf;exact k
def zJ(hd:leD ds1 ds2=true)(h:tFS K J ds ds1 m D σ H):tFS K J ds ds2 m D σ H:=by
 obtain⟨Ox,en,R,fl,e,hf,k⟩:=h;refine⟨Ox,en,R,fl,e,hf,?_⟩;cases fl with
 |nx en2=>
  intro σ2 H2 R2 P2;obtain⟨R3,_,P3⟩:=P2.cut hd;exact k σ2 H2 R3 P3
 |ct en2=>exact k
 |rt t en2=>exact k
def Ko(h:tFS K J ds ds1 (fP f) D σ H):Em (tF K p ds ds1 d f) D σ H:=by
 obtain⟨Ox,en,R,fl,e,hf,k⟩:=h;unfold fP at hf;obtain⟨⟨t,en1⟩,h1,hf⟩:=zab.mp hf;cases hf;exact⟨Ox,en,R,t,en1,e,h1,λv H1 R1 F P o=>k σ H1 R1 (P.s.less λ_ z=>z.elim)⟩
def Kk(hd:leD J.dsr ds1=true)(h:tFS K J ds ds' (aG f) D σ H):I0 (tF K p ds ds1 J.dr f) D σ H:=by
 obtain⟨Ox,en,R,fl,e,hf,k⟩:=h;unfold aG at hf;obtain⟨⟨t,en1⟩,h1,hf⟩:=zab.mp hf;cases hf;refine⟨Ox,en,R,t,en1,e,h1,λv H1 R1 F P o=>?_⟩;obtain⟨R2,s1,P2⟩:=(P.s (lk:=J.lk)).cut hd;exact k v σ H1 R2 F P2 (Ow.grow (λa z=>z.imp (λ⟨i,z⟩=>⟨i,s1 i a z⟩) id) t (λ_ z=>z) o)
def BH(h:tFS K J ds ds' oE D σ H):yw D σ H:=by
 obtain⟨Ox,en,R,fl,e,hf,k⟩:=h;cases hf
def Ls(h:tFS K J ds ds2 (sIf c m1 m2) D σ H):AF (tFT K p ds ds1 c) (tFS K J ds1 ds2 m1) (tFS K J ds1 ds2 m2) D σ H:=by
 obtain⟨Ox,en,R,fl,e,hf,k⟩:=h;unfold sIf at hf;obtain⟨⟨b,en1⟩,h1,hf⟩:=zaa.mp hf;refine⟨Ox,en,R,b,en1,e,h1,λH1 R1 P1=>?_⟩;have fin:∀m,m en1=some fl->tFS K J ds1 ds2 m D σ H1:=λm hm=>by
  refine⟨Ox,en1,R1,fl,P1.env0,hm,?_⟩;cases fl with
  |nx en2=>exact λσ2 H2 R2 P2=>k σ2 H2 R2 (P1.s.after P2)
  |ct en2=>exact λσ2 H2 R2 P2=>k σ2 H2 R2 (P1.s.after P2)
  |rt t en2=>exact λv σ2 H2 R2 F P2 o=>k v σ2 H2 R2 F (P1.s.after P2) o
 cases b with
 |true=>exact fin m1 hf
 |false=>exact fin m2 hf
def PostS.store{F:AS}(P:Post K p ds1 Ox σ H en R en1 H' R' F)(o:Ow K (Own R' (U F Ox)) H' t d v F)(hi:i<ds1.length)(hl:i∉lk):
  PostS K lk (ds1.set i d) Ox σ H R (σ.set i (some v)) (en1.set i (some t)) H' (λj=>if j=i then F else R' j) NoA:=by
 have l1:=P.env.l1;have l2:=P.env.l2;have sub:∀a,Own (λj=>if j=i then F else R' j) Ox a->Own R' (U F Ox) a:=λa z=>by
  rcases z with⟨j,z⟩|z
  .by_cases hj:j=i
   .rw[if_pos hj]at z;exact .inr (.inl z)
   .rw[if_neg hj]at z;exact .inl ⟨j,z⟩
  .exact .inr (.inr z)
 refine⟨?_,λ_ z=>z.elim,P.keep,λa z=>?_,P.dom,λj hj=>?_⟩
 .rw[fC];refine⟨λj u hu=>?_,λj j' a z z'=>?_,λj a z z2=>?_,λa z=>P.env.dom a (sub a z),by rw[zaU,zaU];exact l1,by rw[zaU,zaU];exact l2⟩
  .by_cases hj:j=i
   .subst hj;rw[zaO (by lia)]at hu;cases hu;refine⟨v,d,zaO (by lia),zaO hi,?_⟩;rw[if_pos rfl];exact Ow.grow sub t (λ_ z=>z) o
   .rw[zaN (Ne.symm hj)]at hu;obtain⟨v',d',g1,g2,g3⟩:=P.env.at_ j u hu;refine⟨v',d',by rw[zaN (Ne.symm hj)];exact g1,by rw[zaN (Ne.symm hj)];exact g2,?_⟩;rw[if_neg hj];exact Ow.grow sub u (λ_ z=>z) g3
  .by_cases hj:j=i<;>by_cases hj':j'=i
   .rw[hj,hj']
   .rw[if_pos hj]at z;rw[if_neg hj']at z';exact absurd (.inl z) (P.env.dx j' a z')
   .rw[if_neg hj]at z;rw[if_pos hj']at z';exact absurd (.inl z') (P.env.dx j a z)
   .rw[if_neg hj]at z;rw[if_neg hj']at z';exact P.env.dj j j' a z z'
  .by_cases hj:j=i
   .rw[if_pos hj]at z;exact P.fx a z z2
   .rw[if_neg hj]at z;exact P.env.dx j a z (.inr z2)
 .rcases z with z|⟨j,z⟩
  .exact z.elim
  .by_cases hj:j=i
   .rw[if_pos hj]at z;exact P.own a (.inl z)
   .rw[if_neg hj]at z;exact P.own a (.inr ⟨j,z⟩)
 .rw[zaN];intro z;subst z;exact hl hj
def zK(hi:i<ds1.length)(hl:i∉J.lk)(h:tFS K J ds (ds1.set i d) (av i f) D σ H):sJ (tF K p ds ds1 d f) (oZ i) D σ H:=by
 obtain⟨Ox,en,R,fl,e,hf,k⟩:=h;unfold av at hf;obtain⟨⟨t,en1⟩,h1,hf⟩:=zab.mp hf;cases hf;exact⟨Ox,en,R,t,en1,e,h1,λv H1 R1 F P o=>k _ H1 _ (PostS.store P o hi hl)⟩
abbrev MG:=PyData->En->Option En
inductive tFG(K:zbU)(lk:List Nat)(ds ds':List Nat)(g:MG)(v:V)(σ:St)(H:Hp)(Q:St->Hp->Prop):Prop
 |mk (Ox:AS) (en:En) (R:Nat->AS) (t:PyData) (en':En) (h0:EnvOk K ds Ox H σ en R) (h1:Ow K (Own R Ox) H t 0 v NoA) (h2:g t en=some en') (h3:∀σ' R',PostS K lk ds' Ox σ H R σ' en' H R' NoA->(∀j∈lk,R' j=R j)->Q σ' H)
inductive tFGs(K:zbU)(lk:List Nat)(ds ds':List Nat)(g:List PyData->En->Option En)(vs:List V)(σ:St)(H:Hp)(Q:St->Hp->Prop):Prop
 |mk (Ox:AS) (en:En) (R:Nat->AS) (ts:List PyData) (en':En) (h0:EnvOk K ds Ox H σ en R) (h1:Ows K (Own R Ox) H ts 0 vs NoA) (h2:g ts en=some en') (h3:∀σ' R',PostS K lk ds' Ox σ H R σ' en' H R' NoA->(∀j∈lk,R' j=R j)->Q σ' H)
noncomputable def gN(i:Nat):MG:=λt en=>some (en.set i (some t))
noncomputable def gs0:List PyData->En->Option En:=λts en=>match ts with
 |[]=>some en
 |_=>none
noncomputable def gsC(g:MG)(r:List PyData->En->Option En):List PyData->En->Option En:=λts en=>match ts with
 |t::ts=>(g t en).bind λen1=>r ts en1
 |[]=>none
noncomputable def gT(g:List PyData->En->Option En):MG:=λt en=>match t with
 |.tuple ts=>g ts en
 |_=>none
variable{g g1:MG}{gs:List PyData->En->Option En}{QS:St->Hp->Prop}
def Gi(hi:i<ds.length)(hl:i∉lk)(h:tFG K lk ds (ds.set i 0) (gN i) v σ H QS):oZ i v σ H QS:=by
 obtain⟨Ox,en,R,t,en',e,o,hf,k⟩:=h;cases hf;exact k _ _ (PostS.store (p:=true) (Post.refl e) (by rw[show(λ_=>False:AS)=NoA from rfl,fC];exact o) hi hl) λj hj=>if_neg (λ(z:j=i)=>hl (by rw[<-z];exact hj))
def Gh(h:tFGs K lk ds ds gs0 vs σ H QS):Ke vs σ H QS:=by
 obtain⟨Ox,en,R,ts,en',e,o,hf,k⟩:=h;cases ts with
 |nil=>cases hf;exact⟨o,k σ R (PostS.refl e) λ_ _=>rfl⟩
 |cons t ts=>cases hf
def BK(h:tFGs K lk ds ds2 (gsC g gs) vs σ H QS):EN (tFG K lk ds ds1 g) (tFGs K lk ds1 ds2 gs) vs σ H QS:=by
 obtain⟨Ox,en,R,ts,en',e,o,hf,k⟩:=h;cases ts with
 |nil=>cases hf
 |cons t ts=>
  obtain⟨en1,h1,h2⟩:=zaa.mp hf;obtain⟨v,r,F1,F2,e1,s1,s2,s3,o1,o2⟩:=o;refine⟨v,r,e1,Ox,en,R,t,en1,e,Ow.any0 t o1,h1,λσ1 R1 P1 r1=>?_⟩;refine⟨Ox,en1,R1,ts,en',P1.env0,Ows.any0 ts (Ows.mv (G:=NoA) ⟨λa o q _=>q,λa z=>?_⟩ ts (F:=NoA) (λ_ z=>z) (Ows.any0 ts o2)),h2,λσ2 R2 P2 r2=>k σ2 R2 (P1.after P2) λj hj=>(r2 j hj).trans (r1 j hj)⟩;rcases z with z|z
  .exact(P1.own a (.inr z)).imp .inl id
  .exact .inl (.inr z)
def Ku(hn:∀ts en,(∃en',gs ts en=some en')->ts.length=n)(h:tFG K lk ds ds1 (gT gs) v σ H QS):Kb K n (tFGs K lk ds ds1 gs) v σ H QS:=by
 obtain⟨Ox,en,R,t,en',e,o,hf,k⟩:=h;cases t with
 |tuple ts=>
  have hf':gs ts en=some en':=hf;obtain⟨a,vs,e1,⟨_,h1,h2⟩|⟨z,_⟩⟩:=o
  .refine⟨a,vs,e1,h1.sq,?_,Ox,en,R,ts,en',e,h2,hf',k⟩;rw[<-hn ts en ⟨en',hf'⟩]
   have:∀{ts:List PyData} {vs:List V} {F:AS},Ows K (Own R Ox) H ts 0 vs F->vs.length=ts.length:=λ{ts}=>by
    induction ts with
    |nil=>intro vs F h;rw[show vs=[]from h];rfl
    |cons t ts ih=>
     intro vs F h;obtain⟨v,r,F1,F2,e,h1,h2,h3,h4,h5⟩:=h;rw[e,zac,zac,ih h5]
   exact this h2
  .exact absurd rfl z
 |_=>cases hf
abbrev MI:=En->Option (List PyData×En)
def kI(K:zbU)(O:AS)(H0:Hp)(J:It)(ts:List PyData):Prop:=
 ∀(i:Nat) (H:Hp) (O1:AS),(∀a o,H0 a=some o->¬O a->H a=some o)->(∀a,O1 a->O a\/H0 a=none)->(∀a,O1 a->∃o,H a=some o) ->
  (∀t,ts[i]?=some t->J.go i H/\∀x H1,J.yld i H x H1->(∀a o,H a=some o->H1 a=some o)/\Ow K O1 H1 t 0 x NoA)/\(ts.length=i->J.stop i H)
inductive tFI(K:zbU)(p:Bool)(ds ds':List Nat)(f:MI)(σ:St)(H:Hp)(RJ:It->Hp->Prop):Prop
 |mk (Ox:AS) (en:En) (R:Nat->AS) (ts:List PyData) (en':En) (h0:EnvOk K ds Ox H σ en R) (h1:f en=some (ts,en')) (h2:∀J H' R',Post K p ds' Ox σ H en R en' H' R' NoA->kI K (Own R' Ox) H' J ts->RJ J H')
def c9(g:MG)(b:MS):List PyData->En->Option Fl
 |[],en=>some (.nx en)
 |t::ts,en=>(g t en).bind λen1=>(b en1).bind λfl=>match fl with
  |.nx en2=>c9 g b ts en2
  |.ct en2=>c9 g b ts en2
  |.rt r en2=>some (.rt r en2)
def b7(fi:MI)(g:MG)(b:MS):MS:=λen=>(fi en).bind λr=>c9 g b r.1 r.2
def Km{fi:MI}(h:tFS K J ds ds1 (b7 fi g m) D σ H):AG (tFI K p ds ds1 fi) (tFG K J.lk ds1 ds2 g) (tFS K { J with dsl:=ds1 } ds2 ds1 m) D σ H:=by
 obtain⟨Ox,en,R,fl,e,hf,k⟩:=h;unfold b7 at hf;obtain⟨⟨ts,en1⟩,h1,hf⟩:=zaa.mp hf;refine⟨Ox,en,R,ts,en1,e,h1,λJt H1 R1 P1 wk=>?_⟩;refine⟨λi n σ' H'=>∃en' R',n=ts.length-i/\i<=ts.length/\PostS K J.lk ds1 Ox σ H1 R1 σ' en' H' R' NoA/\c9 g m (ts.drop i) en'=some fl,⟨_,en1,R1,rfl,zbj _,PostS.refl P1.env0,hf⟩,?_⟩;rintro i n σ2 H2 ⟨en2,R2,rfl,hi,P2,hr⟩;obtain⟨w1,w2⟩:=wk i H2 (Own R2 Ox) (λa o q z=>P2.keep a o q λj zj=>z (.inl ⟨j,zj⟩)) (λa z=>by
  rcases z with z|z
  .exact(P2.own a (.inr z)).imp .inl id
  .exact .inl (.inr z)) λa z=>P2.env0.dom a z
 by_cases hlt:i<ts.length
 .obtain⟨go,yl⟩:=w1 ts[i] (zak hlt);have hd:ts.drop i=ts[i]::ts.drop (i+1):=zbK hlt;rw[hd]at hr;obtain⟨en3,h3,hr⟩:=zaa.mp hr;obtain⟨fl2,h4,hr⟩:=zaa.mp hr;refine .inr ⟨go,λσ' H'=>∃en' R',PostS K J.lk ds1 Ox σ H1 R1 σ' en' H' R' NoA/\c9 g m (ts.drop (i+1)) en'=some fl,λσ' H' ⟨en',R',P',h'⟩=>⟨ts.length-(i+1),by lia,en',R',rfl,hlt,P',h'⟩,λx H3 y=>?_⟩;obtain⟨gr,ox⟩:=yl x H3 y;have P3:Post K true ds1 Ox σ2 H2 en2 R2 en2 H3 R2 NoA:=Post.new P2.env0 gr λ_ z=>z.elim;refine⟨Ox,en2,R2,ts[i],en3,P3.env0,ox,h3,λσ4 R4 P4 _=>?_⟩;have P4':=(P2.after P3.s).after P4;refine⟨Ox,en3,R4,fl2,P4.env0,h4,?_⟩;cases fl2 with
  |nx en5=>exact λσ5 H5 R5 P5=>⟨en5,R5,P4'.after P5,hr⟩
  |ct en5=>exact λσ5 H5 R5 P5=>⟨en5,R5,P4'.after P5,hr⟩
  |rt t en5=>
   cases hr;exact λv σ5 H5 R5 F P5 o=>k v σ5 H5 R5 F (P1.s.after (P4'.after P5)) o
 .have e2:i=ts.length:=by lia
  subst e2;rw[List.drop_length]at hr;cases hr;exact .inl ⟨w2 rfl,k σ2 H2 R2 (P1.s.after P2)⟩
def whN(c:MT)(b:MS):Nat->En->Option Fl
 |0,_=>none
 |n+1,en=>(c en).bind λr=>if r.1 then(b r.2).bind λfl=>match fl with
   |.nx en2=>whN c b n en2
   |.ct en2=>whN c b n en2
   |.rt t en2=>some (.rt t en2)
  else some (.nx r.2)
open Classical in
noncomputable def dC(c:MT)(b:MS):MS:=λen=>if h:∃n fl,whN c b n en=some fl then some h.choose_spec.choose else none
def jy{b:MS}{fl:Fl}(h:dC c b en=some fl):∃n,whN c b n en=some fl:=by
 unfold dC at h;split at h
 .next q=>
  cases h;exact⟨q.choose,q.choose_spec.choose_spec⟩
 .cases h
def BG(h:tFS K J ds ds1 (dC c m) D σ H):yv (tFT K p ds ds1 c) (tFS K { J with dsl:=ds } ds1 ds m) D σ H:=by
 obtain⟨Ox,en,R,fl,e,hf,k⟩:=h;obtain⟨n0,hn⟩:=jy hf;refine⟨λn σ' H'=>∃en' R',PostS K J.lk ds Ox σ H R σ' en' H' R' NoA/\whN c m n en'=some fl,⟨n0,en,R,PostS.refl e,hn⟩,?_⟩;rintro n σ2 H2 ⟨en2,R2,P2,hr⟩;cases n with
 |zero=>cases hr
 |succ n=>
  unfold whN at hr;obtain⟨⟨b,en3⟩,h3,hr⟩:=zaa.mp hr;refine⟨Ox,en2,R2,b,en3,P2.env0,h3,λH3 R3 P3=>?_⟩;cases b with
  |false=>
   cases hr;rw[if_neg zbn];exact k σ2 H3 R3 (P2.after P3.s)
  |true=>
   rw[if_pos rfl]at hr ⊢;obtain⟨fl2,h4,hr⟩:=zaa.mp hr;refine⟨λσ' H'=>∃en' R',PostS K J.lk ds Ox σ H R σ' en' H' R' NoA/\whN c m n en'=some fl,λσ' H' q=>⟨n,zaI _,q⟩,Ox,en3,R3,fl2,P3.env0,h4,?_⟩;have P3':=P2.after (P3.s (lk:=J.lk));cases fl2 with
   |nx en5=>exact λσ5 H5 R5 P5=>⟨en5,R5,P3'.after P5,hr⟩
   |ct en5=>exact λσ5 H5 R5 P5=>⟨en5,R5,P3'.after P5,hr⟩
   |rt t en5=>
    cases hr;exact λv σ5 H5 R5 F P5 o=>k v σ5 H5 R5 F (P3'.after P5) o
end
variable{g1:MG}{fi:MI}
noncomputable def lcF(g:MG)(c:MT)(f:ME):List D->List D->En->Option (List D×En)
 |[],acc,en=>some (acc,en)
 |t::ts,acc,en=>(g t en).bind λen1=>(c en1).bind λr=>if r.1 then(f r.2).bind λq=>if acc.length<sizeLine then lcF g c f ts (acc++[q.1]) q.2 else none else lcF g c f ts acc r.2
noncomputable def eR(js:List (Option Nat))(en:En):En:=js.map λj=>match j with
 |some j=>(en[j]?).join
 |none=>none
noncomputable def wbB:List (Option Nat)->En->En->En
 |some j::js,o::r,en=>wbB js r (en.set j o)
 |none::js,_::r,en=>wbB js r en
 |_,_,en=>en
def eLC(q:Bool)(fi:MI)(g:MG)(c:MT)(f:ME)(js:List (Option Nat)):ME:=λen=>(fi en).bind λr=>(lcF g c f r.1 [] (eR js r.2)).map λz=>(.list z.1,if q then r.2 else wbB js z.2 r.2)
noncomputable def fA(ds:List Nat):List (Option Nat)->List Nat->Bool
 |[],[]=>true
 |some j::js,d::r=>decide (ds[j]?=some d)&&(decide (some j∉js)&&fA ds js r)
 |none::js,_::r=>fA ds js r
 |_,_=>false
section
variable{c:MT}{g:MG}  
theorem kH:∀{js:List (Option Nat)} {dsi:List Nat},fA ds js dsi=true->dsi.length=js.length/\(∀(k j:Nat),js[k]?=some (some j)->∃d,dsi[k]?=some d/\ds[j]?=some d)/\(∀(k k' j:Nat),js[k]?=some (some j)->js[k']?=some (some j)->k=k')
 |[],[],_=>⟨rfl,λk j z=>by simp at z,λk k' j z=>by simp at z⟩
 |some j0::js,d::r,h=>by
  unfold fA at h;rw[zbm,zbm]at h;obtain⟨h1,h2,h3⟩:=h;obtain⟨a,b,c⟩:=kH h3;have n:=of_decide_eq_true h2;refine⟨by rw[zac,zac,a],λk j z=>?_,λk k' j z z'=>?_⟩
  .cases k with
   |zero=>simp at z;subst z;exact⟨d,rfl,of_decide_eq_true h1⟩
   |succ k=>exact b k j (by simpa using z)
  .cases k with
   |zero=>
    simp at z;subst z;cases k' with
    |zero=>rfl
    |succ k'=>exact absurd (zaW (by simpa using z':js[k']?=some (some j0))) n
   |succ k=>
    cases k' with
    |zero=>
     simp at z';subst z';exact absurd (zaW (by simpa using z:js[k]?=some (some j0))) n
    |succ k'=>rw[c k k' j (by simpa using z) (by simpa using z')]
 |none::js,d::r,h=>by
  unfold fA at h;obtain⟨a,b,c⟩:=kH h;refine⟨by rw[zac,zac,a],λk j z=>?_,λk k' j z z'=>?_⟩
  .cases k with
   |zero=>simp at z
   |succ k=>exact b k j (by simpa using z)
  .cases k with
   |zero=>simp at z
   |succ k=>
    cases k' with
    |zero=>simp at z'
    |succ k'=>rw[c k k' j (by simpa using z) (by simpa using z')]
 |[],_::_,h=>nomatch h
 |some _::_,[],h=>nomatch h
 |none::_,[],h=>nomatch h
theorem pZ:∀(js:List (Option Nat)) (r en:En),(wbB js r en).length=en.length
 |[],_,_=>by unfold wbB;rfl
 |some _::_,[],_=>by unfold wbB;rfl
 |none::_,[],_=>by unfold wbB;rfl
 |some j::js,o::r,en=>by unfold wbB;rw[pZ js r _,zaU]
 |none::js,o::r,en=>by unfold wbB;exact pZ js r _
theorem mq:∀(js:List (Option Nat)) (r en:En) (i:Nat),(∀k:Nat,js[k]?≠some (some i))->(wbB js r en)[i]?=en[i]?
 |[],_,_,_,_=>by unfold wbB;rfl
 |some _::_,[],_,_,_=>by unfold wbB;rfl
 |none::_,[],_,_,_=>by unfold wbB;rfl
 |none::js,o::r,en,i,h=>by unfold wbB;exact mq js r en i λj=>h (j+1)
 |some k::js,o::r,en,i,h=>by
  unfold wbB;rw[mq js r _ i λj=>h (j+1),zaN];intro e;subst e;exact h 0 rfl
theorem sF:∀(js:List (Option Nat)) (r en:En) (i k:Nat),js[k]?=some (some i)->(∀k':Nat,js[k']?=some (some i)->k'=k)->r.length=js.length->i<en.length->(wbB js r en)[i]?=r[k]?
 |[],_,_,_,_,h,_,_,_=>by simp at h
 |some _::js,[],_,_,_,_,_,h,_=>by simp at h
 |none::js,[],_,_,_,_,_,h,_=>by simp at h
 |none::js,o::r,en,i,k,h,u,l,b=>by
  unfold wbB;cases k with
  |zero=>simp at h
  |succ k=>exact sF js r en i k (by simpa using h) (λj' z=>by have:=u (j'+1) (by simpa using z);lia) (by simpa using l) b
 |some j::js,o::r,en,i,k,h,u,l,b=>by
  unfold wbB;cases k with
  |zero=>
   have e:j=i:=by simpa using h
   subst e;rw[mq js r _ j λj' z=>by have:=u (j'+1) (by simpa using z);lia];rw[zaO b];rfl
  |succ k=>exact sF js r _ i k (by simpa using h) (λj' z=>by have:=u (j'+1) (by simpa using z);lia) (by simpa using l) (by rw[zaU];exact b)
theorem Ows.snoc:∀{ts:List D} {vs:List V} {F1 F2:AS} {v:V},Ows K O H ts d vs F1->Ow K O H t d v F2->(∀b,F1 b->¬F2 b)->Ows K O H (ts++[t]) d (vs++[v]) (U F1 F2)
 |[],vs,F1,F2,v,h,h2,_=>by
  have e:vs=[]:=h;subst e;exact⟨v,[],F2,NoA,rfl,λ_ z=>.inr z,λ_ z=>z.elim,λ_ _ z=>z.elim,h2,rfl⟩
 |u::ts,vs,F1,F2,v,h,h2,hd=>by
  obtain⟨w,r,G1,G2,e,s1,s2,s3,h4,h5⟩:=h;subst e;refine⟨w,r++[v],G1,U G2 F2,rfl,λb z=>.inl (s1 b z),λb z=>z.imp (s2 b) id,λb z z2=>?_,h4,Ows.snoc h5 h2 λb z=>hd b (s2 b z)⟩;rcases z2 with z2|z2
  .exact s3 b z z2
  .exact hd b (s1 b z) z2
theorem Ows.len:∀{ts:List D} {vs:List V} {F:AS},Ows K O H ts d vs F->vs.length=ts.length
 |[],_,_,h=>by rw[show _=[]from h];rfl
 |t::ts,_,_,h=>by
  obtain⟨v,r,F1,F2,e,h1,h2,h3,h4,h5⟩:=h;rw[e,zac,zac,h5.len]
noncomputable def fW:List (Option Nat)->Nat->List Nat
 |[],_=>[]
 |some _::r,n=>n::fW r (n+1)
 |none::r,n=>fW r (n+1)
theorem ki:∀{js:List (Option Nat)} {n k j:Nat},js[k]?=some (some j)->n+k∈fW js n
 |[],n,k,j,h=>by simp at h
 |some x::r,n,k,j,h=>by
  unfold fW;cases k with
  |zero=>exact zaq
  |succ k=>
   refine zaj _ ?_
   have:=ki (n:=n+1) (k:=k) (j:=j) (by simpa using h);rw[show n+(k+1)=n+1+k by lia];exact this
 |none::r,n,k,j,h=>by
  unfold fW;cases k with
  |zero=>simp at h
  |succ k=>
   have:=ki (n:=n+1) (k:=k) (j:=j) (by simpa using h);rw[show n+(k+1)=n+1+k by lia];exact this
def qG(js:List (Option Nat))(R1:Nat->AS):Nat->AS:=λk=>match js[k]? with
 |some (some j)=>R1 j
 |_=>NoA
def wt(h:js[k]?=some (some j)):qG js R1 k=R1 j:=by unfold qG;rw[h]
def iJ(h:qG js R1 k a):∃j,js[k]?=some (some j)/\R1 j a:=by
 unfold qG at h;cases q:js[k]? with
 |none=>rw[q]at h;exact h.elim
 |some o=>
  rw[q]at h;cases o with
  |none=>exact h.elim
  |some j=>exact⟨j,rfl,h⟩
noncomputable def KK(Ox:AS)(D:Addr)(R1:Nat->AS)(js:List (Option Nat)):AS:=λa=>Ox a\/a=D\/∃i,R1 i a/\∀k:Nat,js[k]?≠some (some i)
def KJ{D:Addr}(hc:fA ds1 js dsi=true)(E1:EnvOk K ds1 Ox H1 σ en1 R1)(hD:H1 D=none):EnvOk K dsi (KK Ox D R1 js) (upd H1 D (.lst [])) (eQ js σ) (eR js en1) (qG js R1):=by
 obtain⟨cl,c1,c2⟩:=kH hc;have u2:∀a o,H1 a=some o->upd H1 D (.lst []) a=some o:=λa o q=>(bJ (o:=.lst []) hD).1 a o q;refine⟨λk t hk=>?_,λk k' a z z'=>?_,λk a z z2=>?_,λa z=>?_,by unfold eR eQ;rw[zad,zad],by unfold eQ;rw[cl,zad]⟩
 .unfold eR at hk;rw[zao]at hk;obtain⟨oj,hj,ht⟩:=zab.mp hk;cases oj with
  |none=>cases ht
  |some j=>
  have ht:en1[j]?=some (some t):=by
   have h2':(en1[j]?).join=some t:=ht;cases q:en1[j]? with
   |none=>rw[q]at h2';cases h2'
   |some o=>rw[q]at h2';exact congrArg some h2'
  obtain⟨v,d,g1,g2,g3⟩:=E1.at_ j t ht;obtain⟨d',q1,q2⟩:=c1 k j hj;rw[g2]at q2;cases q2;refine⟨v,d,?_,q1,?_⟩
  .unfold eQ;rw[zao,hj];show some ((σ[j]?).join)=_;rw[g1];rfl
  rw[wt hj];refine Ow.mv (G:=R1 j) ⟨λa o q _=>u2 a o q,λa z=>?_⟩ t (λ_ z=>z) g3;rcases z with⟨k',z⟩|z|z|⟨i,z,_⟩
  .obtain⟨j',_,z⟩:=iJ z;exact .inl (.inl ⟨j',z⟩)
  .exact .inl (.inr z)
  .exact .inr (z▸hD)
  .exact .inl (.inl ⟨i,z⟩)
 .obtain⟨j,hj,z⟩:=iJ z;obtain⟨j',hj',z'⟩:=iJ z'
  have:=E1.dj j j' a z z';subst this;exact c2 k k' j hj hj'
 .obtain⟨j,hj,z⟩:=iJ z;rcases z2 with z2|z2|⟨i,z2,n⟩
  .exact E1.dx j a z z2
  .obtain⟨o,q⟩:=E1.dom a (.inl ⟨j,z⟩);rw[z2,hD]at q;cases q
  .have:=E1.dj j i a z z2;subst this;exact n k hj
 .rcases z with⟨k,z⟩|z|z|⟨i,z,_⟩
  .obtain⟨j,hj,z⟩:=iJ z;obtain⟨o,q⟩:=E1.dom a (.inl ⟨j,z⟩);exact⟨o,u2 a o q⟩
  .obtain⟨o,q⟩:=E1.dom a (.inr z);exact⟨o,u2 a o q⟩
  .subst z;exact⟨_,aF⟩
  .obtain⟨o,q⟩:=E1.dom a (.inl ⟨i,z⟩);exact⟨o,u2 a o q⟩
def A7{J:It}{fin:List D}{enf:En}{D:Addr}(hc:fA ds1 js dsi=true)(hd:dn d=cd)(hz:d≠0)(hl:lk=fW js 0)(P1:Post K p ds1 Ox σ H en R en1 H1 R1 NoA)(wk:kI K (Own R1 Ox) H1 J ts)(hD:H1 D=none)(h2:lcF g c f ts [] (eR js en1)=some (fin,enf))
  (k:∀v H' R' F,Post K (p&&q) ds1 Ox σ H en R (if q then en1 else wbB js enf en1) H' R' F->Ow K (Own R' (U F Ox)) H' (.list fin) d v F->Q v H'):su J (tFG K lk dsi dsi g) (tFT K q dsi dsi c) (tF K q dsi dsi cd f) (eQ js σ) H1 D Q:=by
 obtain⟨cl,c1,c2⟩:=kH hc;have E1:=P1.env0;have EI:=KJ hc E1 hD;generalize hRI:qG js R1=RI at EI;have ri1:∀k j:Nat,js[k]?=some (some j)->RI k=R1 j:=λk j z=>by rw[<-hRI];exact wt z
 have ric:∀(k:Nat) a,RI k a->∃j,js[k]?=some (some j)/\R1 j a:=λk a z=>by rw[<-hRI]at z;exact iJ z
 let OxI:AS:=KK Ox D R1 js
 have nD:∀a,Own R1 Ox a->a≠D:=λa z z2=>by
  subst z2;obtain⟨o,q⟩:=E1.dom a z;rw[hD]at q;cases q
 have u2:∀a o,H1 a=some o->upd H1 D (.lst []) a=some o:=λa o q=>(bJ (o:=.lst []) hD).1 a o q;refine⟨λi n τ H'=>∃eni RI' acc vs Fa,n=ts.length-i/\i<=ts.length/\PostS K lk dsi OxI (eQ js σ) H1 RI τ eni H' RI' Fa/\H' D=some (.lst vs)/\Ows K (Own RI' (U Fa OxI)) H' acc cd vs Fa/\lcF g c f (ts.drop i) acc eni=some (fin,enf) /\
   (q=true->(∀k j:Nat,js[k]?=some (some j)->RI' k=RI k)/\(∀a o,H1 a=some o->H' a=some o)),
  ⟨_,eR js en1,RI,[],[],NoA,rfl,zbj _,⟨by rw[fC];exact EI,λ_ z=>z.elim,λa o q _=>u2 a o q,λa z=>z.elim (λz=>z.elim) .inl,λa o q=>⟨o,u2 a o q⟩,λ_ _=>rfl⟩,aF,rfl,h2,λ_=>⟨λ_ _ _=>rfl,u2⟩⟩,?_⟩
 rintro i n τ H2 ⟨eni,RI2,acc,vs,Fa,rfl,hi,P2,hDl,oacc,hr,pu⟩;have fN:∀a,Own RI2 (U Fa OxI) a->Own R1 Ox a\/H1 a=none:=λa z=>by
  rcases z with z|z|z|z|⟨i,z,_⟩
  .rcases P2.own a (.inr z)with⟨k,z⟩|z
   .obtain⟨j,_,z⟩:=ric k a z;exact .inl (.inl ⟨j,z⟩)
   .exact .inr z
  .rcases P2.own a (.inl z)with⟨k,z⟩|z
   .obtain⟨j,_,z⟩:=ric k a z;exact .inl (.inl ⟨j,z⟩)
   .exact .inr z
  .exact .inl (.inr z)
  .exact .inr (z▸hD)
  .exact .inl (.inl ⟨i,z⟩)
 obtain⟨w1,w2⟩:=wk i H2 (Own RI2 (U Fa OxI)) (λa o q z=>P2.keep a o q λk zk=>by
  obtain⟨j,_,zj⟩:=ric k a zk;exact z (.inl ⟨j,zj⟩)) fN λa z=>P2.env.dom a z
 have DO:OxI D:=.inr (.inl rfl);by_cases hlt:i<ts.length
 .obtain⟨go,yl⟩:=w1 ts[i] (zak hlt);rw[zbK hlt]at hr;obtain⟨en3,h3,hr⟩:=zaa.mp hr;obtain⟨⟨b,en4⟩,h4,hr⟩:=zaa.mp hr;refine .inr ⟨go,λτ' H'=>∃eni RI' acc vs Fa,PostS K lk dsi OxI (eQ js σ) H1 RI τ' eni H' RI' Fa/\H' D=some (.lst vs)/\Ows K (Own RI' (U Fa OxI)) H' acc cd vs Fa/\lcF g c f (ts.drop (i+1)) acc eni=some (fin,enf)/\(q=true->(∀k j:Nat,js[k]?=some (some j)->RI' k=RI k)/\(∀a o,H1 a=some o->H' a=some o)),
   λτ' H' z=>by
    obtain⟨eni,RI',acc,vs,Fa,P',x1,x2,x3,x4⟩:=z;exact⟨_,by lia,eni,RI',acc,vs,Fa,rfl,hlt,P',x1,x2,x3,x4⟩,λx H3 y=>?_⟩
  obtain⟨gr,ox⟩:=yl x H3 y;have P3:Post K true dsi (U Fa OxI) τ H2 eni RI2 eni H3 RI2 NoA:=Post.new P2.env gr λ_ z=>z.elim;have chain:∀{τ5 en5 H5 RI5 F5},PostS K lk dsi (U Fa OxI) τ H2 RI2 τ5 en5 H5 RI5 F5->PostS K lk dsi OxI (eQ js σ) H1 RI τ5 en5 H5 RI5 (U Fa F5):=λ{τ5 en5 H5 RI5 F5} P5=>by
   have n1:∀a,H2 a=none->H1 a=none:=λa z=>by
    cases q:H1 a with
    |none=>rfl
    |some o=>
     obtain⟨o',q'⟩:=P2.dom a o q;rw[z]at q';cases q'
   refine⟨lS▸P5.env,λa z z2=>?_,λa o q n=>?_,λa z=>?_,λa o q=>?_,λj hj=>(P5.lk j hj).trans (P2.lk j hj)⟩
   .rcases z with z|z
    .exact P2.fx a z z2
    .exact P5.fx a z (.inr z2)
   .refine P5.keep a o (P2.keep a o q n) λi z=>?_;rcases P2.own a (.inr ⟨i,z⟩)with⟨j,z⟩|z
    .exact n j z
    .rw[q]at z;cases z
   .rcases z with (z|z)|z
    .exact P2.own a (.inl z)
    .rcases P5.own a (.inl z)with z|z
     .exact P2.own a (.inr z)
     .exact .inr (n1 a z)
    .rcases P5.own a (.inr z)with z|z
     .exact P2.own a (.inr z)
     .exact .inr (n1 a z)
   .obtain⟨o',q'⟩:=P2.dom a o q;exact P5.dom a o' q'
  have carry:∀{τ5 en5 H5 RI5 F5},PostS K lk dsi (U Fa OxI) τ H2 RI2 τ5 en5 H5 RI5 F5->Ows K (Own RI5 (U (U Fa F5) OxI)) H5 acc cd vs Fa:=λ{τ5 en5 H5 RI5 F5} P5=>by
   refine Ows.mv (G:=Fa) ⟨λa o q z=>P5.keep a o q λi zi=>?_,λa z=>?_⟩ acc (λ_ z=>z) oacc
   .rcases z with z|z
    .exact z (.inl ⟨i,zi⟩)
    .exact P2.env.dx i a zi (.inl z)
   .rcases z with z | (z|z)|z
    .exact(P5.own a (.inr z)).imp .inl id
    .exact .inl (.inr (.inl z))
    .exact(P5.own a (.inl z)).imp .inl id
    .exact .inl (.inr (.inr z))
  have UFN:U Fa NoA=Fa:=jm λa=>⟨λz=>z.elim id λz=>z.elim,.inl⟩;refine⟨U Fa OxI,eni,RI2,ts[i],en3,P3.env0,ox,h3,λτ4 R4 P4 r4=>?_⟩;have P4':=(P3.s (lk:=lk)).after P4;refine⟨U Fa OxI,en3,R4,b,en4,P4.env0,h4,λH5 R5 P5=>?_⟩;have P5':=P4'.after (P5.s (lk:=lk));have pu5:q=true->(∀k j:Nat,js[k]?=some (some j)->R5 k=RI k)/\(∀a o,H1 a=some o->H5 a=some o):=λhq=>by
   obtain⟨_,b2,b3⟩:=P5.pure hq;obtain⟨e1,e2⟩:=pu hq;refine⟨λk j z=>?_,λa o qq=>b3 a o (gr a o (e2 a o qq))⟩;rw[b2,r4 k (by rw[hl];have:=ki (n:=0) z;rw[za3]at this;exact this)];exact e1 k j z
  cases b with
  |false=>
   dsimp only
   rw[if_neg zbn];have c5:=chain P5';have o5:=carry P5';rw[UFN]at c5 o5;exact⟨en4,R5,acc,vs,Fa,c5,P5'.keep D _ hDl λk z=>P2.env.dx k D z (.inr DO),o5,hr,pu5⟩
  |true=>
   dsimp only
   rw[if_pos rfl];obtain⟨⟨t6,en6⟩,h6,hr⟩:=zaa.mp (show((f en4).bind λq=>if acc.length<sizeLine then lcF g c f (ts.drop (i+1)) (acc++[q.1]) q.2 else none)=some (fin,enf)from hr);refine⟨U Fa OxI,en4,R5,t6,en6,P5.env0,h6,λv H6 R6 F6 P6 o6=>?_⟩;have P6':=P5'.after (P6.s (lk:=lk));by_cases ξ:acc.length<sizeLine
   case neg=>rw[if_neg ξ]at hr;cases hr
   rw[if_pos ξ]at hr;have hD6:=P6'.keep D _ hDl λk z=>P2.env.dx k D z (.inr DO);refine⟨vs,hD6,by rw[oacc.len];exact ξ,en6,R6,acc++[t6],vs++[v],U Fa F6,?_,aF,?_,hr,?_⟩
   .have c6:=chain P6';have xM:∀a o,H6 a=some o->a≠D->upd H6 D (.lst (vs++[v])) a=some o:=λa o q n=>by rw[az n];exact q
    refine⟨⟨λk t hk=>?_,c6.env.dj,c6.env.dx,λa z=>?_,c6.env.l1,c6.env.l2⟩,c6.fx,λa o q n=>?_,c6.own,λa o q=>?_,c6.lk⟩
    .obtain⟨v',d',g1,g2,g3⟩:=c6.env.at_ k t hk;refine⟨v',d',g1,g2,Ow.mv (G:=R6 k) ⟨λa o q z=>xM a o q λzD=>?_,λa z=>.inl z⟩ t (λ_ z=>z) g3⟩;subst zD;rcases z with z|z
     .exact z (.inr (.inr DO))
     .exact c6.env.dx k a z (.inr DO)
    .by_cases ha:a=D
     .subst ha;exact⟨_,aF⟩
     .obtain⟨o,q⟩:=c6.env.dom a z;exact⟨o,xM a o q ha⟩
    .refine xM a o (c6.keep a o q n) λzD=>?_;subst zD;rw[hD]at q;cases q
    .obtain⟨o',q'⟩:=c6.dom a o q;by_cases ha:a=D
     .subst ha;exact⟨_,aF⟩
     .exact⟨o',xM a o' q' ha⟩
   .have o1:=carry P6';have o2:Ow K (Own R6 (U (U Fa F6) OxI)) H6 t6 cd v F6:=lS▸o6
    have:=Ows.snoc o1 o2 λb z1 z2=>P6.fx b z2 (.inl z1);refine Ows.mv (G:=U Fa F6) ⟨λa o q z=>?_,λa z=>.inl z⟩ _ (λ_ z=>z) this;rw[az]
    .exact q
    .intro zD;subst zD;rcases z with z|z|z
     .exact z (.inr (.inr DO))
     .exact P2.fx a z DO
     .exact P6.fx a z (.inr DO)
   .intro hq;obtain⟨_,b2,b3⟩:=P6.pure hq;obtain⟨e1,e2⟩:=pu5 hq;refine⟨λk j z=>by rw[b2];exact e1 k j z,λa o qq=>?_⟩;rw[az]
    .exact b3 a o (e2 a o qq)
    .intro zD;subst zD;rw[hD]at qq;cases qq
 .have e2:i=ts.length:=by lia
  subst e2;rw[List.drop_length]at hr;obtain⟨e3,e4⟩:acc=fin/\eni=enf:=by cases hr;exact⟨rfl,rfl⟩
  subst e3 e4;refine .inl ⟨w2 rfl,?_⟩;have fD:∀a,Fa a->a≠D:=λa z z2=>by
   subst z2;exact P2.fx a z DO
  cases hq:q with
  |true=>
   obtain⟨e1,e2⟩:=pu hq;subst hq;have fn:∀a,Fa a->H1 a=none:=λa z=>by
    rcases P2.own a (.inl z)with⟨k,z2⟩|z2
    .obtain⟨j,hj,z3⟩:=ric k a z2;rw[<-e1 k j hj]at z2;exact absurd (.inl z) (P2.env.dx k a z2)
    .exact z2
   have nt:NewTo H1 H2 (λa=>a=D\/Fa a):=⟨e2,λa z=>by
    rcases z with z|z
    .subst z;exact⟨hD,_,hDl⟩
    .exact⟨fn a z,P2.env.dom a (.inr (.inl z))⟩⟩
   have PF:=P1.fin nt;rw[zbS]at k;refine k (.ref D) H2 R1 _ PF ⟨D,vs,rfl,.inr ⟨hz,hDl,.inl rfl,Fa,λb z=>⟨.inr z,fD b z⟩,?_⟩⟩;rw[hd];refine Ows.grow (λa z=>?_) _ (λ_ z=>z) oacc;rcases z with⟨i,z⟩ | (z|z)|z
   .by_cases hc2:∃kk:Nat,js[kk]?=some (some i)
    .obtain⟨kk,hk⟩:=hc2;refine .inl ⟨kk,?_⟩;rw[e1 kk i hk,ri1 kk i hk];exact z
    .exact .inr (.inr (.inr (.inr ⟨i,z,λkk hk=>hc2 ⟨kk,hk⟩⟩)))
   .exact .inr (.inr (z▸DO))
   .exact .inr (.inl z)
   .exact .inr (.inr (.inl z))
  |false=>
   subst hq;rw[zbT]at k
   classical
   let R3:Nat->AS:=λi=>if hh:∃kk:Nat,js[kk]?=some (some i)then RI2 hh.choose else R1 i
   have r31:∀(i kk:Nat),js[kk]?=some (some i)->R3 i=RI2 kk:=λi kk z=>by
    have hh:∃kk:Nat,js[kk]?=some (some i):=⟨kk,z⟩
    have:hh.choose=kk:=c2 _ _ i hh.choose_spec z;show(if hh:∃kk:Nat,js[kk]?=some (some i)then RI2 hh.choose else R1 i)=RI2 kk;rw[dif_pos hh,this]
   have r32:∀i:Nat,(∀kk:Nat,js[kk]?≠some (some i))->R3 i=R1 i:=λi z=>by
    show(if hh:∃kk:Nat,js[kk]?=some (some i)then RI2 hh.choose else R1 i)=R1 i;rw[dif_neg λ⟨j,q⟩=>z j q]
   have r3c:∀(i:Nat) a,R3 i a->(∃kk:Nat,js[kk]?=some (some i)/\RI2 kk a)\/((∀kk:Nat,js[kk]?≠some (some i))/\R1 i a):=λi a z=>by
    by_cases hh:∃kk:Nat,js[kk]?=some (some i)
    .obtain⟨kk,hk⟩:=hh;rw[r31 i kk hk]at z;exact .inl ⟨kk,hk,z⟩
    .rw[r32 i λj z=>hh ⟨j,z⟩]at z;exact .inr ⟨λj z=>hh ⟨j,z⟩,z⟩
   have eE:∀a,Own R3 (U (λa=>a=D\/Fa a) Ox) a->Own RI2 (U Fa OxI) a:=λa z=>by
    rcases z with⟨i,z⟩ | (z|z)|z
    .rcases r3c i a z with⟨j,_,z⟩|⟨n,z⟩
     .exact .inl ⟨j,z⟩
     .exact .inr (.inr (.inr (.inr ⟨i,z,n⟩)))
    .exact .inr (.inr (z▸DO))
    .exact .inr (.inl z)
    .exact .inr (.inr (.inl z))
   have el:eni.length=js.length:=by rw[P2.env.l1,<-P2.env.l2];exact cl
   have riO:∀(kk:Nat) a,RI kk a->Own R1 Ox a:=λkk a z=>by
    obtain⟨j,_,z⟩:=ric kk a z;exact .inl ⟨j,z⟩
   have env3:EnvOk K ds1 (U (λa=>a=D\/Fa a) Ox) H2 σ (wbB js eni en1) R3:=by
    refine⟨λi u hu=>?_,λi i' a z z'=>?_,λi a z z2=>?_,λa z=>P2.env.dom a (eE a z),by rw[pZ];exact E1.l1,E1.l2⟩
    .by_cases hh:∃kk:Nat,js[kk]?=some (some i)
     .obtain⟨kk,hk⟩:=hh;obtain⟨dd,q1,q2⟩:=c1 kk i hk;have hil:i<en1.length:=by rw[E1.l1,<-E1.l2];exact(zah.mp q2).1
      rw[sF js eni en1 i kk hk (λk' z=>c2 k' kk i z hk) el hil]at hu;obtain⟨v,d',g1,g2,g3⟩:=P2.env.at_ kk u hu;rw[q1]at g2;cases g2;have hlk:=P2.lk kk (by rw[hl];have:=ki (n:=0) hk;rw[za3]at this;exact this);rw[hlk]at g1;refine⟨v,dd,?_,q2,?_⟩
      .unfold eQ at g1;rw[zao,hk]at g1;have g1':(σ[i]?).join=some v:=zat g1;cases q3:σ[i]? with
       |none=>rw[q3]at g1';cases g1'
       |some o=>rw[q3]at g1';exact congrArg some g1'
      .rw[r31 i kk hk];exact Ow.grow eE u (λ_ z=>z) g3
     .rw[mq js eni en1 i λj z=>hh ⟨j,z⟩]at hu;have ns:∀j:Nat,js[j]?≠some (some i):=λj z=>hh ⟨j,z⟩;obtain⟨v,d',g1,g2,g3⟩:=E1.at_ i u hu;refine⟨v,d',g1,g2,?_⟩;rw[r32 i ns];refine Ow.mv (G:=R1 i) ⟨λa o q z=>P2.keep a o q λj zj=>?_,λa z=>fN a (eE a z)⟩ u (λ_ z=>z) g3;obtain⟨j',hj',zj⟩:=ric j a zj;rcases z with z|z
      .exact z (.inl ⟨j',zj⟩)
      .have:=E1.dj i j' a z zj;subst this;exact ns j hj'
    .rcases r3c i a z with⟨j,q,z⟩|⟨n,z⟩<;>rcases r3c i' a z' with⟨j',q',z'⟩|⟨n',z'⟩
     .have:=P2.env.dj j j' a z z';subst this;rw[q]at q';cases q';rfl
     .exact absurd (.inr (.inr (.inr ⟨i',z',n'⟩))) (P2.env.dx j a z)
     .exact absurd (.inr (.inr (.inr ⟨i,z,n⟩))) (P2.env.dx j' a z')
     .exact E1.dj i i' a z z'
    .rcases r3c i a z with⟨j,q,z⟩|⟨n,z⟩
     .refine P2.env.dx j a z ?_;rcases z2 with (z2|z2)|z2
      .exact .inr (z2▸DO)
      .exact .inl z2
      .exact .inr (.inl z2)
     .rcases z2 with (z2|z2)|z2
      .exact nD a (.inl ⟨i,z⟩) z2
      .exact P2.fx a z2 (.inr (.inr ⟨i,z,n⟩))
      .exact E1.dx i a z z2
   have n1:∀a,H1 a=none->H a=none:=λa z=>by
    cases q:H a with
    |none=>rfl
    |some o=>
     obtain⟨o',q'⟩:=P1.dom a o q;rw[z]at q';cases q'
   refine k (.ref D) H2 R3 (λa=>a=D\/Fa a) ⟨env3,λa z z2=>?_,λa o q n=>?_,λa z=>?_,λa o q=>?_,λz=>nomatch z⟩ ⟨D,vs,rfl,.inr ⟨hz,hDl,.inl rfl,Fa,λb z=>⟨.inr z,fD b z⟩,?_⟩⟩
   .rcases z with z|z
    .exact nD a (.inr z2) z
    .exact P2.fx a z (.inl z2)
   .refine P2.keep a o (P1.keep a o q n) λkk z=>?_;obtain⟨j,_,z⟩:=ric kk a z;rcases P1.own a (.inr ⟨j,z⟩)with⟨i',z⟩|z
    .exact n i' z
    .rw[q]at z;cases z
   .have h3:(∃i,R1 i a)\/H1 a=none:=by
     have h4:(Fa a\/∃kk,RI2 kk a)->(∃i,R1 i a)\/H1 a=none:=λz=>by
      rcases P2.own a z with⟨kk,z⟩|z
      .obtain⟨j,_,z⟩:=ric kk a z;exact .inl ⟨j,z⟩
      .exact .inr z
     rcases z with (z|z)|⟨i,z⟩
     .exact .inr (z▸hD)
     .exact h4 (.inl z)
     .rcases r3c i a z with⟨j,_,z⟩|⟨n,z⟩
      .exact h4 (.inr ⟨j,z⟩)
      .exact .inl ⟨i,z⟩
    rcases h3 with h3|h3
    .exact P1.own a (.inr h3)
    .exact .inr (n1 a h3)
   .obtain⟨o',q'⟩:=P1.dom a o q;exact P2.dom a o' q'
   .rw[hd];exact Ows.grow eE _ (λ_ z=>z) oacc
def BU(hc:fA ds1 js dsi=true)(hd:dn d=cd)(hz:d≠0)(hl:lk=fW js 0)(h:tF K (p&&q) ds ds1 d (eLC q fi g c f js) σ H Q):
  tLC (tFI K p ds ds1 fi) (tFG K lk dsi dsi g) (tFT K q dsi dsi c) (tF K q dsi dsi cd f) js σ H Q:=by
 obtain⟨Ox,en,R,t,en',e,hf,k⟩:=h;unfold eLC at hf;obtain⟨⟨ts,en1⟩,h1,hf⟩:=zaa.mp hf;obtain⟨⟨fin,enf⟩,h2,hf⟩:=zab.mp hf;cases hf;exact⟨Ox,en,R,ts,en1,e,h1,λJ H1 R1 P1 wk D hD=>A7 hc hd hz hl P1 wk hD h2 k⟩
end
noncomputable def msk:List Nat->En->En
 |d::ds,o::en=>(if d=0 then none else o)::msk ds en
 |_,_=>[]
def fnF(n:Nat)(dps:List Nat)(b:MS):List PyData->Option (PyData×En):=λts=>(b (ts.map some++List.replicate n none)).bind λfl=>match fl with
 |.rt t en=>some (t,msk dps en)
 |.nx en=>some (.none,msk dps en)
 |.ct _=>none
noncomputable def qt(dps:List Nat):List Nat:=(List.range dps.length).filter λj=>dps[j]? != some 0
section
variable{t t1 t2:PyData}{D:Ends}
theorem vX:∀{dps:List Nat} {en:En} {j:Nat} {u:PyData},(msk dps en)[j]?=some (some u)->∃d,dps[j]?=some d/\d≠0/\en[j]?=some (some u)
 |[],en,j,u,h=>by unfold msk at h;simp at h
 |d::ds,[],j,u,h=>by unfold msk at h;simp at h
 |d::ds,o::en,j,u,h=>by
  unfold msk at h;cases j with
  |zero=>
   by_cases hd:d=0
   .simp[hd]at h
   .refine⟨d,rfl,hd,?_⟩;simpa[hd]using h
  |succ j=>
   have:=vX (dps:=ds) (en:=en) (j:=j) (u:=u) (by simpa using h);simpa using this
theorem vW:∀{dps:List Nat} {en:En},dps.length<=en.length->(msk dps en).length=dps.length
 |[],en,_=>by unfold msk;rfl
 |d::ds,[],h=>by simp at h
 |d::ds,o::en,h=>by
  unfold msk;rw[zac,zac,vW (by simpa using h)]
def Ge{E:XK}{b:MS}(hn:N.length-dps.length=n)(h:spF K dps dr (fnF n dps b) vs H Q E):
  tFS K ⟨qt dps,dps++List.replicate n 0,dr,[]⟩ (dps++List.replicate n 0) (dps++List.replicate n 0) b { nx:=λ_ H'=>Q .non H',rt:=Q } (dm N vs) H:=by
 obtain⟨Ox,ts,R,r,ψ,e,hf,k⟩:=h;have lv:dps.length=vs.length:=by have:=e.l2;rw[zad]at this;exact this
 have lt:ts.length=vs.length:=by have:=e.l1;rw[zad,zad]at this;exact this
 have hs:dm N vs=vs.map some++List.replicate n none:=by unfold dm;rw[<-lv,hn]
 unfold fnF at hf;obtain⟨fl,h1,hf⟩:=zaa.mp hf;have get0:∀{α:Type} (xs:List α) (i:Nat) (u:α),(xs.map some++List.replicate n none)[i]?=some (some u)->(xs.map some)[i]?=some (some u)/\i<xs.length:=λxs i u z=>by
  by_cases hi:i<xs.length
  .rw[zaR (by rw[zad];exact hi)]at z;exact⟨z,hi⟩
  .rw[zbG (by rw[zad];lia),List.getElem?_replicate]at z;split at z
   .cases z
   .cases z
 have e0:EnvOk K (dps++List.replicate n 0) Ox H (dm N vs) (ts.map some++List.replicate n none) R:=by
  rw[hs];refine⟨λi u hu=>?_,e.dj,e.dx,e.dom,by simp[lt],by simp[lv]⟩;obtain⟨hu',hi⟩:=get0 ts i u hu;obtain⟨v,d,g1,g2,g3⟩:=e.at_ i u hu';refine⟨v,d,?_,?_,g3⟩
  .rw[zaR (by rw[zad];lia)];exact g1
  .rw[zaR (by lia)];exact g2
 have back:∀{σ' en' H' R' F},PostS K (qt dps) (dps++List.replicate n 0) Ox (dm N vs) H R σ' en' H' R' F->Post K false dps Ox (vs.map some) H (ts.map some) R (msk dps en') H' R' F:=λ{σ' en' H' R' F} P=>by
  have l1:=P.env.l1;have l2:=P.env.l2;rw[zae,List.length_replicate]at l2;refine⟨⟨λj u hu=>?_,P.env.dj,P.env.dx,P.env.dom,by rw[vW (by lia),zad];exact lv,by rw[zad];exact lv⟩,P.fx,P.keep,P.own,P.dom,λz=>nomatch z⟩;obtain⟨d,a1,a2,a3⟩:=vX hu;obtain⟨v,d',g1,g2,g3⟩:=P.env.at_ j u a3;have hj:j<dps.length:=(zah.mp a1).1;have hlk:j∈qt dps:=by
   unfold qt;rw[zbB,zbq];refine⟨hj,?_⟩;rw[a1];simpa using a2
  rw[P.lk j hlk,hs,zaR (by rw[zad];lia)]at g1;rw[zaR hj]at g2;exact⟨v,d',g1,g2,g3⟩
 refine⟨Ox,_,R,fl,e0,h1,?_⟩;cases fl with
 |nx en2=>
  cases hf;exact λσ2 H2 R2 P2=>k .non H2 R2 NoA (back P2) rfl
 |ct en2=>cases hf
 |rt t en2=>
  cases hf;exact λv σ2 H2 R2 F P2 o=>k v H2 R2 F (back P2) o
def Post.slot{F:AS}{o2:HO}(P:Post K p ds1 Ox σ H en R en1 H1 R1 F)(hl:R1 i l)(hi:i<en1.length)(hv:σ[i]?=some (some v))(hd:ds1[i]?=some d)
  (hg:∀a,G a->R1 i a\/F a) (hf:∀a,F' a->R1 i a\/F a) (hx:∀a,G a->¬F' a)
  (ho:Ow K (Own (λj=>if j=i then G else R1 j) (U F' Ox)) (upd H1 l o2) t d v G):
  Post K false ds1 Ox σ H en R (en1.set i (some t)) (upd H1 l o2) (λj=>if j=i then G else R1 j) F':=by
 have rc:∀(j:Nat) a,(if j=i then G else R1 j) a->R1 j a\/(j=i/\F a):=λj a z=>by
  by_cases hj:j=i
  .rw[if_pos hj]at z;rcases hg a z with z|z
   .exact .inl (hj▸z)
   .exact .inr ⟨hj,z⟩
  .rw[if_neg hj]at z;exact .inl z
 have sub:∀a,Own (λj=>if j=i then G else R1 j) (U F' Ox) a->Own R1 (U F Ox) a:=λa z=>by
  rcases z with⟨j,z⟩|z|z
  .rcases rc j a z with z|⟨_,z⟩
   .exact .inl ⟨j,z⟩
   .exact .inr (.inl z)
  .rcases hf a z with z|z
   .exact .inl ⟨i,z⟩
   .exact .inr (.inl z)
  .exact .inr (.inr z)
 have dom2:∀a o,H1 a=some o->∃o',upd H1 l o2 a=some o':=λa o q=>by
  by_cases ha:a=l
  .subst ha;exact⟨_,aF⟩
  .exact⟨o,by rw[az ha];exact q⟩
 have nl:∀a o,H1 a=some o->a≠l->upd H1 l o2 a=some o:=λa o q n=>by rw[az n];exact q
 refine⟨⟨λj u hu=>?_,λj j' a z z'=>?_,λj a z z2=>?_,λa z=>?_,by rw[zaU];exact P.env.l1,P.env.l2⟩,λa z z2=>?_,λa o q n=>?_,λa z=>?_,λa o q=>?_,λz=>nomatch z⟩
 .by_cases hj:j=i
  .subst hj;rw[zaO hi]at hu;cases hu;refine⟨v,d,hv,hd,?_⟩;rw[if_pos rfl];exact ho
  .rw[zaN (Ne.symm hj)]at hu;obtain⟨v',d',g1,g2,g3⟩:=P.env.at_ j u hu;refine⟨v',d',g1,g2,?_⟩;rw[if_neg hj];refine Ow.mv (G:=R1 j) ⟨λa o q z=>nl a o q λza=>?_,λa z=>.inl (sub a z)⟩ u (λ_ z=>z) g3;subst za;rcases z with z|z
   .exact z (.inl ⟨i,hl⟩)
   .exact hj (P.env.dj j i a z hl)
 .have z0:=z;have z0':=z';by_cases hj:j=i<;>by_cases hj':j'=i
  .rw[hj,hj']
  .rw[if_pos hj]at z0;rw[if_neg hj']at z0';rcases hg a z0 with z1|z1
   .exact absurd (P.env.dj i j' a z1 z0') (λe=>hj' e.symm)
   .exact absurd (.inl z1) (P.env.dx j' a z0')
  .rw[if_neg hj]at z0;rw[if_pos hj']at z0';rcases hg a z0' with z1|z1
   .exact absurd (P.env.dj j i a z0 z1) hj
   .exact absurd (.inl z1) (P.env.dx j a z0)
  .rw[if_neg hj]at z0;rw[if_neg hj']at z0';exact P.env.dj j j' a z0 z0'
 .have z0:=z;by_cases hj:j=i
  .rw[if_pos hj]at z0;rcases z2 with z2|z2
   .exact hx a z0 z2
   .rcases hg a z0 with z1|z1
    .exact P.env.dx i a z1 (.inr z2)
    .exact P.fx a z1 z2
  .rw[if_neg hj]at z0;rcases z2 with z2|z2
   .rcases hf a z2 with z1|z1
    .exact hj (P.env.dj j i a z0 z1)
    .exact P.env.dx j a z0 (.inl z1)
   .exact P.env.dx j a z0 (.inr z2)
 .obtain⟨o,q⟩:=P.env.dom a (sub a z);exact dom2 a o q
 .rcases hf a z with z1|z1
  .exact P.env.dx i a z1 (.inr z2)
  .exact P.fx a z1 z2
 .refine nl a o (P.keep a o q n) λza=>?_;subst za;rcases P.own a (.inr ⟨i,hl⟩)with⟨j,z⟩|z
  .exact n j z
  .rw[q]at z;cases z
 .have:F a\/∃j,R1 j a:=by
   rcases z with z|⟨j,z⟩
   .rcases hf a z with z|z
    .exact .inr ⟨i,z⟩
    .exact .inl z
   .rcases rc j a z with z|⟨_,z⟩
    .exact .inr ⟨j,z⟩
    .exact .inl z
  exact P.own a this
 .obtain⟨o',q'⟩:=P.dom a o q;exact dom2 a o' q'
def l6{F:AS}(hg:∀a,G a->R1 i a\/F a)(hf:∀a,F' a->R1 i a\/F a):∀a,Own (λj=>if j=i then G else R1 j) (U F' Ox) a->Own R1 (U F Ox) a:=λa z=>by
 rcases z with⟨j,z⟩|z|z
 .by_cases hj:j=i
  .rw[if_pos hj]at z;rcases hg a z with z|z
   .exact .inl ⟨i,z⟩
   .exact .inr (.inl z)
  .rw[if_neg hj]at z;exact .inl ⟨j,z⟩
 .rcases hf a z with z|z
  .exact .inl ⟨i,z⟩
  .exact .inr (.inl z)
 .exact .inr (.inr z)
def aO{α:Type}{en:List (Option α)}{t:α}(h:(en[i]?).join=some t):en[i]?=some (some t):=by
 cases q:en[i]? with
 |none=>rw[q]at h;cases h
 |some o=>rw[q]at h;exact congrArg some h
def Ow.sqL{ts:List PyData}{F:AS}(h:Ow K O H (.list ts) d v F):∃a vs,v=.ref a/\SqL K H a vs:=by
 obtain⟨a,vs,e,⟨_,h1,_⟩|⟨_,h1,_⟩⟩:=h
 .exact⟨a,vs,e,h1.sq⟩
 .exact⟨a,vs,e,SqL.of h1⟩
def Ow.ownL{ts:List PyData}{F:AS}(hd:d≠0)(h:Ow K O H (.list ts) d v F):∃a vs,v=.ref a/\H a=some (.lst vs)/\F a/\∃F':AS,(∀b,F' b->F b/\b≠a)/\Ows K O H ts (dn d) vs F':=by
 obtain⟨a,vs,e,⟨h0,_⟩|⟨_,h1,h2,F',h3,h4⟩⟩:=h
 .exact absurd h0 hd
 .exact⟨a,vs,e,h1,h2,F',h3,h4⟩
def Ows.past{ts:List PyData}{F:AS}(ho:∀a,O' a->O a)(hl:O l)(hf:∀b,F b->b≠l)(h:Ows K O H ts d vs F):Ows K O' (upd H l o) ts d vs F:=
 Ows.mv (G:=F) ⟨λa u q z=>by
  rw[az]
  .exact q
  .intro za;subst za;rcases z with z|z
   .exact z hl
   .exact hf a z rfl,λa z=>.inl (ho a z)⟩ ts (λ_ z=>z) h
def Ow.past{F:AS}(ho:∀a,O' a->O a)(hl:O l)(hf:∀b,F b->b≠l)(h:Ow K O H t d v F):Ow K O' (upd H l o) t d v F:=
 Ow.mv (G:=F) ⟨λa u q z=>by
  rw[az]
  .exact q
  .intro za;subst za;rcases z with z|z
   .exact z hl
   .exact hf a z rfl,λa z=>.inl (ho a z)⟩ t (λ_ z=>z) h
noncomputable def gD(i:Nat)(f:ME):ME:=λen=>match (en[i]?).join with
 |some (.list _)=>(f en).bind λr=>match (r.2[i]?).join with
  |some (.list ts)=>if ts.length<sizeLine then some (.none,r.2.set i (some (.list (ts++[r.1]))))else none
  |_=>none
 |_=>none
def LM(hd:ds1[i]?=some d)(hz:d≠0)(hc:dn d=c)(h:tF K false ds ds1 3 (gD i f) σ H Q):tBM K "list" vI (cV i) (mr (tF K p ds ds1 c f) p9) σ H Q:=by
 obtain⟨Ox,en,R,t,en',e,hf,k⟩:=h;unfold gD at hf;split at hf
 case h_2=>cases hf
 next ts0 h0=>
 obtain⟨⟨t1,en1⟩,h1,hf⟩:=zaa.mp hf
 dsimp only at hf
 split at hf
 case h_2=>cases hf
 next ts h2=>
 by_cases ξ:ts.length<sizeLine
 case neg=>rw[if_neg ξ]at hf;cases hf
 rw[if_pos ξ]at hf;cases hf;obtain⟨v,d0,a1,_,a3⟩:=e.at_ i _ (aO h0);obtain⟨l0,vs0,e0,sq⟩:=a3.sqL;refine⟨v,a1,?_,Ox,en,R,t1,en1,e,h1,λx H1 R1 F P o=>?_⟩
 .rw[e0];exact .inl ⟨rfl,vs0,sq⟩
 obtain⟨v',d',b1,b2,b3⟩:=P.env.at_ i _ (aO h2);rw[a1]at b1;cases b1;rw[hd]at b2;cases b2;obtain⟨l,vs,el,hl,hr,F',hf',ow⟩:=b3.ownL hz;refine⟨l,vs,x,el,rfl,hl,by rw[ow.len];exact ξ,?_⟩;have hi:i<en1.length:=(zah.mp (aO h2)).1;have Fn:∀a,F a->a≠l:=λa z z2=>by
  subst z2;exact P.env.dx i a hr (.inl z)
 have sub:=l6 (i:=i) (R1:=R1) (Ox:=Ox) (G:=λa=>R1 i a\/F a) (F':=NoA) (F:=F) (λ_ z=>z) (λ_ z=>z.elim);have Ol:Own R1 (U F Ox) l:=.inl ⟨i,hr⟩;refine k .non (upd H1 l (.lst (vs++[x]))) _ NoA (P.slot (G:=λa=>R1 i a\/F a) hr hi a1 hd (λ_ z=>z) (λ_ z=>z.elim) (λ_ _ z=>z) ?_) rfl;refine⟨l,vs++[x],el,.inr ⟨hz,aF,.inl hr,U F' F,λb z=>?_,?_⟩⟩
 .rcases z with z|z
  .exact⟨.inl (hf' b z).1,(hf' b z).2⟩
  .exact⟨.inr z,Fn b z⟩
 .refine Ows.snoc (Ows.past sub Ol (λb z=>(hf' b z).2) ow) ?_ λb z1 z2=>P.env.dx i b (hf' b z1).1 (.inl z2);rw[hc];exact Ow.past sub Ol Fn o
noncomputable def Mq(i:Nat)(f:ME):ME:=λen=>match (en[i]?).join with
 |some (.list _)=>(f en).bind λr=>match r.1,(r.2[i]?).join with
  |.int n,some (.list ts)=>if -(2 ^ 63)<=n/\n<2 ^ 63 then(seqIndex? n ts.length).bind λk=>(ts[k]?).map λt=>(t,r.2.set i (some (.list (ts.eraseIdx k))))else none
  |_,_=>none
 |_=>none
theorem Ows.rev:∀{ts:List PyData} {vs:List V} {F:AS},Ows K O H ts d vs F->Ows K O H ts.reverse d vs.reverse F
 |[],_,_,h=>by rw[show _=[]from h];rfl
 |t::ts,_,F,h=>by
  obtain⟨v,r,F1,F2,e,s1,s2,s3,h4,h5⟩:=h;subst e;rw[List.reverse_cons,List.reverse_cons];exact Ows.grow (λ_ z=>z) _ (λb z=>z.elim (s2 b) (s1 b)) (Ows.snoc h5.rev h4 λb z1 z2=>s3 b z2 z1)
theorem Ows.setAt:∀{ts:List PyData} {vs:List V} {F F2:AS} {k:Nat} {t:PyData} {v:V},Ows K O H ts d vs F->Ow K O H t d v F2->(∀b,F b->¬F2 b)->Ows K O H (ts.set k t) d (vs.set k v) (U F F2)
 |[],_,_,_,_,_,_,h,_,_=>by rw[show _=[]from h];rfl
 |u::ts,_,F,F2,k,t,v,h,h2,hd=>by
  obtain⟨w,r,G1,G2,e,s1,s2,s3,h4,h5⟩:=h;subst e;cases k with
  |zero=>exact⟨v,r,F2,G2,rfl,λ_ z=>.inr z,λb z=>.inl (s2 b z),λb z z2=>hd b (s2 b z2) z,h2,h5⟩
  |succ k=>
   refine⟨w,r.set k v,G1,U G2 F2,rfl,λb z=>.inl (s1 b z),λb z=>z.imp (s2 b) id,λb z z2=>?_,h4,Ows.setAt h5 h2 λb z=>hd b (s2 b z)⟩;rcases z2 with z2|z2
   .exact s3 b z z2
   .exact hd b (s1 b z) z2
def fO(i:Nat)(fk fe:ME):MS:=λen=>(fe en).bind λr=>match (r.2[i]?).join with
 |some _=>(fk r.2).bind λq=>match q.1,(q.2[i]?).join with
  |.int n,some (.list ts)=>(ixN ts.length n).map λk=>.nx (q.2.set i (some (.list (ts.set k r.1))))
  |_,_=>none
 |none=>none
def F8{fk:ME}(hd:ds2[i]?=some d)(hz:d≠0)(hc:dn d=c)(h:tFS K J ds ds2 (fO i fk fe) D σ H):
  sJ (tF K p1 ds ds1 c fe) (Kc (cV i) (tF K p2 ds1 ds2 d2 fk) Eu) D σ H:=by
 obtain⟨Ox,en,R,fl,e,hf,k⟩:=h;unfold fO at hf;obtain⟨⟨t1,en1⟩,h1,hf⟩:=zaa.mp hf
 dsimp only at hf
 split at hf
 case h_2=>cases hf
 next tt h0=>
 obtain⟨⟨t2,en2⟩,h2,hf⟩:=zaa.mp hf
 dsimp only at hf
 split at hf
 case h_2=>cases hf
 next n ts h3=>
 obtain⟨kk,h4,hf⟩:=zab.mp hf;cases hf;refine⟨Ox,en,R,t1,en1,e,h1,λx H1 R1 F1 P1 o1=>?_⟩;obtain⟨v0,d0,a1,_,_⟩:=P1.env.at_ i tt (aO h0);refine⟨v0,a1,?_⟩;refine⟨U F1 Ox,en1,R1,.int n,en2,P1.env,h2,λy H2 R2 F2 P2 o2=>?_⟩;have P:=P1.trans P2;have o1':=Ow.over P1.env P2 o1;obtain⟨v',d',b1,b2,b3⟩:=P.env.at_ i _ (aO h3);rw[a1]at b1;cases b1;rw[hd]at b2;cases b2;obtain⟨l,vs,el,hl,hr,F',hf',ow⟩:=b3.ownL hz;refine⟨l,vs,n,kk,el,o2,hl,by rw[ow.len];exact h4,?_⟩;have hi:i<en2.length:=(zah.mp (aO h3)).1;have Fn:∀a,F1 a->a≠l:=λa z z2=>by
  subst z2;exact P.env.dx i a hr (.inl (.inl z))
 have gG:∀a,(λa=>R2 i a\/F1 a) a->R2 i a\/U F1 F2 a:=λa z=>z.imp id .inl;have sub:=l6 (i:=i) (R1:=R2) (Ox:=Ox) (G:=λa=>R2 i a\/F1 a) (F':=NoA) (F:=U F1 F2) gG (λ_ z=>z.elim);have Ol:Own R2 (U (U F1 F2) Ox) l:=.inl ⟨i,hr⟩;have PS:=P.slot (G:=λa=>R2 i a\/F1 a) (F':=NoA) (o2:=.lst (vs.set kk x)) (t:=.list (ts.set kk t1)) hr hi a1 hd gG (λ_ z=>z.elim) (λ_ _ z=>z) ?_
 .exact k σ _ _ PS.s
 refine⟨l,vs.set kk x,el,.inr ⟨hz,aF,.inl hr,U F' F1,λb z=>?_,?_⟩⟩
 .rcases z with z|z
  .exact⟨.inl (hf' b z).1,(hf' b z).2⟩
  .exact⟨.inr z,Fn b z⟩
 .refine Ows.setAt (Ows.past sub Ol (λb z=>(hf' b z).2) ow) ?_ λb z1 z2=>P.env.dx i b (hf' b z1).1 (.inl (.inl z2));rw[hc];exact Ow.past sub Ol Fn o1'
theorem Ows.get:∀{ts:List PyData} {vs:List V} {F:AS} {k:Nat} {t:PyData},Ows K O H ts d vs F->ts[k]?=some t->∃v,vs[k]?=some v/\Ow K O H t d v F
 |[],_,_,k,t,_,h=>by simp at h
 |u::ts,_,F,k,t,h,hk=>by
  obtain⟨v,r,F1,F2,e,s1,s2,s3,h4,h5⟩:=h;subst e;cases k with
  |zero=>
   have:u=t:=by simpa using hk
   subst this;exact⟨v,rfl,Ow.grow (λ_ z=>z) u s1 h4⟩
  |succ k=>
   obtain⟨w,g1,g2⟩:=Ows.get (k:=k) h5 (by simpa using hk);exact⟨w,by simpa using g1,Ow.grow (λ_ z=>z) t s2 g2⟩
def Ows.atI{ts:List PyData}{vs:List V}{F:AS}{n:Int}{t:PyData}(h:Ows K O H ts d vs F)(ht:L2.atI ts n=some t):∃v,L2.atI vs n=some v/\Ow K O H t d v F:=by
 unfold L2.atI at ht ⊢;rw[h.len];obtain⟨k,h1,h2⟩:=zaa.mp ht;obtain⟨v,g1,g2⟩:=h.get h2;exact⟨v,by rw[h1];exact g1,g2⟩
def dA(i:Nat)(f:ME):ME:=λen=>(en[i]?).join.bind λ_=>(f en).bind λr=>match r.1,(r.2[i]?).join with
 |.int n,some (.list ts)=>(atI ts n).map λt=>(t,r.2)
 |_,_=>none
def LG(hd:ds1[i]?=some 1)(h:tF K p ds ds1 0 (dA i f) σ H Q):tOp (wS K) (cV i) (tF K p ds ds1 d1 f) σ H Q:=by
 obtain⟨Ox,en,R,t,en',e,hf,k⟩:=h;unfold dA at hf;obtain⟨t0,h0,hf⟩:=zaa.mp hf;obtain⟨⟨t1,en1⟩,h1,hf⟩:=zaa.mp hf
 dsimp only at hf
 split at hf
 case h_2=>cases hf
 next n ts h2=>
 obtain⟨t',h3,hf⟩:=zab.mp hf;cases hf;obtain⟨v,d0,a1,_,a3⟩:=e.at_ i _ (aO h0);refine⟨v,a1,Ox,en,R,.int n,_,e,h1,λx H1 R1 F P o=>?_⟩;obtain⟨v',d',b1,b2,b3⟩:=P.env.at_ i _ (aO h2);rw[a1]at b1;cases b1;rw[hd]at b2;cases b2;obtain⟨l,vs,el,hl,hr,F',hf',ow⟩:=b3.ownL (by decide);obtain⟨w,g1,g2⟩:=ow.atI h3;refine⟨l,vs,n,w,el,o,SqL.of hl,g1,k w H1 R1 NoA (P.less λ_ z=>z.elim) ?_⟩;exact Ow.any0 _ (Ow.grow (λa z=>z.imp id λz=>z.elim (λz=>False.elim z) Or.inr) _ (λ_ z=>z) g2)
end
def PE.imp{t t':TE}(h:PE X e t)(hi:∀σ H Q,t' σ H Q->t σ H Q):PE X e t':=λρ s σ H Q I hw=>h ρ s σ H Q I (hi _ _ _ hw)
def PT.imp{t:TT}(h:PT X e t)(hi:∀σ H Q,t' σ H Q->t σ H Q):PT X e t':=λρ s σ H Q I hw=>h ρ s σ H Q I (hi _ _ _ hw)
def PW.imp{t:TT}(h:PW X e t)(hi:∀σ H Q,t' σ H Q->t σ H Q):PW X e t':=λwh ρ s σ H Q I hw=>h wh ρ s σ H Q I (hi _ _ _ hw)
def PA.imp{e:List Expr}{t t':TA}(h:PA X e t)(hi:∀σ H Q,t' σ H Q->t σ H Q):PA X e t':=λpos ρ s σ H Q I hw=>h pos ρ s σ H Q I (hi _ _ _ hw)
def PS.imp{e:Stmt}{t t':TS}(h:PS X e t)(hi:∀D σ H,t' D σ H->t D σ H):PS X e t':=λρ s σ H D I hw=>h ρ s σ H D I (hi _ _ _ hw)
def PSs.imp{e:List Stmt}{t t':TS}(h:PSs X e t)(hi:∀D σ H,t' D σ H->t D σ H):PSs X e t':=λρ s σ H D I hw=>h ρ s σ H D I (hi _ _ _ hw)
def PG.imp{t t':TG}(h:PG X e t)(hi:∀v σ H Q,t' v σ H Q->t v σ H Q):PG X e t':=λρ s σ H v u Q I r hw=>h ρ s σ H v u Q I r (hi _ _ _ _ hw)
def PGs.imp{e:List Expr}{t t':TGs}(h:PGs X e t)(hi:∀v σ H Q,t' v σ H Q->t v σ H Q):PGs X e t':=λρ s σ H v u Q I r hw=>h ρ s σ H v u Q I r (hi _ _ _ _ hw)
def PI.imp{t t':TI}(h:PI X tg e t)(hi:∀σ H R,t' σ H R->t σ H R):PI X tg e t':=λρ s σ H R I hw=>h ρ s σ H R I (hi _ _ _ hw)
def PTs.imp{e:List Expr}{t:TT}(h:PTs X e t)(hi:∀σ H Q,t' σ H Q->t σ H Q):PTs X e t':=λρ s σ H Q I hw=>h ρ s σ H Q I (hi _ _ _ hw)
noncomputable def aU:Expr->Bool
 |.Starred _ _=>false
 |_=>true
def bn(h:aU e=true):starEach (e::es) env=(false,eval e env)::starEach es env:=by
 cases e<;>first|rfl|cases h
theorem dY{pos:Pos}{env:Env}:∀{es:List Expr},es.all aU=true->(backTo pos (starEach es env)).any (·.1)=false
 |[],_=>rfl
 |e::es,h=>by
  rw[List.all_cons,zbm]at h;rw[bn h.1];show(false || (backTo pos (starEach es env)).any (·.1))=false;rw[dY h.2];rfl
section
variable{a c:Expr}{m:MT}    
def bW(hN:X.N[i]?=some x)(hv:Vis X.env.scope x)(h0:ds[i]?=some 0)(hd:(x==("__debug__":Str))=false)(hcd:(x==("__classdict__":Str))=false):QE X (.Name x pos) (tF K p ds ds 0 (ac i)):=⟨(cg hN hv hd hcd).imp λ_ _ _ h=>Ly h0 (gS (λ_=>rfl) h)⟩
def ag{n:Int}{j}:QE X (.Constant (.int n) j pos) (tF K p ds ds 3 (eC (.int n))):=⟨pe_int.imp λ_ _ _ h=>f_c (t:=.int n) (λ_ _ _ _=>rfl) (gS (λ_=>rfl) h)⟩
def gC{n:Bool}{j}:QE X (.Constant (.bool n) j pos) (tF K p ds ds 3 (eC (.bool n))):=⟨pe_bl.imp λ_ _ _ h=>f_c (t:=.bool n) (λ_ _ _ _=>rfl) (gS (λ_=>rfl) h)⟩
def dz{j}:QE X (.Constant .none j pos) (tF K p ds ds 3 (eC .none)):=⟨pe_non.imp λ_ _ _ h=>f_c (t:=.none) (λ_ _ _ _=>rfl) (gS (λ_=>rfl) h)⟩
def ck{n:Str}{j}:QE X (.Constant (.str n) j pos) (tF K p ds ds 3 (eC (.str n))):=⟨pe_str.imp λ_ _ _ h=>f_c (t:=.str n) (λ_ _ _ _=>rfl) (gS (λ_=>rfl) h)⟩
def bz(h:QE X e (tF K p ds ds' d f))(hd:Le4 d' d):QE X e (tF K p ds ds' d' f):=⟨h.h.imp λ_ _ _=>LC hd⟩
def dJ(h:QE X e (tF K p ds0 ds' d f))(hd:leD ds0 ds=true):QE X e (tF K false ds ds' d f):=⟨h.h.imp λ_ _ _=>L7 hd⟩
def gB(h:QE X e (tF K true ds0 ds0 3 f))(hd:leD ds0 ds=true):QE X e (tF K p ds ds 3 f):=⟨have h:=h.h;h.imp λ_ _ _ h=>LL hd (gS (λ_=>rfl) h)⟩
def aq{op:Operator}(ho:OpR X (binaryOp op) (rF2 K g d))(ha:QE X a (tF K p ds ds1 d1 f1))(hb:QE X b (tF K p ds1 ds2 d2 f2)):QE X (.BinOp a op b pos) (tF K p ds ds2 d (e2 g f1 f2)):=⟨(Ld ho ha.h hb.h).imp λ_ _ _ h=>mG (by rw[zbk];exact h)⟩
def dI{op:UnaryOp}{g:D->Option D}(ho:UnR X (unaryOp op) (rF1 K g d))(ha:QE X a (tF K p ds ds1 d1 f1)):QE X (.UnaryOp op a pos) (tF K p ds ds1 d (e1 g f1)):=⟨(Lc ho ha.h).imp λ_ _ _=>LD⟩
def eB(ho:OpR X (compareOp op) (rF2 K g d))(ha:QE X a (tF K p ds ds1 d1 f1))(hb:QE X b (tF K p ds1 ds2 d2 f2))(hm:behindInMarks op b=false):QE X (.Compare a [op] [b] pos) (tF K p ds ds2 d (e2 g f1 f2)):=⟨(Fw ho ha.h hb.h hm).imp λ_ _ _ h=>mG (by rw[zbk];exact h)⟩
def aJ(ho:OpR X (compareOp op) (rF2 K g d))(ha:QE X a (tF K p ds ds1 d1 f1))(hb:QE X b (tF K p ds1 ds2 d2 f2))(hm:behindInMarks op b=false):QT X (.Compare a [op] [b] pos) (tFT K p ds ds2 (tV (e2 g f1 f2))):=⟨(Fi ho ha.h hb.h hm).imp λσ H Q h=>by
  obtain⟨Ox,en,R,t,en',e,hf,k⟩:=pd (d:=d) h;exact mG (by rw[zbk];exact⟨Ox,en,R,t,en',e,hf,k⟩)⟩
def bA(h:QE X e (tF K p ds ds' d f))(he:∀χ,isTrue e X.env χ=(do let v <-χ;standAt e.pos;holding [v] (truthy v))):QT X e (tFT K p ds ds' (tV f)):=⟨(Js h.h he).imp λ_ _ _=>pd⟩
def gY(ha:QT X a (tFT K p ds ds1 c1)):QW X (.BoolOp .And [a] pos) (tFT K p ds ds1 c1):=⟨Fe ha.h⟩
def gA(ha:QT X a (tFT K p ds ds1 c1)):QW X (.BoolOp .Or [a] pos) (tFT K p ds ds1 c1):=⟨Jq ha.h⟩
def iR{rest:List Expr}(ha:QT X a (tFT K p ds ds1 c1))(hb:QW X (.BoolOp .And (b::rest) pos) (tFT K p ds1 ds1 c2)):QW X (.BoolOp .And (a::b::rest) pos) (tFT K p ds ds1 (fX c1 c2)):=⟨(Jr ha.h hb.h).imp λ_ _ _ h=>Kh (by rw[zbk];exact h)⟩
def gy{rest:List Expr}(ha:QT X a (tFT K p ds ds1 c1))(hb:QW X (.BoolOp .Or (b::rest) pos) (tFT K p ds1 ds1 c2)):QW X (.BoolOp .Or (a::b::rest) pos) (tFT K p ds ds1 (bOr c1 c2)):=⟨(K8 ha.h hb.h).imp λ_ _ _ h=>Lr (by rw[zbk];exact h)⟩
def fI(ha:QT X a (tFT K p ds ds1 c1)):QT X (.UnaryOp .Not a pos) (tFT K p ds ds1 (jC c1)):=⟨(Ju ha.h).imp λ_ _ _=>Kf⟩
def qZ(h:QT X e (tFT K true ds0 ds0 c1))(hd:leD ds0 ds=true):QT X e (tFT K p ds ds c1):=⟨h.h.imp λ_ _ _ ⟨Ox,en,R,t,en',e,hf,k⟩=>Kg hd ⟨Ox,en,R,t,en',e,hf,λH' R' P=>k H' R' ⟨P.env,P.fx,P.keep,P.own,P.dom,λ_=>P.pure rfl⟩⟩⟩
def nS{op}(h:QE X a (tF K p ds ds1 d f)):QE X (.BoolOp op [a] pos) (tF K p ds ds1 d f):=⟨JB h.h⟩
def iT{rest:List Expr}(ha:QE X a (tF K p ds ds1 d1 f1))(hb:QE X (.BoolOp .And (b::rest) pos) (tF K p ds1 ds1 d f2)):QE X (.BoolOp .And (a::b::rest) pos) (tF K p ds ds1 d (kE f1 f2)):=⟨(JE ha.h hb.h).imp λ_ _ _ h=>LN (by rw[zbk];exact h)⟩
def nT(ha:QE X a (tF K p ds ds1 d1 f)):QE X (.UnaryOp .Not a pos) (tF K p ds ds1 3 (nV f)):=⟨(JC ha.h).imp λ_ _ _=>LE⟩
def wf(hc:QT X c (tFT K p ds ds1 c1))(ha:QE X a (tF K p ds1 ds2 d f1))(hb:QE X b (tF K p ds1 ds2 d f2)):QE X (.IfExp c a b pos) (tF K p ds ds2 d (eIf c1 f1 f2)):=⟨(AW hc.h ha.h hb.h).imp λ_ _ _ h=>L6 (by rw[zbk,zbk];exact h)⟩
def aa:QA X [] (tFA K p ds ds [] ai):=⟨pa_nil.imp λ_ _ _ ⟨Ox,en,R,t,en',e,hf,k⟩=>pq ⟨Ox,en,R,t,en',e,hf,λvs H' R' F P=>k vs H' R' F ⟨P.env,P.fx,P.keep,P.own,P.dom,λ_=>P.pure rfl⟩⟩⟩
def xK(ha:QE X e (tF K p ds ds1 d f))(hr:QA X es (tFA K p ds1 ds2 sh fa))(hs:aU e=true):QA X (e::es) (tFA K p ds ds2 (.inl d::sh) (ae f fa)):=⟨(fH ha.h hr.h (bn hs)).imp λ_ _ _ h=>mF (by rw[zbk];exact h)⟩
def pk(hN:X.N[i]?=some x)(hv:Vis X.env.scope x)(hr:QA X es (tFA K p ds ds2 sh fa))(hd:(x==("__debug__":Str))=false)(hcd:(x==("__classdict__":Str))=false):QA X (.Name x pos::es) (tFA K p ds ds2 (.inr i::sh) (aY i fa)):=⟨(fH (cg hN hv hd hcd) hr.h (bn rfl)).imp λ_ _ _=>wg⟩
def BN{c:Nat}(h:QA X es (tFA K p ds ds1 sh fa))(hs:bL c sh=true)(hd:dn d=c)(hz:d≠0):QE X (.List es pos) (tF K p ds ds1 d (bt fa)):=⟨(JD h.h).imp λ_ _ _=>LF hs hd hz⟩
def BL{c:Nat}{x1}(h:QA X es (tFA K p ds ds1 sh fa))(hs:bL c sh=true)(hd:dn d=c):QE X (.Tuple es x1 pos) (tF K p ds ds1 d (eF fa)):=⟨(JA h.h).imp λ_ _ _=>Lz hs hd⟩
def pj{id:String}{g:List D->Option D}(hc:CallR X (.builtin id) (rFn K g d))(hg:Gl X x)(hm:X.mg x=none)(hv:bootBuiltins x=some (.builtin id))(ha:QA X (e::es) (tFA K p ds ds1 sh fa))(hsh:bL 0 sh=true)(hn:x≠"__name__")(hdb:(x==("__debug__":Str))=false)(he:aU e=true)(hpl:es.all aU=true):QE X (.Call (.Name x px) (e::es) [] pos) (tF K p ds ds1 d (eN g fa)):=⟨(tq hc hg hm hv ha.h hn hdb (bn he) (dY hpl)).imp λ_ _ _=>ur hsh⟩
def vm{g:List D->Option D}(hc:CallR X (.type T) (rFn K g d))(hg:Gl X x)(hm:X.mg x=none)(hv:bootBuiltins x=some (.type T))(ha:QA X (e::es) (tFA K p ds ds1 sh fa))(hsh:bL 0 sh=true)(hn:x≠"__name__")(hdb:(x==("__debug__":Str))=false)(he:aU e=true)(hpl:es.all aU=true):QE X (.Call (.Name x px) (e::es) [] pos) (tF K p ds ds1 d (eN g fa)):=⟨(yO hc hg hm hv ha.h hn hdb (bn he) (dY hpl)).imp λ_ _ _=>ur hsh⟩
def Gm{F:List D->Option (D×En)}(G:Kn X.prog X.w X.K X.mg X.base k x ps (spF K dps dr F))(hr:Room k X.A)(hg:Gl X x)(ha:QA X (e::es) (tFA K p ds ds1 sh fa))(hns:e8 sh=true)(hcd:cA ds1 sh dps=true)(hdb:(x==("__debug__":Str))=false)(he:aU e=true)(hpl:es.all aU=true):QE X (.Call (.Name x px) (e::es) [] pos) (tF K p ds ds1 dr (aw F fa)):=⟨(Ez G hr hg ha.h hdb (bn he) (dY hpl)).imp λ_ _ _ h=>xL hcd (by rw[hns,zbS];exact h)⟩
def BQ{F:List D->Option (D×En)}(G:Kn X.prog X.w X.K X.mg X.base k x ps (spF K dps dr F))(hr:Room k X.A)(hg:Gl X x)(ha:QA X (e::es) (tFA K false ds ds1 sh fa))(hcd:cA ds1 sh dps=true)(hdb:(x==("__debug__":Str))=false)(he:aU e=true)(hpl:es.all aU=true):QE X (.Call (.Name x px) (e::es) [] pos) (tF K false ds ds1 dr (aw F fa)):=⟨(Ez G hr hg ha.h hdb (bn he) (dY hpl)).imp λ_ _ _ h=>xL hcd h⟩
def bg(ho:IxR X (rF2 K g d))(ha:QE X a (tF K p ds ds1 d1 f1))(hb:QE X b (tF K p ds1 ds2 d2 f2))(hs:mI b):QE X (.Subscript a b pos) (tF K p ds ds2 d (e2 g f1 f2)):=⟨(wV ho ha.h hb.h hs).imp λ_ _ _ h=>mG (by rw[zbk];exact h)⟩
def fy(hK:X.K=K)(hN:X.N[i]?=some x)(hv:Vis X.env.scope x)(h1:ds1[i]?=some 1)(hb:QE X b (tF K p ds ds1 d1 f))(hs:mI b)(hd:(x==("__debug__":Str))=false)(hcd:(x==("__classdict__":Str))=false):QE X (.Subscript (.Name x px) b pos) (tF K p ds ds1 0 (dA i f)):=⟨(wV (L1 hK) (cg hN hv hd hcd) hb.h hs).imp λ_ _ _=>LG h1⟩
def BR{c:Nat}(hK:X.K=K)(hN:X.N[i]?=some x)(hv:Vis X.env.scope x)(h1:ds1[i]?=some d)(he:QE X e (tF K false ds ds1 c f))(hz:d≠0)(hc:dn d=c)(hd:(x==("__debug__":Str))=false)(hcd:(x==("__classdict__":Str))=false)(η:attributeBase (.Name x px) "append" X.env (eval (.Name x px) X.env)=eval (.Name x px) X.env)(xO:((backTo ω (starEach [e] X.env)).all (λx=>!x.1)&&(backToKw ω (keywordEach [] X.env)).all (λx=>x.1.isSome)&&decide (([e]:List Expr).length+([]:List Keyword).length+(if([]:List Keyword).isEmpty then 0 else 1)<30))=true)(θ:(μ.endLine==ω.line)=true)(hs:starEach [e] X.env=[(false,eval e X.env)])(ι:(backTo ω (starEach [] X.env)).any (·.1)=false):QE X (.Call (.Attribute (.Name x px) "append" μ) [e] [] ω) (tF K false ds ds1 3 (gD i f)):=⟨by
 subst hK;exact(sn PySem.F.plainAttrs_list PySem.F.slot_list_append PySem.F.type_list_append qX (cg hN hv hd hcd) (fH he.h pa_nil hs) η xO θ hs ι).imp λ_ _ _=>LM h1 hz hc⟩
noncomputable def cY:MT:=λen=>some (true,en)
def bG:QTs X [] (tFT K p ds ds cY):=⟨pts_nil.imp λσ H Q ⟨Ox,en,R,b,en',e,hf,k⟩=>by
 cases hf;exact k H R (Post.refl e)⟩
def lG(hc:QT X c (tFT K p ds ds1 c1)):QTs X [c] (tFT K p ds ds1 c1):=⟨Fh hc.h⟩
def Lx{g:MG}(B:BlkOkC X scope ns js)(hc:X.calm=true)(hi:PI X tg iter (tFI K p ds ds1 fi))
  (hg:∀C cl s₀ H₀ fp,PG (aC X scope ns C cl s₀ H₀ fp) tg (tFG K lk dsi dsi g)) (ht:∀C cl s₀ H₀ fp,PTs (aC X scope ns C cl s₀ H₀ fp) ifs (tFT K true dsi dsi c1)) (he:∀C cl s₀ H₀ fp,PE (aC X scope ns C cl s₀ H₀ fp) elt (tF K true dsi dsi cd f))
  (zZ:fA ds1 js dsi=true) (hd:dn d=cd) (hz:d≠0) (hlk:lk=fW js 0)
  (hs:∀x,foldedSetIterable iter X.env x=pure x):PE X (.ListComp elt [⟨tg,iter,ifs,0⟩] scope pos) (tF K p ds ds1 d (eLC true fi g c1 f js)):=
 (yM B hc hi hg ht he hs).imp λ_ _ _ h=>BU zZ hd hz hlk (by rw[zbS];exact h)
def Kv{g:MG}(B:BlkOkC X scope ns js)(hc:X.calm=true)(hi:PI X tg iter (tFI K false ds ds1 fi))
  (hg:∀C cl s₀ H₀ fp,PG (aC X scope ns C cl s₀ H₀ fp) tg (tFG K lk dsi dsi g)) (ht:∀C cl s₀ H₀ fp,PTs (aC X scope ns C cl s₀ H₀ fp) ifs (tFT K false dsi dsi c1)) (he:∀C cl s₀ H₀ fp,PE (aC X scope ns C cl s₀ H₀ fp) elt (tF K false dsi dsi cd f))
  (zZ:fA ds1 js dsi=true) (hd:dn d=cd) (hz:d≠0) (hlk:lk=fW js 0)
  (hs:∀x,foldedSetIterable iter X.env x=pure x):PE X (.ListComp elt [⟨tg,iter,ifs,0⟩] scope pos) (tF K false ds ds1 d (eLC false fi g c1 f js)):=
 (yM B hc hi hg ht he hs).imp λ_ _ _ h=>BU zZ hd hz hlk h
end
def MJ(f:ME)(g:MG):MS:=λen=>(f en).bind λr=>(g r.1 r.2).map .nx
section
variable{a c:Expr}{rest body gV:List Stmt}{fk:ME}{m:MS}{g:MG}{gs:List D->En->Option En} 
def aE:QSs X [] (tFS K J ds ds bj):=⟨pss_nil.imp λ_ _ _=>Kl⟩
def af(h1:QS X st (tFS K J ds ds1 m1))(h2:QSs X rest (tFS K J ds1 ds2 m2)):QSs X (st::rest) (tFS K J ds ds2 (ao m1 m2)):=⟨(kd h1.h h2.h).imp λ_ _ _=>Kj⟩
def au(h1:QS X st (tFS K J ds ds1 m1)):QSs X [st] (tFS K J ds ds1 m1):=⟨qi h1.h⟩
def lH(h:QSs X rest (tFS K J ds ds2 m))(hd:leD ds1 ds2=true):QSs X rest (tFS K J ds ds1 m):=⟨h.h.imp λ_ _ _=>zJ hd⟩
def cK(he:QE X e (tF K false ds ds1 d f))(hs:swapsWith e none pos.line X.env=pure false):QS X (.Expr e pos) (tFS K J ds ds1 (fP f)):=⟨(Fk he.h hs).imp λ_ _ _=>Ko⟩
def zP(he:QE X e (tF K false ds ds1 J.dr f))(hd:leD J.dsr ds1=true):QS X (.Return (some e) pos) (tFS K J ds ds' (aG f)):=⟨(Jw he.h).imp λ_ _ _=>Kk hd⟩
def mX:QS X st (tFS K J ds ds' oE):=⟨ps_never.imp λ_ _ _=>BH⟩
def aH(hc:QT X c (tFT K false ds ds1 c1))(ha:QSs X body (tFS K J ds1 ds2 m1))(hb:QSs X gV (tFS K J ds1 ds2 m2)):QS X (.If c body gV pos) (tFS K J ds ds2 (sIf c1 m1 m2)):=⟨(Ex hc.h ha.h hb.h).imp λ_ _ _=>Ls⟩
def fJ(hN:X.N.Nodup)(hi:X.N[i]?=some x)(hx:Loc X.env.scope x)(he:QE X e (tF K false ds ds1 d f))(hds:ds1.set i d=ds')(hl:i<ds1.length)(hk:i∉J.lk)(hs:swapsWith e (some (.Name x pos')) pos.line X.env=pure false)(hf:X.fn x=true\/X.env.scope.names.lookup x=some .local):QS X (.Assign [.Name x pos'] e pos) (tFS K J ds ds' (av i f)):=⟨by
 subst hds;exact(Jv hN hi hx he.h hs hf).imp λ_ _ _=>zK hl hk⟩
def zO(hN:X.N.Nodup)(hi':X.N[i]?=some x)(hx:X.env.scope.names.lookup x=some .local)(B:BlkOkC X scope ns js)(hc:X.calm=true)(hi:PI X tg iter (tFI K false ds ds1 fi))
  (hg:∀C cl s₀ H₀ fp,PG (aC X scope ns C cl s₀ H₀ fp) tg (tFG K lk dsi dsi g)) (ht:∀C cl s₀ H₀ fp,PTs (aC X scope ns C cl s₀ H₀ fp) ifs (tFT K q dsi dsi c1)) (he:∀C cl s₀ H₀ fp,PE (aC X scope ns C cl s₀ H₀ fp) elt (tF K q dsi dsi cd f))
  (hds:ds1.set i d=ds') (zZ:fA ds1 js dsi=true) (hd:dn d=cd) (hz:d≠0) (hlk:lk=fW js 0) (hl:i<ds1.length) (hk:i∉J.lk)
  (hsw:swapsWith (.ListComp elt [⟨tg,iter,ifs,0⟩] scope pos) (some (.Name x pos')) ζ.line X.env=pure true)
  (hs:∀x,foldedSetIterable iter X.env x=pure x):PS X (.Assign [.Name x pos'] (.ListComp elt [⟨tg,iter,ifs,0⟩] scope pos) ζ) (tFS K J ds ds' (av i (eLC q fi g c1 f js))):=by
 subst hds;exact(yF hN hi' hx B hc hi hg ht he hsw hs).imp λD σ H h=>BU (p:=false) zZ hd hz hlk (zK (p:=false&&q) hl hk h)
def BI{c:Nat}{k:Expr}(hN:X.N[i]?=some x)(hv:Vis X.env.scope x)(he:PE X e (tF K false ds ds1 c fe))(hk:PE X k (tF K false ds1 ds2 d2 fk))(h1:ds2[i]?=some d)(hz:d≠0)(hc:dn d=c)
  (hdb:(x==("__debug__":Str))=false) (hcd:(x==("__classdict__":Str))=false)
  (ha:∀v,assign (.Subscript (.Name x px) k ζ) X.env v=(do
   let ov <-holding [v] (eval (.Name x px) X.env)
   let iv <-holding [v,ov] (eval k X.env)
   standAt ζ
   holding [v,ov,iv] (setItem ov iv v)
   release [v,ov,iv] []))
  (hs:swapsWithSole [.Subscript (.Name x px) k ζ] e pos.line X.env=pure false) (hw:swappedStores [.Subscript (.Name x px) k ζ] e X.env=pure none)
  (h2:(assignEach [.Subscript (.Name x px) k ζ] X.env).map (·.2)=[assign (.Subscript (.Name x px) k ζ) X.env]):
  PS X (.Assign [.Subscript (.Name x px) k ζ] e pos) (tFS K J ds ds2 (fO i fk fe)):=
 (Jx he (Jz (cg hN hv hdb hcd) hk AJ ha) hs hw h2).imp λ_ _ _=>F8 h1 hz hc
def iD(hN:X.N.Nodup)(hi:X.N[i]?=some x)(hx:Loc X.env.scope x)(hds:ds.set i 0=ds')(hl:i<ds.length)(hk:i∉lk)(hf:X.fn x=true\/X.env.scope.names.lookup x=some .local):QG X (.Name x pos) (tFG K lk ds ds' (gN i)):=⟨by
 subst hds;exact(Fs hN hi hx hf).imp λ_ _ _ _=>Gi hl hk⟩
def dy:QGs X [] (tFGs K lk ds ds gs0):=⟨pgs_nil.imp λ_ _ _ _=>Gh⟩
def bb(h1:QG X e (tFG K lk ds ds1 g))(h2:QGs X es (tFGs K lk ds1 ds2 gs))(hs:(assignEach (e::es) X.env).map (·.2)=assign e X.env::(assignEach es X.env).map (·.2)):QGs X (e::es) (tFGs K lk ds ds2 (gsC g gs)):=⟨(AU h1.h h2.h hs).imp λ_ _ _ _=>BK⟩
def gx{g2:MG}:∀ts en,(∃en',gsC g1 (gsC g2 gs0) ts en=some en')->ts.length=2:=λts en ⟨en',h⟩=>by
 match ts,h with
 |[],h=>cases h
 |[_],h=>
  obtain⟨_,_,h⟩:=zaa.mp h;cases h
 |[_,_],_=>rfl
 |a::b::c::r,h=>
  obtain⟨_,_,h⟩:=zaa.mp h;obtain⟨_,_,h⟩:=zaa.mp h;cases h
def eA(hK:X.K=K)(hc:X.calm=true)(h:QGs X es (tFGs K lk ds ds1 gs))(hl:∀ts en,(∃en',gs ts en=some en')->ts.length=n)(hn:(assignEach es X.env).length=n)(hst:(assignEach es X.env).findIdx? (·.1)=none):QG X (.Tuple es k pos) (tFG K lk ds ds1 (gT gs)):=⟨by
 subst hK;exact(Jy hc h.h hn hst).imp λ_ _ _ _=>Ku hl⟩
def aR(hc:X.calm=true)(hi:QI X tg iter (tFI K false ds ds1 fi))(hg:QG X tg (tFG K J.lk ds1 ds2 g))(hb:QSs X body (tFS K { J with dsl:=ds1 } ds2 ds1 m))(hp:PassesOwn (model X.prog X.w) X.A X.env X.xe)(hs:∀x,foldedSetIterable iter X.env x=pure x):QS X (.For tg iter body [] pos) (tFS K J ds ds1 (b7 fi g m)):=⟨(yG hp hc hi.h hg.h hb.h hs).imp λ_ _ _=>Km⟩
def mW(hc:QT X c (tFT K false ds ds1 c1))(hb:QSs X body (tFS K { J with dsl:=ds } ds1 ds m))(hp:PassesOwn (model X.prog X.w) X.A X.env X.xe):QS X (.While c body [] pos) (tFS K J ds ds1 (dC c1 m)):=⟨(AQ hp hc.h hb.h).imp λ_ _ _=>BG⟩
end
def Ep:D->Option (List D)
 |.list ts=>some ts
 |.tuple ts=>some ts
 |.str z=>some ((li z).map λc=>.str (mk1 c))
 |_=>none
def ci(f:ME):MI:=λen=>(f en).bind λr=>(Ep r.1).map λts=>(ts,r.2)
section
variable{F:AS}
def ca(h1:∀a o,H0 a=some o->¬O a->H a=some o)(h2:∀a,O1 a->O a\/H0 a=none):Mv O O1 NoA H0 H:=⟨λa o q z=>z.elim (h1 a o q) λz=>z.elim,h2⟩
def yk(h:FzL K O H0 a vs)(ho:Ows K O H0 ts 0 vs NoA):kI K O H0 (Itl K a) ts:=λi H O1 h1 h2 h3=>by
 have sq:=(h.mv (ca h1 h2)).sq;refine⟨λt ht=>?_,λhl=>⟨vs,sq,by rw[ho.len];lia⟩⟩;obtain⟨v,hv,ov⟩:=ho.get ht;refine⟨⟨vs,v,sq,hv⟩,λx H1 ⟨e,y⟩=>?_⟩;subst e;have e2:=y vs sq;rw[hv]at e2;cases e2;exact⟨λ_ _ q=>q,Ow.mv (ca h1 h2) t (λ_ z=>z) ov⟩
def Az(h:FzT K O H0 a vs)(ho:Ows K O H0 ts 0 vs NoA):kI K O H0 (Itt K a) ts:=λi H O1 h1 h2 h3=>by
 have sq:=(h.mv (ca h1 h2)).sq;refine⟨λt ht=>?_,λhl=>⟨vs,sq,by rw[ho.len];lia⟩⟩;obtain⟨v,hv,ov⟩:=ho.get ht;refine⟨⟨vs,v,sq,hv⟩,λx H1 ⟨e,y⟩=>?_⟩;subst e;have e2:=y vs sq;rw[hv]at e2;cases e2;exact⟨λ_ _ q=>q,Ow.mv (ca h1 h2) t (λ_ z=>z) ov⟩
def AA{z:Str}:kI K O H0 (Its z) ((li z).map λc=>.str (mk1 c)):=λi H O1 h1 h2 h3=>by
 refine⟨λt ht=>?_,λhl=>?_⟩
 .rw[zao]at ht;obtain⟨c,hc,e⟩:=zab.mp ht;have hi:i<z.cps.size:=by
   have:=(zah.mp hc).1;simpa[li]using this
  have hc':z.cps[i]?=some c:=by
   have:z.cps.toList[i]?=some c:=hc;simpa using this
  refine⟨hi,λx H1 ⟨e1,c',e2,e3⟩=>?_⟩;subst e1 e e3;rw[hc']at e2;cases e2;exact⟨λ_ _ q=>q,rfl⟩
 .have:z.cps.size=i:=by
   rw[zad]at hl;simpa[li]using hl
  show z.cps.size<=i
  lia
def AB{lo:Int}:kI K O H0 (Itr lo n) ((List.range n).map λk=>.int (lo+(k:Nat))):=λi H O1 h1 h2 h3=>by
 refine⟨λt ht=>?_,λhl=>?_⟩
 .rw[zao]at ht;obtain⟨c,hc,e⟩:=zab.mp ht;have hi:=(zah.mp hc).1;rw[zbe]at hi;rw[List.getElem?_range hi]at hc;cases hc;refine⟨hi,λx H1 ⟨e1,e2⟩=>?_⟩;subst e1 e e2;exact⟨λ_ _ q=>q,rfl⟩
 .rw[zad,zbe]at hl;show n<=i
  lia
def vQ{p:Addr}(hp:H p=none)(h3:∀a,O1 a->∃o,H a=some o)(ov:Ow K O1 H t 0 v NoA):(∀a o,H a=some o->upd H p (.tup [.int i,v]) a=some o)/\Ow K O1 (upd H p (.tup [.int (i:Nat),v])) (.tuple [.int i,t]) 0 (.ref p) NoA:=by
 have g:=(bJ (o:=.tup [.int i,v]) hp).1;refine⟨g,p,[.int i,v],rfl,.inl ⟨rfl,⟨aF,λz=>?_⟩,.int i,[v],NoA,NoA,rfl,λ_ z=>z,λ_ z=>z,λ_ z=>z.elim,rfl,v,[],NoA,NoA,rfl,λ_ z=>z,λ_ z=>z,λ_ z=>z.elim,?_,rfl⟩⟩
 .obtain⟨o,q⟩:=h3 p z;rw[hp]at q;cases q
 .exact Ow.mv (G:=NoA) ⟨λa o q _=>g a o q,λa z=>.inl z⟩ t (λ_ z=>z) ov
noncomputable def cy(ts:List D):List D:=ts.zipIdx.map λp=>.tuple [.int (p.2:Nat),p.1]
def hR{u:D}(h:(cy ts)[i]?=some u):∃t,ts[i]?=some t/\u=.tuple [.int (i:Nat),t]:=by
 unfold cy at h;rw[zao]at h;obtain⟨⟨t,k⟩,h1,h2⟩:=zab.mp h;rw[List.getElem?_zipIdx]at h1;obtain⟨t',h3,h4⟩:=zab.mp h1;cases h4;refine⟨t,h3,?_⟩;rw[<-h2,za3]
def rk:(cy ts).length=ts.length:=by unfold cy;rw[zad,List.length_zipIdx]
def ym(h:FzL K O H0 a vs)(ho:Ows K O H0 ts 0 vs NoA):kI K O H0 (Ite K a) (cy ts):=λi H O1 h1 h2 h3=>by
 have sq:=(h.mv (ca h1 h2)).sq;refine⟨λu hu=>?_,λhl=>⟨vs,sq,by rw[rk]at hl;rw[ho.len];lia⟩⟩;obtain⟨t,ht,rfl⟩:=hR hu;obtain⟨v,hv,ov⟩:=ho.get ht;refine⟨⟨vs,v,sq,hv⟩,λx H1 ⟨p,v',e1,hp,e2,y⟩=>?_⟩;have e3:=y vs sq;rw[hv]at e3;cases e3;subst e1 e2;exact vQ hp h3 (Ow.mv (ca h1 h2) t (λ_ z=>z) ov)
def wB(h:FzT K O H0 a vs)(ho:Ows K O H0 ts 0 vs NoA):kI K O H0 (ItT K a) (cy ts):=λi H O1 h1 h2 h3=>by
 have sq:=(h.mv (ca h1 h2)).sq;refine⟨λu hu=>?_,λhl=>⟨vs,sq,by rw[rk]at hl;rw[ho.len];lia⟩⟩;obtain⟨t,ht,rfl⟩:=hR hu;obtain⟨v,hv,ov⟩:=ho.get ht;refine⟨⟨vs,v,sq,hv⟩,λx H1 ⟨p,v',e1,hp,e2,y⟩=>?_⟩;have e3:=y vs sq;rw[hv]at e3;cases e3;subst e1 e2;exact vQ hp h3 (Ow.mv (ca h1 h2) t (λ_ z=>z) ov)
end
noncomputable def dE(fa:MA):MI:=λen=>(fa en).bind λr=>match r.1 with
 |[.inl (.int j)]=>if -(2 ^ 62)<=j/\j<2 ^ 62 then some ((List.range j.toNat).map λk=>.int (0+(k:Nat)),r.2)else none
 |_=>none
noncomputable def Mn(fa:MA):MI:=λen=>(fa en).bind λr=>match r.1 with
 |[.inl (.int i),.inl (.int j)]=>if -(2 ^ 62)<=i/\i<2 ^ 62/\-(2 ^ 62)<=j/\j<2 ^ 62 then some ((List.range (j-i).toNat).map λk=>.int (i+(k:Nat)),r.2)else none
 |_=>none
def jR(fa:MA):MI:=λen=>(fa en).bind λr=>match r.1 with
 |[.inl (.list ts)]=>some (cy ts,r.2)
 |[.inl (.tuple ts)]=>some (cy ts,r.2)
 |_=>none
section
variable{l:Expr}  
def aZ(hK:X.K=K)(hl:QE X l (tF K p ds ds1 d f)):QI X tg l (tFI K p ds ds1 (ci f)):=⟨by
 subst hK;intro ρ s σ H R I h;obtain⟨Ox,en,Rg,ts,en',e,hf,k⟩:=h;unfold ci at hf;obtain⟨⟨t,en1⟩,h1,hf⟩:=zaa.mp hf;obtain⟨ts',h2,hf⟩:=zab.mp hf;cases hf;refine thn (hl.h ρ s σ H (λv H1=>∃R1,Post X.K p ds1 Ox σ H en Rg en1 H1 R1 NoA/\Ow X.K (Own R1 Ox) H1 t 0 v NoA) I ⟨Ox,en,Rg,t,en1,e,h1,λv H1 R1 F P o=>⟨R1,P.less λ_ z=>z.elim,Ow.letgo P (λ_ z=>z) o⟩⟩) λv s1 ⟨x,H1,I1,r1,R1,P,o⟩=>?_;cases t with
 |list ts0=>
  cases h2;obtain⟨a,vs,e1,⟨_,fz,ow⟩|⟨z,_⟩⟩:=o
  .subst e1;cases r1;obtain⟨its,rv,pl,hz⟩:=I1.list fz.sq;refine wpAny_pyIter_list pl.isList ?_;refine⟨s1.heap.objs.size,[s1.heap.objs.size],_,_,H1,rfl,I1.kept (t':=s1.toks) λb o e=>zaf _ e,yr a _,⟨_,zan _ rfl,rfl,rfl⟩,λb hb=>?_,k _ H1 R1 P (yk fz ow)⟩;have e:b=s1.heap.objs.size:=by simpa using hb
   subst e;exact I1.fpOk (zav _) (I1.hok.fresh (zav _))
  .exact absurd rfl z
 |tuple ts0=>
  cases h2;obtain⟨a,vs,e1,⟨_,fz,ow⟩|⟨z,_⟩⟩:=o
  .subst e1;cases r1;obtain⟨its,rv,pl,hz⟩:=I1.tuple fz.sq;refine wpAny_pyIter_tuple (show s1.heap.IsTuple a its.toArray from pl) ?_;refine⟨s1.heap.objs.size,[s1.heap.objs.size],_,_,H1,rfl,I1.kept (t':=s1.toks) λb o e=>zaf _ e,wD a _,⟨_,zan _ rfl,rfl,rfl⟩,λb hb=>?_,k _ H1 R1 P (Az fz ow)⟩;have e:b=s1.heap.objs.size:=by simpa using hb
   subst e;exact I1.fpOk (zav _) (I1.hok.fresh (zav _))
  .exact absurd rfl z
 |str z=>
  cases h2;have e1:x=.str z:=o;subst e1;obtain⟨t,rfl⟩:=r1;have fin:∀(ty:String) (o:Obj),(ty="str_ascii_iterator"\/ty="str_iterator")->(s1.heap.push o).IsStrIter s1.heap.objs.size ty z t 0->PIE X ρ σ tg R (.ref s1.heap.objs.size) { s1 with heap:=s1.heap.push o }:=λty o hty st=>by
   refine⟨s1.heap.objs.size,[s1.heap.objs.size],_,_,H1,rfl,I1.kept (t':=s1.toks) λb o e=>zaf _ e,AD _ z t ty hty,st,λb hb=>?_,k _ H1 R1 P AA⟩;have e:b=s1.heap.objs.size:=by simpa using hb
   subst e;exact I1.fpOk (zav _) (I1.hok.fresh (zav _))
  cases ha:z.cps.all (·<128)
  .exact wpAny_pyIter_wide ha (fin _ _ (.inr rfl) ⟨_,zan _ rfl,rfl,rfl⟩)
  .exact wpAny_pyIter_ascii ha (fin _ _ (.inl rfl) ⟨_,zan _ rfl,rfl,rfl⟩)
 |_=>cases h2⟩
def cM{a:Expr}(hg:Gl X "range")(hm:X.mg "range"=none)(ha:QA X [a] (tFA K p ds ds1 sh fa))(hs:aU a=true):QI X tg (.Call (.Name "range" px) [a] [] pos) (tFI K p ds ds1 (dE fa)):=⟨(yL hg hm ha.h (bn hs)).imp λσ H R ⟨Ox,en,Rg,ts,en',e,hf,k⟩=>by
  unfold dE at hf;obtain⟨⟨as,en1⟩,h1,hf⟩:=zaa.mp hf;refine⟨Ox,en,Rg,as,en1,e,h1,λvs H1 R1 F P o=>?_⟩
  dsimp only at hf
  split at hf
  case h_2=>cases hf
  next j=>
  by_cases hj:-(2 ^ 62)<=j/\j<2 ^ 62
  case neg=>rw[if_neg hj]at hf;cases hf
  rw[if_pos hj]at hf;cases hf;obtain⟨v,r,d,dr,F1,F2,e1,e2,_,_,_,o1,o2⟩:=o;obtain⟨_,o2⟩:=o2;subst e1 o2;have ev:v=.int j:=o1;subst ev;exact⟨j,rfl,hj.1,hj.2,k _ H1 R1 (P.less λ_ z=>z.elim) AB⟩⟩
def lK(hK:X.K=K)(hg:Gl X "enumerate")(hm:X.mg "enumerate"=none)(ha:QA X [l] (tFA K p ds ds1 sh fa))(hs:starEach [l] X.env=[(false,eval l X.env)]):QI X (.Tuple elts k tp) (.Call (.Name "enumerate" px) [l] [] pos) (tFI K p ds ds1 (jR fa)):=⟨by
 subst hK;intro ρ s σ H R I h;obtain⟨Ox,en,Rg,ts,en',e,hf,k⟩:=h;unfold jR at hf;obtain⟨⟨as,en1⟩,h1,hf⟩:=zaa.mp hf;refine Call_ (jQ I hg hm boot_enumerate (PyProof.Rows.callWith_type1 (thn (ha.h pos ρ s σ H (λvs H1=>∃R1 t v,as=[.inl t]/\vs=[v]/\Post X.K p ds1 Ox σ H en Rg en1 H1 R1 NoA/\Ow X.K (Own R1 Ox) H1 t 0 v NoA) I ⟨Ox,en,Rg,as,en1,e,h1,λvs H1 R1 F P o=>?_⟩) λus s1 ⟨vs,H1,I1,r1,R1,t,v,ea,ev,P,o⟩=>?_) hs rfl))
 .have one:∃t,as=[.inl t]:=by
   dsimp only at hf
   split at hf
   .exact⟨_,rfl⟩
   .exact⟨_,rfl⟩
   .cases hf
  obtain⟨t,rfl⟩:=one;obtain⟨v,r,d,dr,F1,F2,e1,e2,s1,_,_,o1,o2⟩:=o;obtain⟨_,o2⟩:=o2;subst o2;exact⟨R1,t,v,rfl,e1,P.less λ_ z=>z.elim,Ow.letgo P s1 o1⟩
 subst ea ev;obtain⟨u,rfl,ru⟩:=iy r1;cases t with
 |list ts0=>
  cases hf;obtain⟨a,vs,e1,⟨_,fz,ow⟩|⟨z,_⟩⟩:=o
  .subst e1;cases ru;obtain⟨its,rv,pl,hz⟩:=I1.list fz.sq;refine call_enumerate_list pl.isList λh' hE hI hsz hk=>?_;refine wpAny_pyIter_enum hE ?_;have I2:Inv X ρ σ H1 { s1 with heap:=h' }:=I1.kept (t':=s1.toks) hk;refine⟨s1.heap.objs.size+1,[s1.heap.objs.size+1,s1.heap.objs.size],_,_,H1,rfl,I2,yt a _ _ (Nat.succ_ne_self _),⟨⟨_,hE⟩,hI⟩,λb hb=>?_,k _ H1 R1 P (ym fz ow)⟩;have hb':b=s1.heap.objs.size+1\/b=s1.heap.objs.size:=by simpa using hb
   rcases hb' with rfl|rfl
   .exact I1.fpOk (Nat.le_succ _) (I1.hok.fresh (Nat.le_succ _))
   .exact I1.fpOk (zav _) (I1.hok.fresh (zav _))
  .exact absurd rfl z
 |tuple ts0=>
  cases hf;obtain⟨a,vs,e1,⟨_,fz,ow⟩|⟨z,_⟩⟩:=o
  .subst e1;cases ru;obtain⟨its,rv,pt,hz⟩:=I1.tuple fz.sq;have hT:s1.heap.IsTuple a its.toArray:=pt;have hlt:a<s1.heap.objs.size:=by
    obtain⟨o,e1,_⟩:=id hT;exact zal e1
   refine r8 hT λh' hE hI hsz hk=>?_;refine wpAny_pyIter_enum hE ?_;have I2:Inv X ρ σ H1 { s1 with heap:=h' }:=I1.kept (t':=s1.toks) hk;refine⟨s1.heap.objs.size+1,[s1.heap.objs.size+1,s1.heap.objs.size],_,_,H1,rfl,I2,wF a _ _ (Nat.succ_ne_self _) (zaw hlt),⟨⟨_,hE⟩,hI⟩,λb hb=>?_,k _ H1 R1 P (wB fz ow)⟩;have hb':b=s1.heap.objs.size+1\/b=s1.heap.objs.size:=by simpa using hb
   rcases hb' with rfl|rfl
   .exact I1.fpOk (Nat.le_succ _) (I1.hok.fresh (Nat.le_succ _))
   .exact I1.fpOk (zav _) (I1.hok.fresh (zav _))
  .exact absurd rfl z
 |_=>cases hf⟩
end
def NewTo.refl:NewTo H H NoA:=⟨λ_ _ q=>q,λ_ z=>z.elim⟩
def OpR.imp{fn:Value->Value->Sem Value}{r:R2}(h:OpR X fn r)(hi:∀x y H Q,r' x y H Q->r x y H Q):OpR X fn r':=λρ s σ H x y v u Q I rx ry q=>h ρ s σ H x y v u Q I rx ry (hi _ _ _ _ q)
def OpR.or'{fn:Value->Value->Sem Value}{r:R2}(h:OpR X fn r)(h':OpR X fn r'):OpR X fn (λx y H Q=>r x y H Q\/r' x y H Q):=λρ s σ H x y v u Q I rx ry q=>q.elim (h ρ s σ H x y v u Q I rx ry) (h' ρ s σ H x y v u Q I rx ry)
def UnR.imp{fn:Value->Sem Value}{r r':V->Hp->VK->Prop}(h:UnR X fn r)(hi:∀x H Q,r' x H Q->r x H Q):UnR X fn r':=λρ s σ H x v Q I rx q=>h ρ s σ H x v Q I rx (hi _ _ _ q)
def CallR.imp{r r':List V->Hp->VK->Prop}(h:CallR X fn r)(hi:∀x H Q,r' x H Q->r x H Q):CallR X fn r':=λρ s σ H x v Q I rx q=>h ρ s σ H x v Q I rx (hi _ _ _ q)
def IxR.imp{r:R2}(h:IxR X r)(hi:∀x y H Q,r' x y H Q->r x y H Q):IxR X r':=λvalue slice ρ s σ H x y v u Q I rx ry q=>h value slice ρ s σ H x y v u Q I rx ry (hi _ _ _ _ q)
def OpR.imF{fn:Value->Value->Sem Value}{r:R2}(h:OpR X fn r)(hi:∀x y H Q (O:AS) (a b t:D),Ow K O H a 0 x NoA->Ow K O H b 0 y NoA->(∀a,O a->∃o,H a=some o)->g a b=some t->(∀v H' F,NewTo H H' F->Ow K (U F O) H' t d v F->Q v H')->r x y H Q):OpR X fn (rF2 K g d):=h.imp λx y H Q ⟨O,a,b,t,oa,ob,hd,hg,k⟩=>hi x y H Q O a b t oa ob hd hg k
def CallR.imF{r:List V->Hp->VK->Prop}{g:List D->Option D}(h:CallR X fn r)(hi:∀xs H Q (O:AS) (as:List D) (t:D),Ows K O H as 0 xs NoA->(∀a,O a->∃o,H a=some o)->g as=some t->(∀v H' F,NewTo H H' F->Ow K (U F O) H' t d v F->Q v H')->r xs H Q):CallR X fn (rFn K g d):=h.imp λxs H Q ⟨O,as,t,oa,hd,hg,k⟩=>hi xs H Q O as t oa hd hg k
section
variable{ws:List V}{x:V} 
def FA(hl:H l=none)(hd:∀a,O a->∃o,H a=some o)(h:Ows K O H ts 0 vs NoA):NewTo H (upd H l (.lst vs)) (λb=>b=l)/\Ow K (U (λb=>b=l) O) (upd H l (.lst vs)) (.list ts) 1 (.ref l) (λb=>b=l):=by
 refine⟨bJ hl,l,vs,rfl,.inr ⟨by decide,aF,rfl,NoA,λ_ z=>z.elim,?_⟩⟩;refine Ows.mv (G:=NoA) ⟨λa o q _=>(bJ (o:=.lst vs) hl).1 a o q,λa z=>?_⟩ ts (λ_ z=>z) h;rcases z with z|z
 .exact .inr (by rw[show a=l from z];exact hl)
 .exact .inl z
def gu(hl:H l=none)(hd:∀a,O a->∃o,H a=some o)(h:Ows K O H ts 0 vs NoA):NewTo H (upd H l (.tup vs)) NoA/\Ow K (U NoA O) (upd H l (.tup vs)) (.tuple ts) 0 (.ref l) NoA:=by
 refine⟨⟨(bJ hl).1,λ_ z=>z.elim⟩,l,vs,rfl,.inl ⟨rfl,⟨aF,λz=>?_⟩,?_⟩⟩
 .rcases z with z|z
  .exact z
  .obtain⟨o,q⟩:=hd l z;rw[hl]at q;cases q
 .refine Ows.mv (G:=NoA) ⟨λa o q _=>(bJ (o:=.tup vs) hl).1 a o q,λa z=>?_⟩ ts (λ_ z=>z) h;rcases z with z|z
  .exact z.elim
  .exact .inl z
theorem Ows.app:∀{ts:List D} {vs:List V},Ows K O H ts 0 vs NoA->Ows K O H us 0 ws NoA->Ows K O H (ts++us) 0 (vs++ws) NoA
 |[],_,h,h2=>by rw[show _=[]from h];exact h2
 |t::ts,_,h,h2=>by
  obtain⟨v,r,F1,F2,e,_,_,_,h4,h5⟩:=h;subst e;exact⟨v,r++ws,NoA,NoA,rfl,λ_ z=>z,λ_ z=>z,λ_ z=>z.elim,Ow.any0 t h4,Ows.app (Ows.any0 ts h5) h2⟩
theorem Ows.drop:∀{ts:List D} {vs:List V} (n:Nat),Ows K O H ts 0 vs NoA->Ows K O H (ts.drop n) 0 (vs.drop n) NoA
 |ts,vs,0,h=>h
 |[],_,n+1,h=>by rw[show _=[]from h];rfl
 |t::ts,_,n+1,h=>by
  obtain⟨v,r,F1,F2,e,_,_,_,h4,h5⟩:=h;subst e;exact Ows.drop n (Ows.any0 ts h5)
theorem Ows.take:∀{ts:List D} {vs:List V} (n:Nat),Ows K O H ts 0 vs NoA->Ows K O H (ts.take n) 0 (vs.take n) NoA
 |ts,vs,0,h=>rfl
 |[],_,n+1,h=>by rw[show _=[]from h];rfl
 |t::ts,_,n+1,h=>by
  obtain⟨v,r,F1,F2,e,_,_,_,h4,h5⟩:=h;subst e;exact⟨v,r.take n,NoA,NoA,rfl,λ_ z=>z,λ_ z=>z,λ_ z=>z.elim,Ow.any0 t h4,Ows.take n (Ows.any0 ts h5)⟩
def Ow.lst0(h:Ow K O H (.list ts) 0 v NoA):∃a vs,v=.ref a/\FzL K O H a vs/\Ows K O H ts 0 vs NoA:=by
 obtain⟨a,vs,e,⟨_,h1,h2⟩|⟨z,_⟩⟩:=h
 .exact⟨a,vs,e,h1,h2⟩
 .exact absurd rfl z
def Ow.tup0(h:Ow K O H (.tuple ts) 0 v NoA):∃a vs,v=.ref a/\FzT K O H a vs/\Ows K O H ts 0 vs NoA:=by
 obtain⟨a,vs,e,⟨_,h1,h2⟩|⟨z,_⟩⟩:=h
 .exact⟨a,vs,e,h1,h2⟩
 .exact absurd rfl z
def Ows.one(h:Ows K O H [t] 0 vs NoA):∃v,vs=[v]/\Ow K O H t 0 v NoA:=by
 obtain⟨v,r,F1,F2,e,_,_,_,h4,h5⟩:=h;rw[show r=[]from h5]at e;exact⟨v,e,Ow.any0 t h4⟩
def Ows.two(h:Ows K O H [t,t2] 0 vs NoA):∃v w,vs=[v,w]/\Ow K O H t 0 v NoA/\Ow K O H t2 0 w NoA:=by
 obtain⟨v,r,F1,F2,e,_,_,_,h4,h5⟩:=h;obtain⟨w,e2,h6⟩:=Ows.one (Ows.any0 [t2] h5);subst e2;exact⟨v,w,e,Ow.any0 t h4,h6⟩
noncomputable def ba:D->D->Option D
 |.int a,.int b=>some (.int (a+b))
 |.str a,.str b=>if a.length+b.length<=sizeLine then some (.str (a++b))else none
 |_,_=>none
def aT:OpR X (binaryOp .Add) (rF2 K ba 3):=(op_add.or' wW).imF λx y H Q O a b t oa ob hd hg k=>by
 cases a with
 |int i=>cases b with
  |int j=>cases hg;exact .inl ⟨i,j,oa,ob,k _ H NoA .refl rfl⟩
  |_=>cases hg
 |str i=>cases b with
  |str j=>
   dsimp only[ba]at hg
   by_cases hl:i.length+j.length<=sizeLine
   .rw[if_pos hl]at hg;cases hg;exact .inr ⟨i,j,oa,ob,hl,k _ H NoA .refl rfl⟩
   .rw[if_neg hl]at hg;cases hg
  |_=>cases hg
 |_=>cases hg
noncomputable def jB(g:Int->Int->Option D):D->D->Option D
 |.int a,.int b=>g a b
 |_,_=>none
def dw{g:Int->Int->Option D}{a b:D}(h:jB g a b=some t):∃i j,a=.int i/\b=.int j/\g i j=some t:=by
 cases a with
 |int i=>cases b with
  |int j=>exact⟨i,j,rfl,rfl,h⟩
  |_=>cases h
 |_=>cases h
def fN:D->D->Option D:=jB λa b=>some (.int (a-b))
def fR:OpR X (binaryOp .Sub) (rF2 K fN 3):=op_sub.imF λx y H Q O a b t oa ob hd hg k=>by
 obtain⟨i,j,rfl,rfl,h⟩:=dw hg;cases h;exact⟨i,j,oa,ob,k _ H NoA .refl rfl⟩
instance (i j:Int):Decidable (CMul i j):=by unfold CMul;exact inferInstance
instance (i j:Int):Decidable (kX i j):=by unfold kX;exact inferInstance
instance (i j:Int):Decidable (jL i j):=by unfold jL;exact inferInstance
def dM:D->D->Option D:=jB λa b=>if CMul a b then some (.int (a*b))else none
def iS:OpR X (binaryOp .Mult) (rF2 K dM 3):=op_mul.imF λx y H Q O a b t oa ob hd hg k=>by
 obtain⟨i,j,rfl,rfl,h⟩:=dw hg;by_cases hc:CMul i j
 .rw[if_pos hc]at h;cases h;exact⟨i,j,oa,ob,hc,k _ H NoA .refl rfl⟩
 .rw[if_neg hc]at h;cases h
def iE:D->D->Option D:=jB λa b=>if kX a b then some (.int (a / b))else none
def wd:OpR X (binaryOp .FloorDiv) (rF2 K iE 3):=op_fdiv.imF λx y H Q O a b t oa ob hd hg k=>by
 obtain⟨i,j,rfl,rfl,h⟩:=dw hg;by_cases hc:kX i j
 .rw[if_pos hc]at h;cases h;exact⟨i,j,oa,ob,hc,k _ H NoA .refl rfl⟩
 .rw[if_neg hc]at h;cases h
def cB:D->D->Option D:=jB λa b=>if 0<b then some (.int (a % b))else none
def fS:OpR X (binaryOp .Mod) (rF2 K cB 3):=op_mod.imF λx y H Q O a b t oa ob hd hg k=>by
 obtain⟨i,j,rfl,rfl,h⟩:=dw hg;by_cases hc:0<j
 .rw[if_pos hc]at h;cases h;exact⟨i,j,oa,ob,hc,k _ H NoA .refl rfl⟩
 .rw[if_neg hc]at h;cases h
def qj:D->D->Option D:=jB λa b=>if jL a b then some (.int (a ^ b.toNat))else none
def zQ:OpR X (binaryOp .Pow) (rF2 K qj 3):=op_pow.imF λx y H Q O a b t oa ob hd hg k=>by
 obtain⟨i,j,rfl,rfl,h⟩:=dw hg;by_cases hc:jL i j
 .rw[if_pos hc]at h;cases h;exact⟨i,j,oa,ob,hc,k _ H NoA .refl rfl⟩
 .rw[if_neg hc]at h;cases h
def ltI:D->D->Option D:=jB λa b=>some (.bool (decide (a<b)))
def leI:D->D->Option D:=jB λa b=>some (.bool (decide (a<=b)))
def gtI:D->D->Option D:=jB λa b=>some (.bool (decide (b<a)))
def geI:D->D->Option D:=jB λa b=>some (.bool (decide (b<=a)))
def pf:OpR X (compareOp .Lt) (rF2 K ltI 3):=op_lt.imF λx y H Q O a b t oa ob hd hg k=>by
 obtain⟨i,j,rfl,rfl,h⟩:=dw hg;cases h;exact⟨i,j,oa,ob,k _ H NoA .refl rfl⟩
def Lv:OpR X (compareOp .LtE) (rF2 K leI 3):=op_le.imF λx y H Q O a b t oa ob hd hg k=>by
 obtain⟨i,j,rfl,rfl,h⟩:=dw hg;cases h;exact⟨i,j,oa,ob,k _ H NoA .refl rfl⟩
def iC:OpR X (compareOp .Gt) (rF2 K gtI 3):=op_gt.imF λx y H Q O a b t oa ob hd hg k=>by
 obtain⟨i,j,rfl,rfl,h⟩:=dw hg;cases h;exact⟨i,j,oa,ob,k _ H NoA .refl rfl⟩
def EQ:OpR X (compareOp .GtE) (rF2 K geI 3):=op_ge.imF λx y H Q O a b t oa ob hd hg k=>by
 obtain⟨i,j,rfl,rfl,h⟩:=dw hg;cases h;exact⟨i,j,oa,ob,k _ H NoA .refl rfl⟩
noncomputable def qw:D->Bool
 |.none=>true
 |_=>false
def t7{a:D}{F:AS}(h:Ow K O H a d x F):decide (x=.non)=qw a:=by
 cases a with
 |none=>rw[show x=.non from h];rfl
 |bool b=>rw[show x=.bl b from h];rfl
 |int b=>rw[show x=.int b from h];rfl
 |str b=>rw[show x=.str b from h];rfl
 |list ts=>obtain⟨a,vs,e,_⟩:=h;rw[e];rfl
 |tuple ts=>obtain⟨a,vs,e,_⟩:=h;rw[e];rfl
 |dict ts=>obtain⟨a,vs,e,_⟩:=h;rw[e];rfl
def isN:D->D->Option D
 |a,.none=>some (.bool (qw a))
 |_,_=>none
def nN:D->D->Option D
 |a,.none=>some (.bool (!qw a))
 |_,_=>none
def zR:OpR X (compareOp .Is) (rF2 K isN 3):=op_isN.imF λx y H Q O a b t oa ob hd hg k=>by
 cases b with
 |none=>cases hg;exact⟨ob,by rw[t7 oa];exact k _ H NoA .refl rfl⟩
 |_=>cases hg
def qz:OpR X (compareOp .IsNot) (rF2 K nN 3):=op_notN.imF λx y H Q O a b t oa ob hd hg k=>by
 cases b with
 |none=>cases hg;exact⟨ob,by rw[t7 oa];exact k _ H NoA .refl rfl⟩
 |_=>cases hg
def MV:D->D->Option D
 |.str a,.str b=>some (.bool (zE b a))
 |_,_=>none
def Md:D->D->Option D
 |.str a,.str b=>some (.bool (!zE b a))
 |_,_=>none
def ixA:D->D->Option D
 |.list ts,.int n=>atI ts n
 |.tuple ts,.int n=>atI ts n
 |.str z,.int n=>if z.length<=sizeLine then(atI z.cps.toList n).map λc=>.str (mk1 c)else none
 |_,_=>none
def cL(hK:X.K=K):IxR X (rF2 K ixA 0):=by
 subst hK;refine ix_seq.imp ?_;rintro x y H Q ⟨O,a,b,t,oa,ob,hd,hg,k⟩;cases b with
 |int n=>
  cases a with
  |list ts=>
   obtain⟨a,vs,e,fz,ow⟩:=oa.lst0;obtain⟨v,h1,h2⟩:=ow.atI hg;exact .inl ⟨a,vs,n,v,e,ob,fz.sq,h1,k v H NoA .refl (by rw[fC];exact h2)⟩
  |tuple ts=>
   obtain⟨a,vs,e,fz,ow⟩:=oa.tup0;obtain⟨v,h1,h2⟩:=ow.atI hg;exact .inr (.inl ⟨a,vs,n,v,e,ob,fz.sq,h1,k v H NoA .refl (by rw[fC];exact h2)⟩)
  |str z=>
   dsimp only[ixA]at hg
   by_cases hl:z.length<=sizeLine
   .rw[if_pos hl]at hg;obtain⟨c,h1,h2⟩:=zab.mp hg;cases h2;exact .inr (.inr ⟨z,n,c,oa,ob,hl,h1,k _ H NoA .refl rfl⟩)
   .rw[if_neg hl]at hg;cases hg
  |_=>cases hg
 |_=>cases a<;>cases hg
def ixT:D->D->Option D
 |.str z,.int n=>if z.length<=sizeLine then(atI z.cps.toList n).map λc=>.str (mk1 c)else none
 |_,_=>none
def ph:IxR X (rF2 K ixT 3):=by
 refine ix_str.imp ?_;rintro x y H Q ⟨O,a,b,t,oa,ob,hd,hg,k⟩;cases a with
 |str z=>cases b with
  |int n=>
   dsimp only[ixT]at hg
   by_cases hl:z.length<=sizeLine
   .rw[if_pos hl]at hg;obtain⟨c,h1,h2⟩:=zab.mp hg;cases h2;exact⟨z,n,c,oa,ob,hl,h1,k _ H NoA .refl rfl⟩
   .rw[if_neg hl]at hg;cases hg
  |_=>cases hg
 |_=>cases hg
noncomputable def qK:D->D->Option D
 |.list a,.list b=>if a.length+b.length<=sizeLine then some (.list (a++b))else none
 |_,_=>none
noncomputable def lP:D->D->Option D
 |.tuple a,.tuple b=>if a.length+b.length<=sizeLine then some (.tuple (a++b))else none
 |_,_=>none
end
noncomputable def grd{α:Type}(c:Prop)[Decidable c](t:α):Option α:=if c then some t else none
def bV{α:Type}{c:Prop}[Decidable c]{t u:α}(h:grd c t=some u):c/\t=u:=by
 unfold grd at h;by_cases hc:c
 .rw[if_pos hc]at h;exact⟨hc,zat h⟩
 .rw[if_neg hc]at h;cases h
section
variable{ws:List V}{x:V} 
def K7(K:zbU):R2:=λx y H Q=>∃l b xs zs,x=.ref l/\y=.ref b/\SqL K H l xs/\SqL K H b zs/\xs.length+zs.length<=sizeLine/\∀p,H p=none->Q (.ref p) (upd H p (.lst (xs++zs)))
def op_catL:OpR X (binaryOp .Add) (K7 X.K):=by
 intro ρ s σ H x y v u Q I rx ry h;obtain⟨l,b,xs,zs,rfl,rfl,hH,hB,hz,q⟩:=h;cases rx;cases ry;obtain⟨its,r,⟨⟨c1,dd,da1,sl⟩,n,ho,hc,hdd,hda⟩,_⟩:=I.list hH;obtain⟨ν,r2,⟨⟨c2,dd2,da2,sl2⟩,n2,ho2,hc2,hdd2,hda2⟩,_⟩:=I.list hB;have hl:=r.length;have hl2:=r2.length;simp only at hc hda hc2 hda2;subst hc hda hc2 hda2;refine concat_meets ⟨_,ho,rfl⟩ ⟨_,ho2,rfl⟩ noFill_list_add seq_list_add PySem.F.slot_list_add PySem.F.entry_list_add (PySem.F.args_list_add_2 _ _) (list_addW l b its.toArray ν.toArray n n2 dd dd2 sl sl2 (by simp only[zai];lia)) ⟨ho,ho2,?_⟩;have ea:its.toArray++ν.toArray=(its++ν).toArray:=by simp
 rw[ea];exact⟨.ref _,_,I.lnew (t':=s.toks) (r.append r2) (by rw[zae];lia),rfl,q _ I.fresh⟩
def qA(hK:X.K=K):OpR X (binaryOp .Add) (rF2 K qK 1):=by
 subst hK;refine op_catL.imp ?_;rintro x y H Q ⟨O,a,b,t,oa,ob,hd,hg,k⟩;cases a with
 |list ts=>cases b with
  |list us=>
   dsimp only[qK]at hg
   by_cases hl:ts.length+us.length<=sizeLine
   case neg=>rw[if_neg hl]at hg;cases hg
   rw[if_pos hl]at hg;cases hg;obtain⟨a,vs,e1,f1,w1⟩:=oa.lst0;obtain⟨b,ws,e2,f2,w2⟩:=ob.lst0;refine⟨a,b,vs,ws,e1,e2,f1.sq,f2.sq,by rw[w1.len,w2.len];exact hl,λp hp=>?_⟩;obtain⟨n1,n2⟩:=FA hp hd (w1.app w2);exact k _ _ _ n1 n2
  |_=>cases hg
 |_=>cases hg
def jT(hK:X.K=K):OpR X (binaryOp .Add) (rF2 K lP 0):=by
 intro ρ s σ H x y v u Q I rx ry ⟨O,a,b,t,oa,ob,hd,hg,k⟩;cases a with
 |tuple ts=>cases b with
  |tuple us=>
   dsimp only[lP]at hg
   by_cases hl:ts.length+us.length<=sizeLine
   case neg=>rw[if_neg hl]at hg;cases hg
   rw[if_pos hl]at hg;cases hg;obtain⟨a,vs,e1,f1,w1⟩:=oa.tup0;obtain⟨b,ws,e2,f2,w2⟩:=ob.tup0;have l1:=w1.len;have l2:=w2.len;by_cases hx:vs=[]
   .subst hx;have et:ts=[]:=za7.mp l1.symm;subst et;refine AZ hK ρ s σ H x y v u Q I rx ry ⟨a,b,ws,e1,e2,f1.sq,f2.sq,?_⟩;rw[<-e2];exact k y H NoA .refl (by rw[fC];exact ob)
   .refine Lm hK ρ s σ H x y v u Q I rx ry ⟨a,b,vs,ws,e1,e2,f1.sq,f2.sq,hx,by lia,λhy=>?_,λhy p hp=>?_⟩
    .subst hy;have et:us=[]:=za7.mp l2.symm;subst et;rw[<-e1];exact k x H NoA .refl (by rw[fC,zbr];exact oa)
    .obtain⟨n1,n2⟩:=gu hp hd (w1.app w2);exact k _ _ _ n1 n2
  |_=>cases hg
 |_=>cases hg
def MR:D->D->Option D
 |.list ts,.int k=>grd (-(2 ^ 63)<=k/\k<2 ^ 63/\ts.length*k.toNat<=sizeLine) (.list (List.replicate k.toNat ts).flatten)
 |_,_=>none
def MQ:D->D->Option D
 |.str z,.int k=>grd (z.length<=4000/\-(2 ^ 63)<=k/\k<=4000) (.str (Txt.mul z k))
 |_,_=>none
noncomputable def ic:D->Option D
 |.int i=>some (.int (-i))
 |_=>none
def ff:UnR X (unaryOp .USub) (rF1 K ic 3):=un_neg.imp λx H Q ⟨O,a,t,oa,hd,hg,k⟩=>by
 cases a with
 |int i=>cases hg;exact⟨i,oa,k _ H NoA .refl rfl⟩
 |_=>cases hg
def be:List D->Option D
 |[.list ts]=>some (.int ts.length)
 |[.tuple ts]=>some (.int ts.length)
 |[.str z]=>grd (z.length<=sizeLine) (.int z.length)
 |_=>none
def Kr(hK:X.K=K):CallR X (.builtin "len") (rFn K be 3):=(L0 hK).imF λxs H Q O as t oa hd hg k=>by
 match as,hg with
 |[.list ts],hg=>
  cases hg;obtain⟨v,rfl,o⟩:=oa.one;obtain⟨a,vs,rfl,fz,w⟩:=o.lst0;exact⟨_,_,rfl,.inl ⟨vs,fz.sq,rfl⟩,by rw[w.len];exact k _ H NoA .refl rfl⟩
 |[.tuple ts],hg=>
  cases hg;obtain⟨v,rfl,o⟩:=oa.one;obtain⟨a,vs,rfl,fz,w⟩:=o.tup0;exact⟨_,_,rfl,.inr ⟨vs,fz.sq,rfl⟩,by rw[w.len];exact k _ H NoA .refl rfl⟩
 |[.str z],hg=>
  obtain⟨c,rfl⟩:=bV hg;obtain⟨v,rfl,o⟩:=oa.one;exact⟨_,_,rfl,by rw[show v=.str z from o];exact⟨c,rfl⟩,k _ H NoA .refl rfl⟩
noncomputable def B8:List D->Option D
 |[.int i]=>some (.int (if i<0 then -i else i))
 |_=>none
noncomputable def xk:List D->Option D
 |[.int i,.int j]=>some (.int (if j>i then j else i))
 |_=>none
noncomputable def My:List D->Option D
 |[.int i,.int j]=>some (.int (if j<i then j else i))
 |_=>none
def Gd(hc:X.calm=true):CallR X (.builtin "max") (rFn K xk 3):=(Aj hc).imF λxs H Q O as t oa hd hg k=>by
 match as,hg with
 |[.int i,.int j],hg=>
  cases hg;obtain⟨v,w,rfl,o,o2⟩:=oa.two;exact⟨i,j,by rw[show v=.int i from o,show w=.int j from o2],k _ H NoA .refl rfl⟩
noncomputable def MU:List D->Option D
 |[.int i]=>some (.int i)
 |[.bool b]=>some (.int (if b then 1 else 0))
 |_=>none
def wK(z:Str):List D:=(li z).map λc=>.str (mk1 c)
def Mz:List D->Option D
 |[.list ts]=>some (.list ts)
 |[.tuple ts]=>some (.list ts)
 |[.str z]=>grd (z.cps.size<=sizeLine) (.list (wK z))
 |_=>none
noncomputable def jx:List D->Option D
 |[.list ts]=>some (.tuple ts)
 |[.tuple ts]=>some (.tuple ts)
 |_=>none
def fw(hK:X.K=K):CallR X (.type "tuple") (rFn K jx 0):=(JV hK).imF λxs H Q O as t oa hd hg k=>by
 match as,hg with
 |[.list ts],hg=>
  cases hg;obtain⟨v,rfl,o⟩:=oa.one;obtain⟨a,vs,rfl,fz,w⟩:=o.lst0;exact⟨a,vs,rfl,.inl ⟨fz.sq,λl hl=>k _ _ _ (gu hl hd w).1 (gu hl hd w).2⟩⟩
 |[.tuple ts],hg=>
  cases hg;obtain⟨v,rfl,o⟩:=oa.one;obtain⟨a,vs,rfl,fz,w⟩:=o.tup0;exact⟨a,vs,rfl,.inr ⟨fz.sq,k _ H NoA .refl (by rw[fC];exact o)⟩⟩
noncomputable def gJ:List D->Option (List Bool)
 |[]=>some []
 |.bool b::r=>(gJ r).map (b::·)
 |_::_=>none
theorem qV:∀{ts:List D} {vs:List V} {bs:List Bool},Ows K O H ts 0 vs NoA->gJ ts=some bs->vs=bs.map V.bl
 |[],_,_,h,hb=>by cases hb;exact h
 |.bool b::r,_,_,h,hb=>by
  obtain⟨v,w,F1,F2,e,_,_,_,h4,h5⟩:=h;obtain⟨bs',h6,h7⟩:=zab.mp hb;subst e h7;rw[show v=.bl b from h4,qV (Ows.any0 r h5) h6];rfl
 |.none::_,_,_,_,hb=>by cases hb
 |.int _::_,_,_,_,hb=>by cases hb
 |.str _::_,_,_,_,hb=>by cases hb
 |.list _::_,_,_,_,hb=>by cases hb
 |.tuple _::_,_,_,_,hb=>by cases hb
 |.dict _::_,_,_,_,hb=>by cases hb
def MZ:List D->Option D
 |[.list ts]=>(gJ ts).map λbs=>.bool (bs.all id)
 |_=>none
noncomputable def tyN:D->String
 |.none=>"NoneType" |.bool _=>"bool" |.int _=>"int" |.str _=>"str" |.list _=>"list" |.tuple _=>"tuple" |.dict _=>"dict"
noncomputable def nP(n T:String):Bool:=n==T || (n=="bool"&&T=="int")
def v5(hT:T∈["int","bool","str","list","tuple","dict"])(a:D):PySem.W.kitOne K (.type (tyN a)) (.type T)=some (nP (tyN a) T):=by
 simp only[zay,List.not_mem_nil,or_false]at hT;rcases hT with rfl|rfl|rfl|rfl|rfl|rfl<;>cases a<;>rfl
noncomputable def isX:D->Bool
 |.dict [(.none,.str _)]=>true
 |.dict [(.none,.int _)]=>true
 |.dict ((.none,.list _)::_)=>true
 |_=>false
def K6(K:zbU):List V->Hp->VK->Prop:=λxs H Q=>∃x T,∃(O:AS) (a:D),xs=[x,.ty T]/\Ow K O H a 0 x NoA/\isX a=false/\T∈["int","bool","str","list","tuple","dict"]/\Q (.bl (nP (tyN a) T)) H
def Ak:CallR X (.builtin "isinstance") (K6 X.K):=by
 intro ρ s σ H xs us Q I r h;obtain⟨x,T,O,a,rfl,oa,hX,hT,q⟩:=h;have base:∀ty,TyOf X.K H x (.type ty)->tyN a=ty->wpAny (model X.prog X.w) X.A (call (.builtin "isinstance") us) (EP X ρ σ Q) X.xe s:=λty h1 h2=>by
  refine B3 ρ s σ H _ us Q I r ⟨x,.type ty,T,nP (tyN a) T,rfl,h1,?_,q⟩;rw[<-h2];exact v5 hT a
 cases a with
 |none=>exact base _ (by rw[show x=.non from oa];exact .non) rfl
 |bool b=>exact base _ (by rw[show x=.bl b from oa];exact .bl b) rfl
 |int b=>exact base _ (by rw[show x=.int b from oa];exact .int b) rfl
 |str b=>exact base _ (by rw[show x=.str b from oa];exact .str b) rfl
 |tuple ts=>
  obtain⟨p,vs,rfl,fz,w⟩:=oa.tup0;exact base _ (.tup fz.1) rfl
 |dict ts=>
  obtain⟨p,vs,rfl,⟨_,h1,_⟩|⟨_,h1,_⟩|⟨_,⟨⟨_,_,_,_,h1,_⟩,_⟩|⟨cn,C,h0,_⟩|⟨h0,_⟩⟩|⟨_,_,_,_,_,_,h1,_⟩|⟨_,_,_,_,_,_,_,h0,_⟩⟩:=oa
  .exact base _ (.dK h1) rfl
  .exact base _ (.dK (.inl h1)) rfl
  .exact base _ (.dT h1) rfl
  .subst h0;cases hX
  .subst h0;exact nomatch (show true=false from hX)
  .exact base _ (.dT (.inl h1)) rfl
  .subst h0;exact nomatch (show true=false from hX)
 |list ts=>
  obtain⟨p,vs,rfl,fz,w⟩:=oa.lst0;obtain⟨u,u2,rfl,r1,r2⟩:=r.two;cases r1;cases r2;obtain⟨its,rv,pl,_⟩:=I.list fz.sq;have e:=v5 (K:=X.K) hT (.list ts);obtain⟨o,n,h1,h2,_⟩:=pl;exact PySem.W.kia_one PySem.W.kitx_list I.kIn ⟨o,h1,h2⟩ e (λz=>nomatch z) λtk=>⟨.bl _,H,I.tok tk,rfl,q⟩
end
def iQ(T:String):D->Option D:=λa=>if isX a=true then none else some (.bool (nP (tyN a) T))
def BP{T:Str}{n:String}{pt:Pos}(hK:X.K=K)(hg:Gl X "isinstance")(hm:X.mg "isinstance"=none)(hgT:Gl X T)(hmT:X.mg T=none)(hbT:bootBuiltins T=some (.type n))(hT:n∈["int","bool","str","list","tuple","dict"])(he:QE X e (tF K p ds ds1 d1 f))(hnT:T≠"__name__")(hdT:(T==("__debug__":Str))=false)(hs1:starEach [e,.Name T pt] X.env=(false,eval e X.env)::starEach [.Name T pt] X.env)(hs2:starEach [.Name T pt] X.env=(false,eval (.Name T pt) X.env)::starEach [] X.env)(hpl:(backTo pos (starEach [.Name T pt] X.env)).any (·.1)=false):QE X (.Call (.Name "isinstance" px) [e,.Name T pt] [] pos) (tF K p ds ds1 3 (e1 (iQ n) f)):=⟨by
 subst hK;refine(tq Ak hg hm boot_isinstance (fH he.h (fH (Fy (v:=.ty n) hgT hmT hbT rfl hnT hdT) pa_nil hs2) hs1) (by decide) (by decide) hs1 hpl).imp λσ H Q h=>?_;obtain⟨Ox,en,R,t,en',e,hf,k⟩:=h;unfold e1 at hf;obtain⟨⟨t1,en1⟩,h1,hf⟩:=zaa.mp hf;obtain⟨t',h3,hf⟩:=zab.mp hf;cases hf;unfold iQ at h3;by_cases hX:isX t1=true
 .rw[if_pos hX]at h3;cases h3
 rw[if_neg hX]at h3;cases h3;refine⟨Ox,en,R,t1,en1,e,h1,λv H' R' F P o=>?_⟩;exact⟨v,n,Own R' Ox,t1,rfl,Ow.letgo P (λ_ z=>z) o,Bool.eq_false_iff.mpr hX,hT,k _ H' R' NoA (P.less λ_ z=>z.elim) rfl⟩⟩
mutual
def peq:D->D->Bool
 |.none,.none=>true
 |.bool a,.bool b=>a==b
 |.bool a,.int b=>(if a then(1:Int)else 0)==b
 |.int a,.bool b=>a==(if b then(1:Int)else 0)
 |.int a,.int b=>a==b
 |.str a,.str b=>a==b
 |.list a,.list b=>eh a b
 |.tuple a,.tuple b=>eh a b
 |_,_=>false
def eh:List D->List D->Bool
 |[],[]=>true
 |a::r,b::s=>peq a b&&eh r s
 |_,_=>false
end
mutual
def aA:D->Bool
 |.dict _=>false
 |.list ts=>aB ts
 |.tuple ts=>aB ts
 |_=>true
def aB:List D->Bool
 |[]=>true
 |t::r=>aA t&&aB r
end
mutual
theorem nI:∀a:D,aA a=true->peq a a=true
 |.none,_=>rfl
 |.bool b,_=>by cases b<;>rfl
 |.int i,_=>by simp[peq]
 |.str i,_=>by simp[peq]
 |.list ts,h=>by simp only[peq];exact lq ts (by simpa[aA]using h)
 |.tuple ts,h=>by simp only[peq];exact lq ts (by simpa[aA]using h)
 |.dict _,h=>by simp[aA]at h
theorem lq:∀a:List D,aB a=true->eh a a=true
 |[],_=>rfl
 |t::r,h=>by
  have h':aA t=true/\aB r=true:=by simpa[aB]using h
  simp only[eh,nI t h'.1,lq r h'.2,zbk]
end
mutual
def gE:D->Nat
 |.list ts=>bC ts+1
 |.tuple ts=>bC ts+1
 |_=>0
def bC:List D->Nat
 |[]=>0
 |t::r=>max (gE t) (bC r)
end
theorem lL:∀{ts:List D} {i:Nat} {t:D},ts[i]?=some t->gE t<=bC ts
 |[],_,_,h=>by simp at h
 |u::r,i,t,h=>by
  simp only[bC];cases i with
  |zero=>simp at h;subst h;exact Nat.le_max_left _ _
  |succ i=>exact zau (lL (by simpa using h)) (Nat.le_max_right _ _)
theorem fc:∀{ts:List D} {i:Nat} {t:D},aB ts=true->ts[i]?=some t->aA t=true
 |[],_,_,_,h=>by simp at h
 |u::r,i,t,hn,h=>by
  have h':aA u=true/\aB r=true:=by simpa[aB]using hn
  cases i with
  |zero=>simp at h;subst h;exact h'.1
  |succ i=>exact fc h'.2 (by simpa using h)
theorem nG:∀{a b:List D},a.length≠b.length->eh a b=false
 |[],[],h=>absurd rfl h
 |[],_::_,_=>rfl
 |_::_,[],_=>rfl
 |a::r,b::s,h=>by
  simp only[eh,nG (a:=r) (b:=s) (λz=>h (by rw[zac,zac,z])),zbT]
def eAt(a b:List D)(j:Nat):Bool:=match a[j]?,b[j]? with
 |some x,some y=>peq x y
 |_,_=>true
def qJ(n:Nat)(f:Nat->Bool):(List.range (n+1)).all f=(f 0&&(List.range n).all λj=>f (j+1)):=by
 rw[List.range_succ_eq_map,List.all_cons,List.all_map];rfl
theorem nH:∀{a b:List D},a.length=b.length->(List.range a.length).all (eAt a b)=eh a b
 |[],[],_=>rfl
 |a::r,b::s,h=>by
  rw[zac,qJ];have e:(List.range r.length).all (λj=>eAt (a::r) (b::s) (j+1))=(List.range r.length).all (eAt r s):=by
   congr 1
  rw[e,nH (by simpa using h)];rfl
 |[],_::_,h=>by simp at h
 |_::_,[],h=>by simp at h
section
open PySem.SeqAt
variable{s:Shared} 
def EB{p:Addr}{ws:List V}(I:Inv X ρ σ H s)(h:SqL X.K H p vs)(g:SqT X.K H p ws):False:=by
 obtain⟨its,_,p1,_⟩:=I.list h;obtain⟨ν,_,p2,_⟩:=I.tuple g;exact ne_of_list_tuple p1.isList (show s.heap.IsTuple p ν.toArray from p2) rfl
def JN{p:Addr}{ks:List (List (Option Key)×V)}{ad:Addr->Prop}(I:Inv X ρ σ H s)(h:SqL X.K H p vs)(g:Rd H p (.dT ks ad)):False:=by
 obtain⟨its,_,⟨o,n,e1,e2,_⟩,_⟩:=I.list h;obtain⟨_,_,_,_,o',_,_,g1,g2,_⟩:=xR I.hok g;rw[e1]at g1;cases g1;rw[g2.1]at e2;simp at e2
def Lf{p:Addr}{ks:List (Key×V)}(I:Inv X ρ σ H s)(h:SqL X.K H p vs)(g:Rd H p (.dK ks)):False:=by
 obtain⟨its,_,⟨o,n,e1,e2,_⟩,_⟩:=I.list h;obtain⟨_,_,_,_,o',_,_,g1,g2,_⟩:=xS I.hok g;rw[e1]at g1;cases g1;rw[g2.1]at e2;simp at e2
mutual
theorem Ow.inj(I:Inv X ρ σ H s):∀(a b:D) {x:V},Ow X.K O H a 0 x NoA->Ow X.K O H b 0 x NoA->aA a=true->a=b
 |.none,b,_,h,g,_=>by
  cases(show _=_ from h);cases b with
  |none=>rfl
  |list ts=>obtain⟨_,_,z,_⟩:=g;cases z
  |tuple ts=>obtain⟨_,_,z,_⟩:=g;cases z
  |dict ts=>obtain⟨_,_,z,_⟩:=g;cases z
  |bool c=>cases(show V.non=V.bl c from g)
  |int c=>cases(show V.non=V.int c from g)
  |str c=>cases(show V.non=V.str c from g)
 |.bool c,b,_,h,g,_=>by
  cases(show _=_ from h);cases b with
  |none=>cases(show V.bl c=V.non from g)
  |list ts=>obtain⟨_,_,z,_⟩:=g;cases z
  |tuple ts=>obtain⟨_,_,z,_⟩:=g;cases z
  |dict ts=>obtain⟨_,_,z,_⟩:=g;cases z
  |bool c'=>cases(show V.bl c=V.bl c' from g);rfl
  |int c'=>cases(show V.bl c=V.int c' from g)
  |str c'=>cases(show V.bl c=V.str c' from g)
 |.int c,b,_,h,g,_=>by
  cases(show _=_ from h);cases b with
  |none=>cases(show V.int c=V.non from g)
  |list ts=>obtain⟨_,_,z,_⟩:=g;cases z
  |tuple ts=>obtain⟨_,_,z,_⟩:=g;cases z
  |dict ts=>obtain⟨_,_,z,_⟩:=g;cases z
  |bool c'=>cases(show V.int c=V.bl c' from g)
  |int c'=>cases(show V.int c=V.int c' from g);rfl
  |str c'=>cases(show V.int c=V.str c' from g)
 |.str c,b,_,h,g,_=>by
  cases(show _=_ from h);cases b with
  |none=>cases(show V.str c=V.non from g)
  |list ts=>obtain⟨_,_,z,_⟩:=g;cases z
  |tuple ts=>obtain⟨_,_,z,_⟩:=g;cases z
  |dict ts=>obtain⟨_,_,z,_⟩:=g;cases z
  |bool c'=>cases(show V.str c=V.bl c' from g)
  |int c'=>cases(show V.str c=V.int c' from g)
  |str c'=>cases(show V.str c=V.str c' from g);rfl
 |.list ts,b,_,h,g,hn=>by
  obtain⟨p,vs,rfl,fz,w⟩:=h.lst0;cases b with
  |none=>cases(show V.ref p=V.non from g)
  |bool c'=>cases(show V.ref p=V.bl c' from g)
  |int c'=>cases(show V.ref p=V.int c' from g)
  |str c'=>cases(show V.ref p=V.str c' from g)
  |list us=>
   obtain⟨p',vs',e,fz',w'⟩:=g.lst0;cases e
   have:=I.list_inj fz.sq fz'.sq;subst this;rw[Ows.inj I ts us w w' (by simpa[aA]using hn)]
  |tuple us=>
   obtain⟨p',vs',e,fz',w'⟩:=g.tup0;cases e;exact(EB I fz.sq fz'.sq).elim
  |dict us=>
   obtain⟨p',vs',e,⟨_,g1,_⟩|⟨z,_⟩|⟨_,⟨⟨_,_,_,_,g1,_⟩,_⟩|⟨_,C,_,_,g1,_⟩|⟨_,⟨fo,fd,g1,gd⟩,_⟩⟩|⟨z,_⟩|⟨_,_,dx,_,_,_,_,_,_,g1,_⟩⟩:=g
   .cases e;exact(Lf I fz.sq g1).elim
   .exact absurd rfl z
   .cases e;exact(JN I fz.sq g1).elim
   .cases e;obtain⟨its,rv,⟨o,n,e1,e2,_⟩,_⟩:=I.list fz.sq;obtain⟨⟨o',x1,x2,_⟩,_⟩:=(show ObjOk X.prog X.w H s.heap p (.ext (KB p C))from I.hok p _ g1);rw[e1]at x1;cases x1;rw[e2]at x2;cases x2
   .cases e;obtain⟨its,rv,⟨o,n,e1,_,_,e2⟩,_⟩:=I.list fz.sq;have x1:=(I.hok p _ g1).1;rw[e1]at x1;cases x1
    first | (rw[e2]at gd;cases gd) | (rw[e2.1]at gd;cases gd) | (simp_all)
   .cases z
   .cases e;obtain⟨its,rv,⟨o,n,e1,e2,_⟩,_⟩:=I.list fz.sq;obtain⟨_,_,_,x1,_⟩:=(show ObjOk X.prog X.w H s.heap p (.ins _ dx _)from I.hok p _ g1);rw[e1]at x1;cases x1;cases e2
 |.tuple ts,b,_,h,g,hn=>by
  obtain⟨p,vs,rfl,fz,w⟩:=h.tup0;cases b with
  |none=>cases(show V.ref p=V.non from g)
  |bool c'=>cases(show V.ref p=V.bl c' from g)
  |int c'=>cases(show V.ref p=V.int c' from g)
  |str c'=>cases(show V.ref p=V.str c' from g)
  |tuple us=>
   obtain⟨p',vs',e,fz',w'⟩:=g.tup0;cases e
   have:=fz.1.symm.trans fz'.1;cases this;rw[Ows.inj I ts us w w' (by simpa[aA]using hn)]
  |list us=>
   obtain⟨p',vs',e,fz',w'⟩:=g.lst0;cases e;exact(EB I fz'.sq fz.sq).elim
  |dict us=>
   obtain⟨p',vs',e,⟨_,g1,_⟩|⟨z,_⟩|⟨_,⟨⟨_,_,_,_,g1,_⟩,_⟩|⟨_,C,_,_,g1,_⟩|⟨_,⟨fo,fd,g1,gd⟩,_⟩⟩|⟨z,_⟩|⟨_,_,dx,_,_,_,_,_,_,g1,_⟩⟩:=g
   .cases e;rcases g1 with g1|⟨_,g1⟩<;>rw[fz.1]at g1<;>cases g1
   .exact absurd rfl z
   .cases e;rcases g1 with g1|⟨_,g1⟩<;>rw[fz.1]at g1<;>cases g1
   .cases e;rw[fz.1]at g1;cases g1
   .cases e;rw[fz.1]at g1;cases g1
   .cases z
   .cases e;rw[fz.1]at g1;cases g1
 |.dict _,_,_,_,_,hn=>by simp[aA]at hn
theorem Ows.inj(I:Inv X ρ σ H s):∀(a b:List D) {x:List V},Ows X.K O H a 0 x NoA->Ows X.K O H b 0 x NoA->aB a=true->a=b
 |[],b,_,h,g,_=>by
  cases(show _=_ from h);cases b with
  |nil=>rfl
  |cons u us=>obtain⟨_,_,_,_,e,_⟩:=g;cases e
 |t::ts,b,_,h,g,hn=>by
  obtain⟨v,r,F1,F2,e,_,_,_,h4,h5⟩:=h;subst e;have hn':aA t=true/\aB ts=true:=by simpa[aB]using hn
  cases b with
  |nil=>cases(show v::r=[]from g)
  |cons u us=>
   obtain⟨v',r',G1,G2,e,_,_,_,g4,g5⟩:=g;cases e;rw[Ow.inj I t u (Ow.any0 t h4) (Ow.any0 u g4) hn'.1,Ows.inj I ts us (Ows.any0 ts h5) (Ows.any0 us g5) hn'.2]
end
def t4{ws:List V}{its ν:List Value}(w:Ows X.K O H ts 0 vs NoA)(w2:Ows X.K O H us 0 ws NoA)(rv:Vals vs its)(rv2:Vals ws ν)
  (ih:∀(j:Nat) a b x y v u,ts[j]?=some a->us[j]?=some b->Ow X.K O H a 0 x NoA->Ow X.K O H b 0 y NoA->RelV x v->RelV y u->EqAt A s v u (peq a b)):
  ∀j (h1:j<its.toArray.size) (h2:j<ν.toArray.size),EqAt A s its.toArray[j] ν.toArray[j] (eAt ts us j):=λj h1 h2=>by
 have h1':j<its.length:=by simpa using h1
 have h2':j<ν.length:=by simpa using h2
 have l1:=rv.length;have l2:=rv2.length;have m1:=w.len;have m2:=w2.len;have e1:ts[j]?=some ts[j]:=zak (by lia);have e2:us[j]?=some us[j]:=zak (by lia);obtain⟨x,g1,o1⟩:=w.get e1;obtain⟨y,g2,o2⟩:=w2.get e2;obtain⟨u1,f1,q1⟩:=rv.get g1;obtain⟨u2,f2,q2⟩:=rv2.get g2;have z:=ih j _ _ x y u1 u2 e1 e2 o1 o2 q1 q2;rw[zak h1']at f1;rw[zak h2']at f2;have i1:its.toArray[j]=u1:=by simpa using zat f1
 have i2:ν.toArray[j]=u2:=by simpa using zat f2
 rw[i1,i2];unfold eAt;rw[e1,e2];exact z
inductive Kd(s:Shared):D->Value->Prop
 |n:Kd s .none .none
 |b (c:Bool):Kd s (.bool c) (.bool c)
 |i (c:Int) (t:Nat):Kd s (.int c) (.int c t)
 |t (c:Str) (t:Nat):Kd s (.str c) (.str c t)
 |l {c:List D} {p:Addr} {z:Array Value} (h:s.heap.IsList p z):Kd s (.list c) (.ref p)
 |u {c:List D} {p:Addr} {z:Array Value} (h:s.heap.IsTuple p z):Kd s (.tuple c) (.ref p)
def sv(I:Inv X ρ σ H s){a:D}{x:V}{v:Value}(hn:aA a=true)(o:Ow X.K O H a 0 x NoA)(r:RelV x v):Kd s a v:=by
 cases a with
 |none=>cases(show x=V.non from o);cases r;exact .n
 |bool c=>cases(show x=V.bl c from o);cases r;exact .b c
 |int c=>cases(show x=V.int c from o);obtain⟨t,rfl⟩:=r;exact .i c t
 |str c=>cases(show x=V.str c from o);obtain⟨t,rfl⟩:=r;exact .t c t
 |list c=>
  obtain⟨p,vs,rfl,fz,w⟩:=o.lst0;cases r;obtain⟨its,rv,pl,_⟩:=I.list fz.sq;exact .l pl.isList
 |tuple c=>
  obtain⟨p,vs,rfl,fz,w⟩:=o.tup0;cases r;obtain⟨its,rv,pl,_⟩:=I.tuple fz.sq;have hl:s.heap.IsTuple p its.toArray:=pl;exact .u hl
 |dict c=>simp[aA]at hn
noncomputable def sqB:D->D->Bool
 |.list _,.list _=>true
 |.tuple _,.tuple _=>true
 |_,_=>false
def ED{a b:D}{v:Value}(h1:Kd s a v)(h2:Kd s b u)(hq:sqB a b=false)(hu:A.units<cLine):EqAt A s v u (peq a b)/\RcAt A s v u (peq a b)/\RcNeAt A s v u (!peq a b):=by
 cases h1<;>cases h2
 exact⟨.same _,.none_none,.none_none⟩;exact⟨.none_bool _,.none_bool _,.none_bool _⟩;exact⟨.none_int _ _,.none_int _ _,.none_int _ _⟩;exact⟨.none_str _ _,.none_str _ _,.none_str _ _⟩;exact⟨.none_list ‹_› hu,.none_list ‹_› hu,.none_list ‹_› hu⟩;exact⟨.none_tuple ‹_› hu,.none_tuple ‹_› hu,.none_tuple ‹_› hu⟩;exact⟨.bool_none _,.bool_none _,.bool_none _⟩;exact⟨.bool_bool _ _,.bool_bool _ _,.bool_bool _ _⟩;exact⟨.bool_int _ _ _,.bool_int _ _ _,.bool_int _ _ _⟩;exact⟨.bool_str _ _ _,.bool_str _ _ _,.bool_str _ _ _⟩;exact⟨.bool_list _ ‹_› hu,.bool_list _ ‹_› hu,.bool_list _ ‹_› hu⟩;exact⟨.bool_tuple _ ‹_› hu,.bool_tuple _ ‹_› hu,.bool_tuple _ ‹_› hu⟩;exact⟨.int_none _ _,.int_none _ _,.int_none _ _⟩;exact⟨.int_bool _ _ _,.int_bool _ _ _,.int_bool _ _ _⟩;exact⟨.int_int _ _ _ _,.int_int _ _ _ _,.int_int _ _ _ _⟩;exact⟨.int_str _ _ _ _,.int_str _ _ _ _,.int_str _ _ _ _⟩;exact⟨.int_list _ _ ‹_› hu,.int_list _ _ ‹_› hu,.int_list _ _ ‹_› hu⟩;exact⟨.int_tuple _ _ ‹_› hu,.int_tuple _ _ ‹_› hu,.int_tuple _ _ ‹_› hu⟩;exact⟨.str_none _ _,.str_none _ _,.str_none _ _⟩;exact⟨.str_bool _ _ _,.str_bool _ _ _,.str_bool _ _ _⟩;exact⟨.str_int _ _ _ _,.str_int _ _ _ _,.str_int _ _ _ _⟩;exact⟨.str_str _ _ _ _,.str_str _ _ _ _,.str_str _ _ _ _⟩;exact⟨.str_list _ _ ‹_› hu,.str_list _ _ ‹_› hu,.str_list _ _ ‹_› hu⟩;exact⟨.str_tuple _ _ ‹_› hu,.str_tuple _ _ ‹_› hu,.str_tuple _ _ ‹_› hu⟩;exact⟨.list_none ‹_› hu,.list_none ‹_› hu,.list_none ‹_› hu⟩;exact⟨.list_bool _ ‹_› hu,.list_bool _ ‹_› hu,.list_bool _ ‹_› hu⟩;exact⟨.list_int _ _ ‹_› hu,.list_int _ _ ‹_› hu,.list_int _ _ ‹_› hu⟩;exact⟨.list_str _ _ ‹_› hu,.list_str _ _ ‹_› hu,.list_str _ _ ‹_› hu⟩;exact nomatch hq;exact⟨.list_tuple ‹_› ‹_› hu,.list_tuple ‹_› ‹_› hu,.list_tuple ‹_› ‹_› hu⟩;exact⟨.tuple_none ‹_› hu,.tuple_none ‹_› hu,.tuple_none ‹_› hu⟩;exact⟨.tuple_bool _ ‹_› hu,.tuple_bool _ ‹_› hu,.tuple_bool _ ‹_› hu⟩;exact⟨.tuple_int _ _ ‹_› hu,.tuple_int _ _ ‹_› hu,.tuple_int _ _ ‹_› hu⟩;exact⟨.tuple_str _ _ ‹_› hu,.tuple_str _ _ ‹_› hu,.tuple_str _ _ ‹_› hu⟩;exact⟨.tuple_list ‹_› ‹_› hu,.tuple_list ‹_› ‹_› hu,.tuple_list ‹_› ‹_› hu⟩;exact nomatch hq
def xP(I:Inv X ρ σ H s):∀(n:Nat) (a b:D) (A:Around) (x y:V) (v u:Value),gE a<=n->aA a=true->aA b=true->Ow X.K O H a 0 x NoA->Ow X.K O H b 0 y NoA->RelV x v->RelV y u->A.units+n+1<cLine ->
  EqAt A s v u (peq a b)/\RcAt A s v u (peq a b)/\RcNeAt A s v u (!peq a b):=by
 intro n
 induction n with
 |zero=>
  intro a b A x y v u hdp hna hnb o1 o2 r1 r2 hun;refine ED (sv I hna o1 r1) (sv I hnb o2 r2) ?_ (by lia);cases a with
  |list c=>simp only[gE]at hdp;lia
  |tuple c=>simp only[gE]at hdp;lia
  |_=>rfl
 |succ n ih=>
  intro a b A x y v u hdp hna hnb o1 o2 r1 r2 hun;have hu:A.units<cLine:=by lia
  have hu1:A.in1.units+n+1<cLine:=by
   show A.units+1+n+1<cLine
   lia
  cases hq:sqB a b with
  |false=>exact ED (sv I hna o1 r1) (sv I hnb o2 r2) hq hu
  |true=>
   cases a with
   |list c1=>
    cases b with
    |list c2=>
     obtain⟨p1,vs1,rfl,fz1,w1⟩:=o1.lst0;cases r1;obtain⟨l',rv1,pl1,_⟩:=I.list fz1.sq;have hl1:=pl1.isList;obtain⟨p2,vs2,rfl,fz2,w2⟩:=o2.lst0;cases r2;obtain⟨ν,rv2,pl2,_⟩:=I.list fz2.sq;have hl2:=pl2.isList;have dl:bC c1<=n:=by simp only[gE]at hdp;lia
     have nd1:aB c1=true:=by simpa[aA]using hna
     have nd2:aB c2=true:=by simpa[aA]using hnb
     have el:=t4 (A:=A.in1) w1 w2 rv1 rv2 λj a b x y v u e1 e2 q1 q2 q3 q4=>(ih a b A.in1 x y v u (zau (lL e1) dl) (fc nd1 e1) (fc nd2 e2) q1 q2 q3 q4 hu1).1;have l1:=rv1.length;have l2:=rv2.length;have m1:=w1.len;have m2:=w2.len;have rc:RcAt A s (.ref p1) (.ref p2) (eh c1 c2)/\RcNeAt A s (.ref p1) (.ref p2) (!eh c1 c2):=by
      by_cases hz:c1.length=c2.length
      .have hs1:l'.toArray.size=ν.toArray.size:=by rw[zai,zai];lia
       have hs2:l'.toArray.size=c1.length:=by rw[zai];lia
       have z1:=RcAt.lists hl1 hl2 hs1 hu el;have z2:=RcNeAt.lists hl1 hl2 hs1 hu el;rw[hs2,nH hz]at z1 z2;exact⟨z1,z2⟩
      .have hs1:(l'.toArray.size != ν.toArray.size)=true:=by rw[zai,zai,bne_iff_ne];lia
       rw[nG hz];exact⟨RcAt.lists_lengths hl1 hl2 hs1 hu,RcNeAt.lists_lengths hl1 hl2 hs1 hu⟩
     have pe:peq (.list c1) (.list c2)=eh c1 c2:=by simp only[peq]
     refine⟨?_,by rw[pe];exact rc.1,by rw[pe];exact rc.2⟩;by_cases hp:p1=p2
     .subst hp
      have:=Ow.inj I _ _ o1 o2 hna;cases this;rw[nI _ hna];exact EqAt.same _
     .rw[pe];exact EqAt.of_refs hp rc.1
    |_=>cases(show false=true from hq)
   |tuple c1=>
    cases b with
    |tuple c2=>
     obtain⟨p1,vs1,rfl,fz1,w1⟩:=o1.tup0;cases r1;obtain⟨l',rv1,pl1,_⟩:=I.tuple fz1.sq;have hl1:s.heap.IsTuple p1 l'.toArray:=pl1;obtain⟨p2,vs2,rfl,fz2,w2⟩:=o2.tup0;cases r2;obtain⟨ν,rv2,pl2,_⟩:=I.tuple fz2.sq;have hl2:s.heap.IsTuple p2 ν.toArray:=pl2;have dl:bC c1<=n:=by simp only[gE]at hdp;lia
     have nd1:aB c1=true:=by simpa[aA]using hna
     have nd2:aB c2=true:=by simpa[aA]using hnb
     have el:=t4 (A:=A.in1) w1 w2 rv1 rv2 λj a b x y v u e1 e2 q1 q2 q3 q4=>(ih a b A.in1 x y v u (zau (lL e1) dl) (fc nd1 e1) (fc nd2 e2) q1 q2 q3 q4 hu1).1;have l1:=rv1.length;have l2:=rv2.length;have m1:=w1.len;have m2:=w2.len;have rc:RcAt A s (.ref p1) (.ref p2) (eh c1 c2)/\RcNeAt A s (.ref p1) (.ref p2) (!eh c1 c2):=by
      have z1:=RcAt.tuples hl1 hl2 hu el;have z2:=RcNeAt.tuples hl1 hl2 hu el;have ez:((List.range (min l'.toArray.size ν.toArray.size)).all (eAt c1 c2)&&l'.toArray.size==ν.toArray.size)=eh c1 c2:=by
       rw[zai,zai];by_cases hz:c1.length=c2.length
       .have h3:l'.length=ν.length:=by lia
        have h4:min l'.length ν.length=c1.length:=by lia
        rw[h4,nH hz,h3,beq_self_eq_true,zbS]
       .have h3:(l'.length==ν.length)=false:=by rw[zbM];lia
        rw[h3,zbT,nG hz]
      rw[ez]at z1 z2;exact⟨z1,z2⟩
     have pe:peq (.tuple c1) (.tuple c2)=eh c1 c2:=by simp only[peq]
     refine⟨?_,by rw[pe];exact rc.1,by rw[pe];exact rc.2⟩;by_cases hp:p1=p2
     .subst hp
      have:=Ow.inj I _ _ o1 o2 hna;cases this;rw[nI _ hna];exact EqAt.same _
     .rw[pe];exact EqAt.of_refs hp rc.1
    |_=>cases(show false=true from hq)
   |_=>cases(show false=true from hq)
end
def eqD(a b:D):Option D:=grd (aA a=true/\aA b=true/\gE a<=60) (.bool (peq a b))
def neD(a b:D):Option D:=grd (aA a=true/\aA b=true/\gE a<=60) (.bool (!peq a b))
def mE(hK:X.K=K)(hu:X.A.units+64<cLine):OpR X (compareOp .Eq) (rF2 K eqD 3):=by
 subst hK;intro ρ s σ H x y v u Q I rx ry ⟨O,a,b,t,oa,ob,hd,hg,k⟩;obtain⟨⟨c1,c2,c3⟩,rfl⟩:=bV hg;exact(xP I 60 a b X.A x y v u c3 c1 c2 oa ob rx ry (by lia)).2.1 X.prog X.w _ _ ⟨.bl _,H,I,rfl,k _ H NoA .refl rfl⟩
def Lu(hK:X.K=K)(hu:X.A.units+64<cLine):OpR X (compareOp .NotEq) (rF2 K neD 3):=by
 subst hK;intro ρ s σ H x y v u Q I rx ry ⟨O,a,b,t,oa,ob,hd,hg,k⟩;obtain⟨⟨c1,c2,c3⟩,rfl⟩:=bV hg;exact(xP I 60 a b X.A x y v u c3 c1 c2 oa ob rx ry (by lia)).2.2 X.prog X.w _ _ ⟨.bl _,H,I,rfl,k _ H NoA .refl rfl⟩
def E7{F:List D->Option (D×En)}{E:XK}(hn:dps.length=n)(h:spF K dps dr F vs H Q E):vs.length=n:=by
 obtain⟨Ox,ts,R,r,ψ,e,_⟩:=h
 have:=e.l2;rw[zad]at this
 lia
section
variable{ds3:List Nat}{d3:Nat}{a c:Expr}{f3:ME}{m:MS}{p2:Pos}
def zN(h:QS X st (tFS K J ds ds2 m))(hd:leD ds1 ds2=true):QS X st (tFS K J ds ds1 m):=⟨h.h.imp λ_ _ _=>zJ hd⟩
noncomputable def Ms(g g':D->D->Option D)(f1 f2 f3:ME):ME:=λen=>(f1 en).bind λr=>(f2 r.2).bind λq=>(g r.1 q.1).bind λt=>match t with
 |.bool true=>(f3 q.2).bind λz=>(g' q.1 z.1).map λt=>(t,z.2)
 |.bool false=>some (.bool false,q.2)
 |_=>none
abbrev MO:=En->Option (Option Int×En)
inductive tFO(K:zbU)(p:Bool)(ds ds':List Nat)(f:MO)(σ:St)(H:Hp)(Q:Option Int->Hp->Prop):Prop
 |mk (Ox:AS) (en:En) (R:Nat->AS) (o:Option Int) (en':En) (h0:EnvOk K ds Ox H σ en R) (h1:f en=some (o,en')) (h2:∀H' R',Post K p ds' Ox σ H en R en' H' R' NoA->Q o H')
noncomputable def cx:MO:=λen=>some (none,en)
noncomputable def bM(f:ME):MO:=λen=>(f en).bind λr=>match r.1 with
 |.int i=>some (some i,r.2)
 |_=>none
def PO.imp{e:Option Expr}{t t':TO}(h:PO X e t)(hi:∀σ H Q,t' σ H Q->t σ H Q):PO X e t':=λρ s σ H Q I hw=>h ρ s σ H Q I (hi _ _ _ hw)
def bi:QO X none (tFO K p ds ds cx):=⟨po_none.imp λσ H Q ⟨Ox,en,R,o,en',e,hf,k⟩=>by
 cases hf;exact k H R (Post.refl e)⟩
def aX(h:QE X e (tF K p ds ds1 d f)):QO X (some e) (tFO K p ds ds1 (bM f)):=⟨(Fo h.h).imp λσ H Q ⟨Ox,en,R,o,en',e,hf,k⟩=>by
 unfold bM at hf;obtain⟨⟨t1,en1⟩,h1,hf⟩:=zaa.mp hf;refine⟨Ox,en,R,t1,en1,e,h1,λv H' R' F P o=>?_⟩;cases t1 with
 |int i=>cases hf;exact⟨i,o,k H' R' (P.less λ_ z=>z.elim)⟩
 |_=>cases hf⟩
inductive rFs(K:zbU)(g:D->Option Int->Option Int->Option D)(d:Nat)(x:V)(lo:Option Int)(hi:Option Int)(H:Hp)(Q:VK):Prop
 |mk (O:AS) (a t:D) (h0:Ow K O H a 0 x NoA) (h1:(∀a,O a->∃o,H a=some o)) (h2:g a lo hi=some t) (h3:∀v H' F,NewTo H H' F->Ow K (U F O) H' t d v F->Q v H')
noncomputable def eSl(g:D->Option Int->Option Int->Option D)(f:ME)(lo hi:MO):ME:=λen=>(f en).bind λr=>(lo r.2).bind λl=>(hi l.2).bind λh=>(g r.1 l.1 h.1).map λt=>(t,h.2)
variable{lo hi:MO}
def Ow.past0{R2:Nat->AS}(P2:Post K p ds2 Ox σ H1 en1 R1 en2 H2 R2 F2)(h:Ow K (Own R1 Ox) H1 t 0 v NoA):Ow K (Own R2 Ox) H2 t 0 v NoA:=by
 refine Ow.mv (G:=NoA) ⟨λa o q z=>P2.keep a o q λi zi=>?_,λa z=>?_⟩ t (λ_ z=>z) h
 .rcases z with z|z
  .exact z (.inl ⟨i,zi⟩)
  .exact z
 .rcases z with z|z
  .exact(P2.own a (.inr z)).imp .inl id
  .exact .inl (.inr z)
def L5{g:D->Option Int->Option Int->Option D}(h:tF K p ds ds3 d (eSl g f lo hi) σ H Q):tSl (rFs K g d) (tF K p ds ds1 d1 f) (tFO K p ds1 ds2 lo) (tFO K p ds2 ds3 hi) σ H Q:=by
 obtain⟨Ox,en,R,t,en',e,hf,k⟩:=h;unfold eSl at hf;obtain⟨⟨t1,en1⟩,h1,hf⟩:=zaa.mp hf;obtain⟨⟨l,en2⟩,h2,hf⟩:=zaa.mp hf;obtain⟨⟨u,en3⟩,h3,hf⟩:=zaa.mp hf;obtain⟨t',h4,hf⟩:=zab.mp hf;cases hf;refine⟨Ox,en,R,t1,en1,e,h1,λv H1 R1 F1 P1 o1=>?_⟩;have o0:=Ow.letgo P1 (λ_ z=>z) o1;refine⟨Ox,en1,R1,l,en2,P1.env0,h2,λH2 R2 P2=>?_⟩;refine⟨Ox,en2,R2,u,en3,P2.env0,h3,λH3 R3 P3=>?_⟩;have P:=(P1.after P2).after P3;rw[zbk,zbk]at P;exact⟨Own R3 Ox,t1,t,(o0.past0 P2).past0 P3,P3.doms,h4,λv4 H4 F4 n4 o4=>k v4 H4 R3 F4 (P.fin n4) (pL▸o4)⟩
def SlR.imp{r r':V->Option Int->Option Int->Hp->VK->Prop}(h:SlR X r)(hi:∀x lo hi H Q,r' x lo hi H Q->r x lo hi H Q):SlR X r':=λρ s σ H x v vl vu lo hi' sl Q I rx hs pl pu q=>h ρ s σ H x v vl vu lo hi' sl Q I rx hs pl pu (hi _ _ _ _ _ q)
def aW{g:D->Option Int->Option Int->Option D}{elo ehi:Option Expr}(hr:SlR X (rFs K g d))(he:QE X e (tF K p ds ds1 d1 f))(hl:QO X elo (tFO K p ds1 ds2 lo))(hu:QO X ehi (tFO K p ds2 ds3 hi)):QE X (.Subscript e (.Slice elo ehi none p2) pos) (tF K p ds ds3 d (eSl g f lo hi)):=⟨(AV hr he.h hl.h hu.h).imp λ_ _ _=>L5⟩
def cq{α:Type}(xs:List α)(lo hi:Option Int):List α:=(xs.drop (HT.sIx xs.length 0 lo)).take (HT.sIx xs.length xs.length hi-HT.sIx xs.length 0 lo)
def MF:D->Option Int->Option Int->Option D
 |.list ts,lo,hi=>some (.list (cq ts lo hi))
 |_,_,_=>none
def iU:D->Option Int->Option Int->Option D
 |.str z,lo,hi=>grd (z.length<=sizeLine) (.str ⟨(bY z.cps.toList lo hi).toArray⟩)
 |_,_,_=>none
def fT:SlR X (rFs K iU 3):=sl_str.imp λx lo hi H Q ⟨O,a,t,oa,hd,hg,k⟩=>by
 cases a with
 |str z=>
  obtain⟨c,rfl⟩:=bV hg;exact⟨z,oa,c,k _ H NoA .refl rfl⟩
 |_=>cases hg
end
noncomputable def kEq:D->D->Bool
 |.int a,.int b=>a==b
 |.str a,.str b=>a==b
 |_,_=>false
def oU(a b:Key):kEq (kD a) (kD b)=decide (a=b):=by
 cases a with
 |inl i=>cases b with
  |inl j=>rw[zt];rfl
  |inr j=>rw[zq];rfl
 |inr i=>cases b with
  |inl j=>rw[zp];rfl
  |inr j=>
   rw[zo];show(i==j)=_;by_cases h:i=j
   .subst h;simp
   .rw[zaA h,zbM];exact h
noncomputable def kOf:D->Option Key
 |.int i=>some (.inl i)
 |.str x=>some (.inr x)
 |_=>none
def zx{a:D}{q:Key}(h:kOf a=some q):a=kD q:=by
 cases a<;>cases h<;>rfl
def oK{a:D}{q:Key}{F:AS}(h:kOf a=some q)(o:Ow K O H a d v F):v=kV q:=by
 cases a with
 |int i=>cases h;exact o
 |str i=>cases h;exact o
 |_=>cases h
def cz(ks:List (D×D))(q:D):Option D:=(ks.find? λkv=>kEq kv.1 q).map (·.2)
def kF(ks:List (D×D))(q t:D):List (D×D):=if ks.any (λkv=>kEq kv.1 q)then ks.map (λkv=>if kEq kv.1 q then(kv.1,t)else kv)else ks++[(q,t)]
theorem Owd.look:∀{ks:List (D×D)} {vs:List (Key×V)} {F:AS} (q:Key),Owd K O H ks d vs F->(∃t v,cz ks (kD q)=some t/\di vs q=some v/\Ow K O H t d v F)\/(cz ks (kD q)=none/\di vs q=none)
 |[],_,_,q,h=>by rw[show _=[]from h];exact .inr ⟨rfl,rfl⟩
 | (k,t)::ks,_,F,q,h=>by
  obtain⟨q',v,r,F1,F2,e,e2,s1,s2,_,h4,h5⟩:=h;subst e e2;by_cases hq:q'=q
  .subst hq;refine .inl ⟨t,v,?_,iK rfl,Ow.grow (λ_ z=>z) t s1 h4⟩;unfold cz;rw[zbo,oU,zaB rfl];rfl
  .have e1:cz ((kD q',t)::ks) (kD q)=cz ks (kD q):=by
    unfold cz;rw[zbo,oU,zaA hq]
   have e2:di ((q',v)::r) q=di r q:=iL hq;rw[e1,e2];rcases Owd.look q h5 with⟨t',v',a1,a2,a3⟩|z
   .exact .inl ⟨t',v',a1,a2,Ow.grow (λ_ z=>z) t' s2 a3⟩
   .exact .inr z
theorem Owd.any:∀{ks:List (D×D)} {vs:List (Key×V)} {F:AS} (q:Key),Owd K O H ks d vs F->ks.any (λkv=>kEq kv.1 (kD q))=vs.any (λkv=>decide (kv.1=q))
 |[],_,_,q,h=>by rw[show _=[]from h];rfl
 | (k,t)::ks,_,F,q,h=>by
  obtain⟨q',v,r,F1,F2,e,e2,_,_,_,_,h5⟩:=h;subst e e2;rw[List.any_cons,List.any_cons,oU,Owd.any q h5]
theorem Owd.len:∀{ks:List (D×D)} {vs:List (Key×V)} {F:AS},Owd K O H ks d vs F->vs.length=ks.length
 |[],_,_,h=>by rw[show _=[]from h];rfl
 | (k,t)::ks,_,F,h=>by
  obtain⟨q',v,r,F1,F2,e,e2,_,_,_,_,h5⟩:=h;rw[e,zac,zac,h5.len]
theorem Owd.rep0{t:D}{v:V}{q:Key}(ht:Ow K O H t 0 v NoA):∀{ks:List (D×D)} {vs:List (Key×V)},Owd K O H ks 0 vs NoA->Owd K O H (ks.map λkv=>if kEq kv.1 (kD q)then(kv.1,t)else kv) 0 (vs.map λkv=>if kv.1=q then(kv.1,v)else kv) NoA
 |[],_,h=>by rw[show _=[]from h];rfl
 | (k,u)::ks,_,h=>by
  obtain⟨q',w,r,F1,F2,e,e2,_,_,_,h4,h5⟩:=h;subst e e2;rw[zar,zar];have ih:=Owd.rep0 (q:=q) ht (Owd.any0 ks h5)
  dsimp only
  rw[oU];by_cases hq:q'=q
  .rw[if_pos hq,if_pos (zaB hq)];exact⟨q',v,_,NoA,NoA,rfl,rfl,λ_ z=>z,λ_ z=>z,λ_ z=>z.elim,ht,ih⟩
  .rw[if_neg hq,if_neg (by rw[zaA hq];exact zbn)];exact⟨q',w,_,NoA,NoA,rfl,rfl,λ_ z=>z,λ_ z=>z,λ_ z=>z.elim,Ow.any0 u h4,ih⟩
theorem Owd.snoc0{t:D}{v:V}{q:Key}(ht:Ow K O H t 0 v NoA):∀{ks:List (D×D)} {vs:List (Key×V)},Owd K O H ks 0 vs NoA->Owd K O H (ks++[(kD q,t)]) 0 (vs++[(q,v)]) NoA
 |[],_,h=>by
  rw[show _=[]from h];exact⟨q,v,[],NoA,NoA,rfl,rfl,λ_ z=>z,λ_ z=>z,λ_ z=>z.elim,ht,rfl⟩
 | (k,u)::ks,_,h=>by
  obtain⟨q',w,r,F1,F2,e,e2,_,_,_,h4,h5⟩:=h;subst e e2;exact⟨q',w,_,NoA,NoA,rfl,rfl,λ_ z=>z,λ_ z=>z,λ_ z=>z.elim,Ow.any0 u h4,Owd.snoc0 ht (Owd.any0 ks h5)⟩
def Owd.put0{q:Key}{vs:List (Key×V)}(h:Owd K O H ks 0 vs NoA)(ht:Ow K O H t 0 v NoA):Owd K O H (kF ks (kD q) t) 0 (cc vs q v) NoA:=by
 unfold kF cc;rw[h.any q];by_cases hq:(vs.any λkv=>decide (kv.1=q))=true
 .rw[if_pos hq,if_pos hq];exact Owd.rep0 ht h
 .rw[if_neg hq,if_neg hq];exact Owd.snoc0 ht h
def Owd.past{vs:List (Key×V)}{F:AS}(ho:∀a,O' a->O a)(hl:O l)(hf:∀b,F b->b≠l)(h:Owd K O H ks d vs F):Owd K O' (upd H l o) ks d vs F:=by
 refine Owd.mv (G:=F) ⟨λa u q z=>?_,λa z=>.inl (ho a z)⟩ ks (λ_ z=>z) h;rw[az]
 .exact q
 .intro za;subst za;rcases z with z|z
  .exact z hl
  .exact hf a z rfl
noncomputable def noT:List (D×D)->Bool
 | (.tuple _,_)::_=>false
 | (.none,_)::_=>false
 |_=>true
def DGet.kr{kvs:List (Key×V)}{k:Key}(e:Rd H a (.dK kvs)):DGet H a (kV k) (di kvs k):=.inl ⟨kvs,k,e,rfl,rfl⟩
def PrD.hd(h:PrD O H rd ks):noT ks=false/\∀q,cz ks (kD q)=none:=by
 obtain⟨kvs,_,_,rfl,_⟩:=h;refine⟨rfl,λq=>?_⟩;unfold cz;rw[List.find?_eq_none.mpr λx hx=>?_]
 .rfl
 .rcases zay.mp hx with rfl|hx
  .cases q<;>exact zbn
  .obtain⟨y,_,rfl⟩:=zaz.mp hx;cases q<;>exact zbn
def Ow.dict0(hk:noT ks=true)(h:Ow K O H (.dict ks) 0 v NoA):∃a vs,v=.ref a/\Rd H a (.dK vs)/\Owd K O H ks 0 vs NoA:=by
 obtain⟨a,vs,e,⟨_,h1,_,h2⟩|⟨z,_⟩|⟨_,⟨h1,_⟩|⟨cn,C,h1,_⟩|⟨h1,_⟩⟩|⟨z,_⟩|⟨_,_,_,_,_,_,_,h1,_⟩⟩:=h
 .exact⟨a,vs,e,h1,h2⟩
 .exact absurd rfl z
 .rw[h1.hd.1]at hk;cases hk
 .rw[h1]at hk;cases hk
 .rw[h1]at hk;cases hk
 .cases z
 .rw[h1]at hk;cases hk
def Ow.dict1{F:AS}(hd:d≠0/\d≠4/\d≠5)(h:Ow K O H (.dict ks) d v F):∃a vs,v=.ref a/\H a=some (.dK vs)/\F a/\∃F':AS,(∀b,F' b->F b/\b≠a)/\Owd K O H ks (dn d) vs F':=by
 obtain⟨a,vs,e,⟨z,_⟩|⟨_,h1,h2,F',h3,h4⟩|⟨z,_⟩|⟨z,_⟩|⟨_,_,_,_,_,_,_,_,_,_,_,_,z⟩⟩:=h
 .exact absurd z hd.1
 .exact⟨a,vs,e,h1,h2,F',h3,h4⟩
 .exact absurd z hd.1
 .exact absurd z hd.2.1
 .rcases z with⟨_,_,z⟩|⟨_,_,_,_,_,_,_,_,⟨z,_⟩|⟨z,_⟩⟩
  .exact absurd z hd.1
  .exact absurd z hd.2.2
  .exact absurd z hd.1
def xQ:ME:=eC (.dict [])
def MY:D->D->Option D
 |.dict ks,q=>(kOf q).bind λ_=>cz ks q
 |_,_=>none
def dIn:D->D->Option D
 |q,.dict ks=>if noT ks=true then(kOf q).map λ_=>.bool (cz ks q).isSome else none
 |_,_=>none
def pv:D->D->Option D
 |q,.dict ks=>if noT ks=true then(kOf q).map λ_=>.bool (!(cz ks q).isSome)else none
 |_,_=>none
section
variable{a c o k:Expr}{fk:ME}     
def zX:QE X (.Dict [] [] pos) (tF K p ds ds 3 xQ):=⟨pe_dnewK.imp λσ H Q ⟨Ox,en,R,t,en',e,hf,k⟩=>by
 cases hf;intro l hl;have n:NewTo H (upd H l (.dK [])) (λb=>b=l):=bJ hl;exact k (.ref l) _ R _ (Post.new e n.1 n.2) ⟨l,[],rfl,.inr (.inl ⟨by decide,aF,rfl,NoA,λ_ z=>z.elim,rfl⟩)⟩⟩
def Mr(i:Nat)(f:ME):ME:=λen=>(en[i]?).join.bind λ_=>(f en).bind λr=>match (r.2[i]?).join with
 |some (.dict ks)=>(kOf r.1).bind λ_=>(cz ks r.1).map λt=>(t,r.2)
 |_=>none
def LJ{neg:Bool}(h:tF K p ds ds2 3 (e2 (if neg then pv else dIn) f1 f2) σ H Q):(if neg then vA else LV) (tF K p ds ds1 d1 f1) (tF K p ds1 ds2 d2 f2) σ H Q:=by
 obtain⟨Ox,en,R,t,en',e,hf,k⟩:=h;unfold e2 at hf;obtain⟨⟨t1,en1⟩,h1,hf⟩:=zaa.mp hf;obtain⟨⟨t2,en2⟩,h2,hf⟩:=zaa.mp hf;obtain⟨t',h3,hf⟩:=zab.mp hf;cases hf;have go:∀(b:Bool->Bool),(∃q ks,t2=.dict ks/\noT ks=true/\kOf t1=some q/\t=.bool (b (cz ks t1).isSome))->tF K p ds ds1 d1 f1 σ H λy H1=>tF K p ds1 ds2 d2 f2 σ H1 λx H2=>∃a o,x=.ref a/\DGet H2 a y o/\Q (.bl (b o.isSome)) H2:=λb ⟨q,ks,e1,hk,e2,e3⟩=>by
  subst e1 e3;refine two (p1:=p) (p2:=p) e h1 h2 λx y H2 R2 F1 F2 P o1 o2=>?_;rw[zbk]at P;obtain⟨a,vs,ex,ha,ow⟩:=(Ow.letgo P (λ_=>.inr) o2).dict0 hk;rw[zx e2]at k;rcases ow.look q with⟨t',v,a1,a2,a3⟩|⟨z1,z2⟩
  .rw[a1]at k;refine⟨a,some v,ex,?_,k _ H2 R2 NoA (P.less λ_ z=>z.elim) rfl⟩;rw[<-a2,oK e2 o1];exact DGet.kr ha
  .rw[z1]at k;refine⟨a,none,ex,?_,k _ H2 R2 NoA (P.less λ_ z=>z.elim) rfl⟩;rw[<-z2,oK e2 o1];exact DGet.kr ha
 cases neg with
 |true=>
  refine go (λb=>!b) ?_;cases t2 with
  |dict ks=>
   have h4:(if noT ks=true then(kOf t1).map (λ_=>PyData.bool (!(cz ks t1).isSome))else none)=some t:=h3;by_cases hk:noT ks=true
   .rw[if_pos hk]at h4;obtain⟨q,hq,e⟩:=zab.mp h4;exact⟨q,ks,rfl,hk,hq,e.symm⟩
   .rw[if_neg hk]at h4;cases h4
  |_=>cases h3
 |false=>
  refine go (λb=>b) ?_;cases t2 with
  |dict ks=>
   have h4:(if noT ks=true then(kOf t1).map (λ_=>PyData.bool (cz ks t1).isSome)else none)=some t:=h3;by_cases hk:noT ks=true
   .rw[if_pos hk]at h4;obtain⟨q,hq,e⟩:=zab.mp h4;exact⟨q,ks,rfl,hk,hq,e.symm⟩
   .rw[if_neg hk]at h4;cases h4
  |_=>cases h3
def PC.imp{t t':TE}(h:PC X op a b t)(hi:∀σ H Q,t' σ H Q->t σ H Q):PC X op a b t':=λρ s σ H Q I hw=>h ρ s σ H Q I (hi _ _ _ hw)
def zI(hu:X.A.units+1<cLine)(ha:QE X a (tF K p ds ds1 d1 f1))(hb:QE X b (tF K p ds1 ds2 d2 f2))(h1:behindInMarks .NotIn b=false):QT X (.Compare a [.NotIn] [b] pos) (tFT K p ds ds2 (tV (e2 pv f1 f2))):=⟨(yE ((yP hu ha.h hb.h).imp λ_ _ _=>LJ (neg:=true)) h1).imp λ_ _ _=>pd⟩
def mx(i:Nat)(fk fe:ME):MS:=λen=>(fe en).bind λr=>match (r.2[i]?).join with
 |some _=>(fk r.2).bind λq=>match (q.2[i]?).join with
  |some (.dict ks)=>(kOf q.1).bind λ_=>if ks.length<sizeLine then some (.nx (q.2.set i (some (.dict (kF ks q.1 r.1)))))else none
  |_=>none
 |none=>none
def Ga(hd:ds2[i]?=some 1)(h:tFS K J ds ds2 (mx i fk fe) Dn σ H):Es (cV i) (tF K false ds1 ds2 d2 fk) (tF K false ds ds1 0 fe) Dn σ H:=by
 obtain⟨Ox,en,R,fl,e,hf,k⟩:=h;unfold mx at hf;obtain⟨⟨t1,en1⟩,h1,hf⟩:=zaa.mp hf
 dsimp only at hf
 split at hf
 case h_2=>cases hf
 next tt h0=>
 obtain⟨⟨t2,en2⟩,h2,hf⟩:=zaa.mp hf
 dsimp only at hf
 split at hf
 case h_2=>cases hf
 next ks h3=>
 obtain⟨q,hq,hf⟩:=zaa.mp hf;by_cases ξ:ks.length<sizeLine
 case neg=>rw[if_neg ξ]at hf;cases hf
 rw[if_pos ξ]at hf;cases hf;refine⟨Ox,en,R,t1,en1,e,h1,λx H1 R1 F1 P1 o1=>?_⟩;obtain⟨v0,d0,a1,_,_⟩:=P1.env.at_ i tt (aO h0);refine⟨v0,a1,?_⟩;refine⟨U F1 Ox,en1,R1,t2,en2,P1.env,h2,λy H2 R2 F2 P2 o2=>?_⟩;have P:=P1.trans P2;have o1':=Ow.over P1.env P2 o1;have w1:=Ow.letgo P (λ_=>.inl) o1';obtain⟨v',d',b1,b2,b3⟩:=P.env.at_ i _ (aO h3);rw[a1]at b1;cases b1;rw[hd]at b2;cases b2;obtain⟨l,vs,el,hl,hr,F',hf',ow⟩:=b3.dict1 (by decide);have eq:=oK hq o2;subst eq;refine⟨l,_,el,DPut.k hl (by rw[ow.len];exact ξ),?_⟩;have hi:i<en2.length:=(zah.mp (aO h3)).1;have gG:∀a,(λa=>R2 i a) a->R2 i a\/U F1 F2 a:=λa z=>.inl z;have sub:=l6 (i:=i) (R1:=R2) (Ox:=Ox) (G:=λa=>R2 i a) (F':=NoA) (F:=U F1 F2) gG (λ_ z=>z.elim);have Ol:Own R2 (U (U F1 F2) Ox) l:=.inl ⟨i,hr⟩;have PS:=P.slot (G:=λa=>R2 i a) (F':=NoA) (o2:=.dK (cc vs q x)) (t:=.dict (kF ks t2 t1)) hr hi a1 hd gG (λ_ z=>z.elim) (λ_ _ z=>z) ?_
 .exact k σ _ _ PS.s
 refine⟨l,cc vs q x,el,.inr (.inl ⟨by decide,aF,hr,NoA,λ_ z=>z.elim,?_⟩)⟩;rw[zx hq];refine Owd.put0 (Owd.past sub Ol (λ_ z=>z.elim) (Owd.any0 ks ow)) ?_;refine Ow.past (O:=Own R2 Ox) (λa z=>?_) (.inl ⟨i,hr⟩) (λ_ z=>z.elim) w1;rcases z with⟨j,z⟩|z|z
 .by_cases hj:j=i
  .rw[if_pos hj]at z;exact .inl ⟨i,z⟩
  .rw[if_neg hj]at z;exact .inl ⟨j,z⟩
 .exact z.elim
 .exact .inr z
def xE(hu:X.A.units+1<cLine)(hN:X.N[i]?=some x)(hv:Vis X.env.scope x)(he:QE X e (tF K false ds ds1 0 fe))(hk:QE X k (tF K false ds1 ds2 d2 fk))(h1:ds2[i]?=some 1)(hdb:(x==("__debug__":Str))=false)(hcd:(x==("__classdict__":Str))=false)(hs:swapsWith e (some (.Subscript (.Name x px) k ζ)) pos.line X.env=pure false):QS X (.Assign [.Subscript (.Name x px) k ζ] e pos) (tFS K J ds ds2 (mx i fk fe)):=⟨(Fm hu (cg hN hv hdb hcd) hk.h he.h hs).imp λ_ _ _=>Ga h1⟩
end
def evP:List (ME×ME)->En->Option (List (D×D)×En)
 |[],en=>some ([],en)
 | (fk,fv)::r,en=>(fk en).bind λx=>(fv x.2).bind λy=>(evP r y.2).bind λz=>(kOf x.1).map λ_=>((x.1,y.1)::z.1,z.2)
def JP(ks:List (D×D)):List (D×D):=ks.foldl (λacc kv=>kF acc kv.1 kv.2) []
def LO(fs:List (ME×ME)):ME:=λen=>(evP fs en).bind λr=>if r.1.length<=15 then some (.dict (JP r.1),r.2)else none
section
variable{a c o k:Expr}{fk:ME}       
def MH(i j:Nat)(fa:MA):MS:=λen=>(fa en).bind λr=>match r.1 with
 |[.inl a,.inl b]=>some (.nx ((r.2.set i (some a)).set j (some b)))
 |_=>none
end
section
variable{ws:List V}{x:V} 
def K5(K:zbU):List V->Hp->VK->Prop:=λxs H Q=>∃(p:Addr) (ns:List Int),xs=[.ref p]/\SqL K H p (ns.map V.int)/\Q (.int ns.sum) H
def Ai(hc:X.calm=true):CallR X (.builtin "sum") (K5 X.K):=by
 intro ρ s σ H xs us Q I r h;obtain⟨p,ns,rfl,hp,q⟩:=h;obtain⟨u,rfl,ru⟩:=iy r;cases ru;obtain⟨its,rv,pl,hz⟩:=I.list hp;have hl:its.length=ns.length:=by rw[<-rv.length,zad]
 have hlt:p<s.heap.objs.size:=by
  obtain⟨o,n,e,_⟩:=id pl;exact zal e
 have hsz:its.toArray.size=ns.length:=by rw[zai,hl]
 refine call_sum_walkAnyS (wpAny_pyIter_list pl.isList ?_);refine⟨s.heap.objs.size,[s.heap.objs.size,p],[s.heap.objs.size],_,its.toArray.size,λi v=>its.toArray[i]?=some v,_,λi=>ns.getD i 0,rfl,(Walks.list (A:=X.A.in1) (show X.A.in1.handled=none from I.ok.hd hc) s.heap.objs.size p (zaw hlt) its.toArray).toS,?_,?_,?_,?_⟩
 .exact⟨⟨_,zan _ rfl,rfl,rfl⟩,pl.isList.push _⟩
 .intro b hb;show b<(s.heap.push _).objs.size;rw[zbu];have hb':b=s.heap.objs.size\/b=p:=by simpa using hb
  rcases hb' with rfl|rfl
  .exact zaI _
  .exact Nat.lt_succ_of_lt hlt
 .intro i v hv;have hv':its[i]?=some v:=by simpa using hv
  have hi:i<ns.length:=by
   rw[<-hl];exact(zah.mp hv').1
  obtain⟨u,hu,ru⟩:=rv.get (i:=i) (x:=V.int ns[i]) (by rw[zao,zak hi];rfl);rw[hu]at hv';cases hv';obtain⟨t,rfl⟩:=ru;refine⟨t,?_⟩;show Value.int ns[i] t=Value.int (ns.getD i 0) t;rw[zbh,zak hi];rfl
 .intro s' t' hm;have e:preSum (λi=>ns.getD i 0) its.toArray.size=ns.sum:=by
   rw[hsz,mR ns ns.length (zav _),zaP]
  rw[e];obtain⟨hh,g,dr,tk,os'⟩:=s';have e1:dr=s.drawn:=hm.drawn;have e2:os'=s.os:=hm.os;have e3:g=s.gens:=hm.gens;subst e1 e2 e3;refine⟨.int ns.sum,H,I.kept (t':=tk) λb o z=>hm.heap b o ?_ (zaf _ z),⟨_,rfl⟩,q⟩;intro z';have z'':b=s.heap.objs.size:=by simpa using z'
  exact zaw (zal z) z''
noncomputable def gX:List D->Option (List Int)
 |[]=>some []
 |.int i::r=>(gX r).map (i::·)
 |_::_=>none
theorem ke:∀{ts:List D} {vs:List V} {bs:List Int},Ows K O H ts 0 vs NoA->gX ts=some bs->vs=bs.map V.int
 |[],_,_,h,hb=>by cases hb;exact h
 |.int b::r,_,_,h,hb=>by
  obtain⟨v,w,F1,F2,e,_,_,_,h4,h5⟩:=h;obtain⟨bs',h6,h7⟩:=zab.mp hb;subst e h7;rw[show v=.int b from h4,ke (Ows.any0 r h5) h6];rfl
 |.none::_,_,_,_,hb=>by cases hb
 |.bool _::_,_,_,_,hb=>by cases hb
 |.str _::_,_,_,_,hb=>by cases hb
 |.list _::_,_,_,_,hb=>by cases hb
 |.tuple _::_,_,_,_,hb=>by cases hb
 |.dict _::_,_,_,_,hb=>by cases hb
def sN:List D->Option D
 |[.list ts]=>(gX ts).map λns=>.int ns.sum
 |_=>none
def uh(hK:X.K=K)(hc:X.calm=true):CallR X (.builtin "sum") (rFn K sN 3):=by
 subst hK;refine(Ai hc).imp ?_;rintro xs H Q ⟨O,as,t,oa,hd,hg,k⟩
 match as,hg with
 |[.list ts],hg=>
  obtain⟨ns,h1,rfl⟩:=zab.mp hg;obtain⟨v,rfl,o⟩:=oa.one;obtain⟨a,vs,rfl,fz,w⟩:=o.lst0;have e:=ke w h1;subst e;exact⟨a,ns,rfl,fz.sq,k _ H NoA .refl rfl⟩
end
theorem Ows.cat{us:List D}{ws:List V}{F2:AS}:∀{ts:List D} {vs:List V} {F1:AS},Ows K O H ts d vs F1->Ows K O H us d ws F2->(∀b,F1 b->¬F2 b)->Ows K O H (ts++us) d (vs++ws) (U F1 F2)
 |[],vs,F1,h,h2,_=>by
  have e:vs=[]:=h;subst e;exact Ows.mv (G:=λ_=>True) ⟨λ_ _ q _=>q,λ_ z=>.inl z⟩ us (λ_ _=>trivial) (Ows.grow (λ_ z=>z) us (λ_ z=>.inr z) h2)
 |u::ts,vs,F1,h,h2,hd=>by
  obtain⟨w,r,G1,G2,e,s1,s2,s3,h4,h5⟩:=h;subst e;refine⟨w,r++ws,G1,U G2 F2,rfl,λb z=>.inl (s1 b z),λb z=>z.imp (s2 b) id,λb z z2=>?_,h4,Ows.cat h5 h2 λb z=>hd b (s2 b z)⟩;rcases z2 with z2|z2
  .exact s3 b z z2
  .exact hd b (s1 b z) z2
noncomputable def nW(i:Nat)(f:ME):ME:=λen=>match (en[i]?).join with
 |some (.list _)=>(f en).bind λr=>match r.1,(r.2[i]?).join with
  |.list us,some (.list ts)=>if ts.length+us.length<=sizeLine then some (.none,r.2.set i (some (.list (ts++us))))else none
  |_,_=>none
 |_=>none
def LI(hd:ds1[i]?=some d)(hz:d≠0)(h:tF K false ds ds1 3 (nW i f) σ H Q):tBM K "list" vH (cV i) (mr (tF K p ds ds1 d f) p9) σ H Q:=by
 obtain⟨Ox,en,R,t,en',e,hf,k⟩:=h;unfold nW at hf;split at hf
 case h_2=>cases hf
 next ts0 h0=>
 obtain⟨⟨t1,en1⟩,h1,hf⟩:=zaa.mp hf
 dsimp only at hf
 split at hf
 case h_2=>cases hf
 next us ts h2=>
 by_cases ξ:ts.length+us.length<=sizeLine
 case neg=>rw[if_neg ξ]at hf;cases hf
 rw[if_pos ξ]at hf;cases hf;obtain⟨v,d0,a1,_,a3⟩:=e.at_ i _ (aO h0);obtain⟨l0,vs0,e0,sq⟩:=a3.sqL;refine⟨v,a1,?_,Ox,en,R,_,en1,e,h1,λx H1 R1 F P o=>?_⟩
 .rw[e0];exact .inl ⟨rfl,vs0,sq⟩
 obtain⟨v',d',b1,b2,b3⟩:=P.env.at_ i _ (aO h2);rw[a1]at b1;cases b1;rw[hd]at b2;cases b2;obtain⟨l,vs,el,hl,hr,F',hf',ow⟩:=b3.ownL hz;obtain⟨m,ws,em,hm,hFm,F2,hf2,ow2⟩:=o.ownL hz;refine⟨l,m,vs,ws,el,by rw[em],hl,hm,by rw[ow.len,ow2.len];exact ξ,?_⟩;have hi:i<en1.length:=(zah.mp (aO h2)).1;have Fn:∀a,F a->a≠l:=λa z z2=>by
  subst z2;exact P.env.dx i a hr (.inl z)
 have sub:=l6 (i:=i) (R1:=R1) (Ox:=Ox) (G:=λa=>R1 i a\/F a) (F':=NoA) (F:=F) (λ_ z=>z) (λ_ z=>z.elim);have Ol:Own R1 (U F Ox) l:=.inl ⟨i,hr⟩;refine k .non (upd H1 l (.lst (vs++ws))) _ NoA (P.slot (G:=λa=>R1 i a\/F a) hr hi a1 hd (λ_ z=>z) (λ_ z=>z.elim) (λ_ _ z=>z) ?_) rfl;refine⟨l,vs++ws,el,.inr ⟨hz,aF,.inl hr,U F' F2,λb z=>?_,?_⟩⟩
 .rcases z with z|z
  .exact⟨.inl (hf' b z).1,(hf' b z).2⟩
  .exact⟨.inr (hf2 b z).1,Fn b (hf2 b z).1⟩
 .exact Ows.cat (Ows.past sub Ol (λb z=>(hf' b z).2) ow) (Ows.past sub Ol (λb z=>Fn b (hf2 b z).1) ow2) λb z1 z2=>P.env.dx i b (hf' b z1).1 (.inl (hf2 b z2).1)
def uq(hK:X.K=K)(hN:X.N[i]?=some x)(hv:Vis X.env.scope x)(h1:ds1[i]?=some d)(he:QE X e (tF K false ds ds1 d f))(hz:d≠0)(hd:(x==("__debug__":Str))=false)(hcd:(x==("__classdict__":Str))=false)(η:attributeBase (.Name x px) "extend" X.env (eval (.Name x px) X.env)=eval (.Name x px) X.env)(xO:((backTo ω (starEach [e] X.env)).all (λx=>!x.1)&&(backToKw ω (keywordEach [] X.env)).all (λx=>x.1.isSome)&&decide (([e]:List Expr).length+([]:List Keyword).length+(if([]:List Keyword).isEmpty then 0 else 1)<30))=true)(θ:(μ.endLine==ω.line)=true)(hs:starEach [e] X.env=[(false,eval e X.env)])(ι:(backTo ω (starEach [] X.env)).any (·.1)=false):QE X (.Call (.Attribute (.Name x px) "extend" μ) [e] [] ω) (tF K false ds ds1 3 (nW i f)):=⟨by
 subst hK;exact(sn PySem.F.plainAttrs_list PySem.F.slot_list_extend PySem.F.type_list_extend y0 (cg hN hv hd hcd) (fH he.h pa_nil hs) η xO θ hs ι).imp λ_ _ _=>LI h1 hz⟩
section
variable{ws:List V}{b:Addr}
noncomputable def dW(ts us:List D):List D:=List.zipWith (λx y=>.tuple [x,y]) ts us
def JF{u:D}{w:V}{q:Addr}(hp:H q=none)(h3:∀a,O1 a->∃o,H a=some o)(ov:Ow K O1 H t 0 v NoA)(ow:Ow K O1 H u 0 w NoA):(∀a o,H a=some o->upd H q (.tup [v,w]) a=some o)/\Ow K O1 (upd H q (.tup [v,w])) (.tuple [t,u]) 0 (.ref q) NoA:=by
 have g:=(bJ (o:=.tup [v,w]) hp).1;refine⟨g,q,[v,w],rfl,.inl ⟨rfl,⟨aF,λz=>?_⟩,v,[w],NoA,NoA,rfl,λ_ z=>z,λ_ z=>z,λ_ z=>z.elim,?_,w,[],NoA,NoA,rfl,λ_ z=>z,λ_ z=>z,λ_ z=>z.elim,?_,rfl⟩⟩
 .obtain⟨o,e⟩:=h3 q z;rw[hp]at e;cases e
 .exact Ow.mv (G:=NoA) ⟨λa o e _=>g a o e,λa z=>.inl z⟩ t (λ_ z=>z) ov
 .exact Ow.mv (G:=NoA) ⟨λa o e _=>g a o e,λa z=>.inl z⟩ u (λ_ z=>z) ow
def MB(fa:MA):MI:=λen=>(fa en).bind λr=>match r.1 with
 |[.inl (.list ts),.inl (.list us)]=>some (dW ts us,r.2)
 |_=>none
end
def eM(g:Str->List D->Option D)(f:ME)(fa:MA):ME:=λen=>(f en).bind λr=>match r.1 with
 |.str z=>(fa r.2).bind λq=>(vals q.1).bind λts=>(g z ts).map λt=>(t,q.2)
 |_=>none
structure MtF(K:zbU)(r:V->List V->Hp->VK->Prop)(g:Str->List D->Option D):Prop where
 h:∀{O:AS} {H:Hp} {z:Str} {ts:List D} {xs:List V} {t:D} {Q:VK},Ows K O H ts 0 xs NoA->g z ts=some t->(∀v,Ow K O H t 3 v NoA->Q v H)->r (.str z) xs H Q
def Kw{g:Str->List D->Option D}(hr:MtF K r g)(hs:bL 0 sh=true)(h:tF K (p1&&p2) ds ds2 3 (eM g f fa) σ H Q):tBM K "str" r (tF K p1 ds ds1 d1 f) (tFA K p2 ds1 ds2 sh fa) σ H Q:=by
 obtain⟨Ox,en,R,t,en',e,hf,k⟩:=h;unfold eM at hf;obtain⟨⟨t1,en1⟩,h1,hf⟩:=zaa.mp hf
 dsimp only at hf
 split at hf
 case h_2=>cases hf
 next z=>
 obtain⟨⟨as,en2⟩,h2,hf⟩:=zaa.mp hf;obtain⟨ts,h3,hf⟩:=zaa.mp hf;obtain⟨t',h4,hf⟩:=zab.mp hf;cases hf;refine⟨Ox,en,R,.str z,en1,e,h1,λx H1 R1 F1 P1 o1=>?_⟩;have ex:x=.str z:=o1;subst ex;refine⟨rfl,Ox,en1,R1,as,en2,P1.env0,h2,λvs H2 R2 F P2 o=>?_⟩;have P:=P1.after P2;obtain⟨F',s1,s2⟩:=OwA.ows hs h3 o;have o2:Ows K (Own R2 Ox) H2 ts 0 vs F':=s2 _ (λa z=>z.imp id .inr) λa z z2=>by
  rcases z2 with⟨i,z2⟩|z2
  .exact absurd (.inl z) (P.env.dx i a z2)
  .exact absurd z2 (P.fx a z)
 refine hr.h (Ows.any0 ts o2) h4 λv ov=>k v H2 R2 NoA (P.less λ_ z=>z.elim) ?_;rw[fC];exact ov
noncomputable def joinD:Str->List D->Option D
 |sep,[.list ts]=>(strsOf ts).bind λys=>if sep.length<=16/\(ys.map (·.length)).sum+ys.length<=1048576 then some (.str (Txt.join sep ys))else none
 |sep,[.tuple ts]=>(strsOf ts).bind λys=>if sep.length<=16/\(ys.map (·.length)).sum+ys.length<=1048576 then some (.str (Txt.join sep ys))else none
 |_,_=>none
where strsOf:List D->Option (List Str)
 |[]=>some []
 |.str z::r=>(strsOf r).map (z::·)
 |_::_=>none
theorem nK{O:AS}:∀{ts:List D} {ys:List Str} {xs:List V},joinD.strsOf ts=some ys->Ows K O H ts 0 xs NoA->xs=ys.map V.str
 |[],ys,xs,h,o=>by
  cases h;exact o
 |t::ts,ys,xs,h,o=>by
  obtain⟨v,r,F1,F2,e,_,_,_,h4,h5⟩:=o;cases t with
  |str z=>
   obtain⟨ys',h6,rfl⟩:=zab.mp h;have e4:v=.str z:=h4;rw[e,e4,nK h6 (Ows.any0 ts h5)];rfl
  |_=>cases h
def Gf:MtF K (Ev K) joinD where
 h:=λ{O H z ts xs t Q} o hg q=>by
  unfold joinD at hg;split at hg
  .next us=>
   obtain⟨ys,h1,h2⟩:=zaa.mp hg;by_cases hc:z.length<=16/\(ys.map (·.length)).sum+ys.length<=1048576
   case neg=>rw[if_neg hc]at h2;cases h2
   rw[if_pos hc]at h2;cases h2;obtain⟨v,r,F1,F2,e,_,_,_,h4,h5⟩:=o;have e5:r=[]:=h5;subst e5 e;obtain⟨a,vs,rfl,fz,w⟩:=(Ow.any0 _ h4).lst0;have e6:=nK h1 w;subst e6;exact⟨z,ys,a,rfl,rfl,.inl fz.sq,hc.1,hc.2,q _ rfl⟩
  .next us=>
   obtain⟨ys,h1,h2⟩:=zaa.mp hg;by_cases hc:z.length<=16/\(ys.map (·.length)).sum+ys.length<=1048576
   case neg=>rw[if_neg hc]at h2;cases h2
   rw[if_pos hc]at h2;cases h2;obtain⟨v,r,F1,F2,e,_,_,_,h4,h5⟩:=o;have e5:r=[]:=h5;subst e5 e;obtain⟨a,vs,rfl,fz,w⟩:=(Ow.any0 _ h4).tup0;have e6:=nK h1 w;subst e6;exact⟨z,ys,a,rfl,rfl,.inr fz.sq,hc.1,hc.2,q _ rfl⟩
  .cases hg
noncomputable def gq:Str->List D->Option D
 |z,[.str y]=>some (.bool (Txt.startswith z y))
 |_,_=>none
noncomputable def MC:Str->List D->Option D
 |z,[.str y]=>some (.bool (Txt.endswith z y))
 |_,_=>none
def AY{y:Str}{xs:List V}(o:Ows K O H [.str y] 0 xs NoA):xs=[.str y]:=by
 obtain⟨v,r,F1,F2,e,_,_,_,h4,h5⟩:=o;have e4:v=.str y:=h4;have e5:r=[]:=h5;rw[e,e4,e5]
def jh:MtF K vG gq where
 h:=λ{O H z ts xs t Q} o hg q=>by
  unfold gq at hg;split at hg
  .next y=>
   cases hg;exact⟨z,y,rfl,AY o,q _ rfl⟩
  .cases hg
def Gj{o:Expr}{name:Str}{id:String}{g:Str->List D->Option D}(hK:X.K=K)(slot:Slot "str" name id)(hty:typeOf (.builtin id)=pure (.type "method_descriptor"))(hm:MtR X id r)(hr:MtF K r g)(ho:PE X o (tF K p ds ds1 d1 f))(ha:PA X (e::es) (tFA K p ds1 ds2 sh fa))
  (hsh:bL 0 sh=true) (η:attributeBase o name X.env (eval o X.env)=eval o X.env)
  (xO:((backTo ω (starEach (e::es) X.env)).all (λx=>!x.1)&&(backToKw ω (keywordEach [] X.env)).all (λx=>x.1.isSome)
  &&decide ((e::es).length+([]:List Keyword).length+(if([]:List Keyword).isEmpty then 0 else 1)<30))=true)
  (θ:(μ.endLine==ω.line)=true) (hs:starEach (e::es) X.env=(false,eval e X.env)::starEach es X.env) (ι:(backTo ω (starEach es X.env)).any (·.1)=false):
  PE X (.Call (.Attribute o name μ) (e::es) [] ω) (tF K p ds ds2 3 (eM g f fa)):=by
 subst hK;exact(sn PySem.F.plainAttrs_str slot hty hm ho ha η xO θ hs ι).imp λ_ _ _ h=>Kw hr hsh (by rw[zbk];exact h)
section
open PySem.SeqAt Classical
variable{s:Shared} 
noncomputable def eqF(X:Cx)(O:AS)(H:Hp)(a:D)(u:Value):Bool:=decide (∃d v,RelV v u/\aA d=true/\Ow X.K O H d 0 v NoA/\peq d a=true)
def uv(I:Inv X ρ σ H s){a d:D}(r:RelV v u)(hn:aA d=true)(o:Ow X.K O H d 0 v NoA):eqF X O H a u=peq d a:=by
 unfold eqF;cases h:peq d a with
 |true=>exact zaB ⟨d,v,r,hn,o,h⟩
 |false=>
  refine zaA λ⟨d',v',r',hn',o',h'⟩=>?_;have e:=r.inj r';subst e
  have:=Ow.inj I d d' o o' hn;subst this;rw[h]at h';cases h'
theorem jW(I:Inv X ρ σ H s){a:D}:∀{ts:List D} {vs:List V} {us:List Value},aB ts=true->Ows X.K O H ts 0 vs NoA->Vals vs us->us.any (eqF X O H a)=ts.any λt=>peq t a
 |[],_,_,_,h,r=>by
  cases(show _=[]from h);cases r;rfl
 |t::ts,_,_,hn,h,r=>by
  obtain⟨v,q,F1,F2,e,_,_,_,h4,h5⟩:=h;subst e;have hn':aA t=true/\aB ts=true:=by simpa[aB]using hn
  cases r with
  |cons ru rr=>rw[List.any_cons,List.any_cons,uv I ru hn'.1 (Ow.any0 t h4),jW I hn'.2 (Ows.any0 ts h5) rr]
theorem gw(I:Inv X ρ σ H s){A:Around}{a:D}{x:V}{v:Value}(hna:aA a=true)(oa:Ow X.K O H a 0 x NoA)(ra:RelV x v)(hu:A.units+60+1<cLine):∀{ts:List D} {vs:List V} {us:List Value},aB ts=true->bC ts<=60->Ows X.K O H ts 0 vs NoA->Vals vs us->∀u∈us,EqAt A s u v (eqF X O H a u)
 |[],_,_,_,_,h,r=>by
  cases(show _=[]from h);cases r;exact λu hu=>by cases hu
 |t::ts,_,_,hn,hdp,h,r=>by
  obtain⟨w,q,F1,F2,e,_,_,_,h4,h5⟩:=h;subst e;have hn':aA t=true/\aB ts=true:=by simpa[aB]using hn
  have hd':gE t<=60/\bC ts<=60:=by simp only[bC]at hdp;lia
  cases r with
  |cons ru rr=>
   intro u' hu';rcases zay.mp hu' with rfl|hu'
   .rw[uv I ru hn'.1 (Ow.any0 t h4)];exact(xP I 60 t a A w x _ v hd'.1 hn'.1 hna (Ow.any0 t h4) oa ru ra hu).1
   .exact gw I hna oa ra hu hn'.2 hd'.2 (Ows.any0 ts h5) rr u' hu'
def inL:D->D->Option D
 |x,.list ts=>grd (aA x=true/\aB ts=true/\bC ts<=60) (.bool (ts.any λt=>peq t x))
 |x,.tuple ts=>grd (aA x=true/\aB ts=true/\bC ts<=60) (.bool (ts.any λt=>peq t x))
 |_,_=>none
def lu:D->D->Option D
 |x,.list ts=>grd (aA x=true/\aB ts=true/\bC ts<=60) (.bool (!ts.any λt=>peq t x))
 |x,.tuple ts=>grd (aA x=true/\aB ts=true/\bC ts<=60) (.bool (!ts.any λt=>peq t x))
 |_,_=>none
def xH(hK:X.K=K)(hu:X.A.units+64<cLine):OpR X (compareOp .In) (rF2 K inL 3):=by
 subst hK;intro ρ s σ H x y v u Q I rx ry ⟨O,a,b,t,oa,ob,hd,hg,k⟩;have hu1:X.A.in1.units+60+1<cLine:=by show X.A.units+1+60+1<cLine;lia
 cases b with
 |list ts=>
  obtain⟨⟨c1,c2,c3⟩,rfl⟩:=bV hg;obtain⟨p,vs,rfl,fz,w⟩:=ob.lst0;cases ry;obtain⟨its,r,pl,hz⟩:=I.list fz.sq;refine SeqAt.in_listAt (eqF X O H a) pl.isList (λz hz=>gw I c1 oa rx hu1 c2 c3 w r z (by simpa using hz)) ⟨.bl _,H,I,rfl,?_⟩;rw[show its.toArray.any (eqF X O H a)=its.any (eqF X O H a)by simp,jW I c2 w r];exact k _ H NoA .refl rfl
 |tuple ts=>
  obtain⟨⟨c1,c2,c3⟩,rfl⟩:=bV hg;obtain⟨p,vs,rfl,fz,w⟩:=ob.tup0;cases ry;obtain⟨its,r,pl,hz⟩:=I.tuple fz.sq;refine SeqAt.in_tupleAt (eqF X O H a) pl (λz hz=>gw I c1 oa rx hu1 c2 c3 w r z (by simpa using hz)) ⟨.bl _,H,I,rfl,?_⟩;rw[show its.toArray.any (eqF X O H a)=its.any (eqF X O H a)by simp,jW I c2 w r];exact k _ H NoA .refl rfl
 |_=>cases hg
def ui(hK:X.K=K)(hu:X.A.units+64<cLine):OpR X (compareOp .NotIn) (rF2 K lu 3):=by
 subst hK;intro ρ s σ H x y v u Q I rx ry ⟨O,a,b,t,oa,ob,hd,hg,k⟩;have hu1:X.A.in1.units+60+1<cLine:=by show X.A.units+1+60+1<cLine;lia
 cases b with
 |list ts=>
  obtain⟨⟨c1,c2,c3⟩,rfl⟩:=bV hg;obtain⟨p,vs,rfl,fz,w⟩:=ob.lst0;cases ry;obtain⟨its,r,pl,hz⟩:=I.list fz.sq;refine SeqAt.notIn_listAt (eqF X O H a) pl.isList (λz hz=>gw I c1 oa rx hu1 c2 c3 w r z (by simpa using hz)) ⟨.bl _,H,I,rfl,?_⟩;rw[show its.toArray.any (eqF X O H a)=its.any (eqF X O H a)by simp,jW I c2 w r];exact k _ H NoA .refl rfl
 |tuple ts=>
  obtain⟨⟨c1,c2,c3⟩,rfl⟩:=bV hg;obtain⟨p,vs,rfl,fz,w⟩:=ob.tup0;cases ry;obtain⟨its,r,pl,hz⟩:=I.tuple fz.sq;refine SeqAt.notIn_tupleAt (eqF X O H a) pl (λz hz=>gw I c1 oa rx hu1 c2 c3 w r z (by simpa using hz)) ⟨.bl _,H,I,rfl,?_⟩;rw[show its.toArray.any (eqF X O H a)=its.any (eqF X O H a)by simp,jW I c2 w r];exact k _ H NoA .refl rfl
 |_=>cases hg
end
abbrev MP:=En->Option (List Nat×En)
noncomputable def xi(f:Nat->Str):Nat->List Str
 |0=>[]
 |i+1=>if(xi f i).any (·==f i)=true then xi f i else xi f i++[f i]
section
variable{s:Shared}
def K3(z:Str)(i:Nat):Str:=match z.cps[i]? with
 |some c=>mk1 c
 |none=>""
end
section
variable{k:Expr}{pos2 py:Pos}
def iM(h:∀v H,Q v H->Q' v H):tF K p ds ds1 d f σ H Q->tF K p ds ds1 d f σ H Q'
 |⟨Ox,en,R,t,en',e,hf,k⟩=>⟨Ox,en,R,t,en',e,hf,λv H' R' F P o=>h _ _ (k v H' R' F P o)⟩
def Ml:D->Option D
 |.str z=>grd (z.length<4000) (.int (xi (K3 z) z.length).length)
 |_=>none
noncomputable def MK:D->D->Option D
 |.list ts,.int (-1)=>some (.list ts.reverse)
 |_,_=>none
noncomputable def oG:D->D->Option D
 |.tuple ts,.int (-1)=>some (.tuple ts.reverse)
 |_,_=>none
def sk:D->D->Option D
 |.str z,.int (-1)=>grd (z.length<=sizeLine) (.str ⟨z.cps.toList.reverse.toArray⟩)
 |_,_=>none
def rf(hK:X.K=K)(he:QE X e (tF K p ds ds1 d1 f1))(hk:QE X k (tF K p ds1 ds2 d2 f2)):QE X (.Subscript e (.Slice none none (some k) pos2) pos) (tF K p ds ds2 0 (e2 oG f1 f2)):=⟨by
 refine(Ba hK he.h hk.h).imp λσ H Q h=>?_;refine iM (λx H1 h1=>iM (λy H2 h2=>?_) h1) (mG (by rw[zbk];exact h));obtain⟨O,a,b,t,oa,ob,hd,hg,q⟩:=h2;unfold oG at hg;split at hg
 .cases hg;obtain⟨a,vs,rfl,fz,w⟩:=oa.tup0;exact⟨a,vs,rfl,ob,fz.sq,λl hl=>q _ _ _ (gu hl hd w.rev).1 (gu hl hd w.rev).2⟩
 .cases hg⟩
def zV(he:QE X e (tF K p ds ds1 d1 f1))(hk:QE X k (tF K p ds1 ds2 d2 f2)):QE X (.Subscript e (.Slice none none (some k) pos2) pos) (tF K p ds ds2 3 (e2 sk f1 f2)):=⟨by
 refine(Ft he.h hk.h).imp λσ H Q h=>?_;refine iM (λx H1 h1=>iM (λy H2 h2=>?_) h1) (mG (by rw[zbk];exact h));obtain⟨O,a,b,t,oa,ob,hd,hg,q⟩:=h2;unfold sk at hg;split at hg
 .obtain⟨c,rfl⟩:=bV hg;exact⟨_,oa,ob,c,q _ _ NoA .refl rfl⟩
 .cases hg⟩
def Mm(fa:MA):MI:=λen=>(fa en).bind λr=>match r.1 with
 |[.inl (.str x),.inl (.str y)]=>some (dW (wK x) (wK y),r.2)
 |_=>none
noncomputable def isB:D->D->Option D
 |.bool a,.bool b=>some (.bool (a==b))
 |_,_=>none
end
section
variable{a:Expr}{ta tb:TE}{rest:List Expr}
def L8:D->Option Int->Option Int->Option D
 |.tuple ts,lo,hi=>grd (¬(HT.sIx ts.length 0 lo=0/\HT.sIx ts.length ts.length hi=ts.length)) (.tuple (cq ts lo hi))
 |_,_,_=>none
def Ks(hK:X.K=K):SlR X (rFs K L8 0):=(LZ hK).imp λx lo hi H Q ⟨O,a,t,oa,hd,hg,k⟩=>by
 cases a with
 |tuple ts=>
  obtain⟨c,rfl⟩:=bV hg;obtain⟨a,vs,e1,f1,w1⟩:=oa.tup0;refine⟨a,vs,e1,f1.sq,by rw[w1.len];exact c,λp hp=>?_⟩;have w2:Ows K O H (cq ts lo hi) 0 (qC vs lo hi) NoA:=by
   unfold cq qC;rw[w1.len];exact(w1.drop _).take _
  exact k _ _ _ (gu hp hd w2).1 (gu hp hd w2).2
 |_=>cases hg
noncomputable def LS:D->Option Bool
 |.none=>some false
 |.bool b=>some b
 |.list ts=>some (!ts.isEmpty)
 |.tuple ts=>some (!ts.isEmpty)
 |_=>none
def MW(f g:ME):ME:=λen=>(f en).bind λr=>(LS r.1).bind λc=>if c then some r else g r.2
end
section
variable{a:Expr}    
def BO(hK:X.K=K)(ha:QE X a (tF K p ds ds1 d f1))(hb:QE X b (tF K p ds1 ds2 d2 f2))(hs:mI b)(hz:d≠0):QE X (.Subscript a b pos) (tF K p ds ds2 (dn d) (e2 ixA f1 f2)):=⟨by
 have hb:=hb.h;subst hK;refine(wV ix_seq ha.h hb hs).imp λσ H Q h=>?_;obtain⟨Ox,en,R,t,en',e,hf,k⟩:=h;unfold e2 at hf;obtain⟨⟨t1,en1⟩,h1,hf⟩:=zaa.mp hf;obtain⟨⟨t2,en2⟩,h2,hf⟩:=zaa.mp hf;obtain⟨t',h3,hf⟩:=zab.mp hf;cases hf;have go:tFA X.K (p&&(p&&true)) ds ds2 [.inl d,.inl d2] (ae f1 (ae f2 ai)) σ H (λvs H2=>∃x y,vs=[x,y]/\((∃(a:Addr) (us:List V) (n:Int) (v:V),x=.ref a/\y=.int n/\(SqL X.K H2 a us\/SqT X.K H2 a us)/\atI us n=some v/\Q v H2)\/(∃(z:Str) (n:Int) (c:Nat),x=.str z/\y=.int n/\z.length<=sizeLine/\atI z.cps.toList n=some c/\Q (.str (mk1 c)) H2))):=by
  refine⟨Ox,en,R,[.inl t1,.inl t2],en2,e,?_,λvs H1 R1 F P o=>?_⟩
  .unfold ae ai;rw[h1];show Option.map _ ((f2 en1).bind _)=_;rw[h2];rfl
  .obtain⟨x,r,d',dr,F1,F2,e1,e2',s1,s2,_,o1,y,r2,d2',dr2,G1,G2,e3,e4,s3,_,_,o2,o3⟩:=o;obtain⟨_,o3⟩:=o3;cases e2';subst e1 e3 o3;cases e4;refine⟨x,y,rfl,?_⟩;have P':Post X.K p ds2 Ox σ H en R en2 H1 R1 F:=by
    rw[zbS,zbk]at P;exact P
   cases t2 with
   |int n=>
    cases(show y=V.int n from o2);cases t1 with
    |list ts=>
     obtain⟨a,vs,rfl,⟨z,_⟩|⟨_,g1,g2,G,hg,g3⟩⟩:=o1
     .exact absurd z hz
     .have h3':atI ts n=some t:=h3;unfold atI at h3';obtain⟨j,hj,hj2⟩:=zaa.mp h3';obtain⟨v,hv,ov⟩:=g3.get hj2;refine .inl ⟨a,vs,n,v,rfl,rfl,.inl (.inl (.inl g1)),?_,?_⟩
      .unfold atI;rw[g3.len,hj];exact hv
      .have sub:∀b,G b->F b:=λb hb=>s1 b (hg b hb).1;exact k v H1 R1 G (P'.less sub) (Ow.grow (λb hb=>hb.imp id λhb=>hb.imp (sub b) id) _ (λ_ z=>z) ov)
    |tuple ts=>
     obtain⟨a,vs,rfl,⟨z,_⟩|⟨_,g1,g2,G,hg,g3⟩⟩:=o1
     .exact absurd z hz
     .have h3':atI ts n=some t:=h3;unfold atI at h3';obtain⟨j,hj,hj2⟩:=zaa.mp h3';obtain⟨v,hv,ov⟩:=g3.get hj2;refine .inl ⟨a,vs,n,v,rfl,rfl,.inr (.inl (.inl g1)),?_,?_⟩
      .unfold atI;rw[g3.len,hj];exact hv
      .have sub:∀b,G b->F b:=λb hb=>s1 b (hg b hb).1;exact k v H1 R1 G (P'.less sub) (Ow.grow (λb hb=>hb.imp id λhb=>hb.imp (sub b) id) _ (λ_ z=>z) ov)
    |str z=>
     dsimp only[ixA]at h3
     by_cases hl:z.length<=sizeLine
     .rw[if_pos hl]at h3;obtain⟨c,h5,h6⟩:=zab.mp h3;cases h6;exact .inr ⟨z,n,c,o1,rfl,hl,h5,k _ H1 R1 NoA (P'.less λ_ z=>z.elim) rfl⟩
     .rw[if_neg hl]at h3;cases h3
    |_=>cases h3
   |_=>cases t1<;>cases h3
 have go2:=mF (ds1:=ds1) (p1:=p) (p2:=p&&true) go;refine iM (λx H1 q1=>?_) go2;have q2:=mF (ds1:=ds2) (p1:=p) (p2:=true) q1;refine iM (λy H2 q3=>?_) q2;obtain⟨x',y',ee,q⟩:=pq q3;cases ee;rcases q with⟨a,us,n,v,rfl,rfl,hs|hs,hv,q⟩|⟨z,n,c,rfl,rfl,hl,hv,q⟩
 .exact .inl ⟨a,us,n,v,rfl,rfl,hs,hv,q⟩
 .exact .inr (.inl ⟨a,us,n,v,rfl,rfl,hs,hv,q⟩)
 .exact .inr (.inr ⟨z,n,c,rfl,rfl,hl,hv,q⟩)⟩
end
end L2
namespace L2
variable{X:Cx}{K:zbU}{p:Bool}{ds ds1 ds2:List Nat}{d d1 d2:Nat}{e o:Expr}{f f1 f2:ME}{σ:St}{H:Hp}{Q Q':VK}{g:D->D->Option D}{Ty:V->Hp->Prop}{O:AS}{ts:List D}{x:V}{μ ω:Pos}
open PySem PySem.Spec PyProof.Rows PySem.SeqAt PySem.MeetsSeq
def MM:D->D->Option D
 |.tuple ts,.int k=>grd (1<=k/\k<=1000/\ts.length<=1000) (.tuple (List.replicate k.toNat ts).flatten)
 |_,_=>none
def Mx:D->D->Option D
 |.int k,.str z=>grd (z.length<=4000/\1<=k/\k<=4000) (.str (Txt.mul z k))
 |_,_=>none
noncomputable def iP:List Int->Int
 |[]=>0
 |[a]=>a
 |a::b::r=>max a (iP (b::r))
theorem tN:∀{l:List Int},l≠[]->iP l∈l
 |[a],_=>zaq
 |a::b::r,_=>by
  have ih:=tN (l:=b::r) (by simp);unfold iP;rcases Int.le_total a (iP (b::r))with h|h
  .rw[Int.max_eq_right h];exact zaj _ ih
  .rw[Int.max_eq_left h];exact zaq
theorem vZ:∀{l:List Int} {x:Int},x∈l->x<=iP l
 |[a],x,h=>by simp at h;subst h;exact Int.le_refl _
 |a::b::r,x,h=>by
  unfold iP;rcases zay.mp h with rfl|h
  .exact Int.le_max_left _ _
  .exact Int.le_trans (vZ h) (Int.le_max_right _ _)
theorem pF(val:Nat->Int):∀k,argBest (λi j=>decide (val i>val j)) k<=k/\∀i,i<=k->val i<=val (argBest (λi j=>decide (val i>val j)) k)
 |0=>by
  rw[argBest.eq_1];exact⟨zav _,λi hi=>by rw[Nat.le_zero.mp hi];exact Int.le_refl _⟩
 |k+1=>by
  obtain⟨h1,h2⟩:=pF val k;rw[argBest.eq_2];by_cases h:val (k+1)>val (argBest (λi j=>decide (val i>val j)) k)
  .rw[if_pos (zaB h)];refine⟨zav _,λi hi=>?_⟩;rcases Nat.lt_or_ge i (k+1)with z|z
   .exact Int.le_trans (h2 i (by lia)) (Int.le_of_lt h)
   .rw[show i=k+1 by lia];exact Int.le_refl _
  .rw[if_neg (by rw[decide_eq_true_eq];exact h)];refine⟨by lia,λi hi=>?_⟩;rcases Nat.lt_or_ge i (k+1)with z|z
   .exact h2 i (by lia)
   .rw[show i=k+1 by lia];lia
def vo(ns:List Int)(h:ns≠[]):ns[argBest (λi j=>decide (ns.getD i 0>ns.getD j 0)) (ns.length-1)]?=some (iP ns):=by
 obtain⟨h1,h2⟩:=pF (λi=>ns.getD i 0) (ns.length-1);have hl:0<ns.length:=List.length_pos_iff.mpr h;revert h1 h2;generalize argBest (λi j=>decide (ns.getD i 0>ns.getD j 0)) (ns.length-1)=k;intro h1 h2;have hk:k<ns.length:=by lia
 have gk:ns.getD k 0=ns[k]:=by rw[zbh,zak hk];rfl
 have e:ns[k]=iP ns:=by
  refine Int.le_antisymm (vZ (zaJ hk)) ?_;obtain⟨i,hi,e⟩:=List.mem_iff_getElem.mp (tN h);have z:=h2 i (by lia);rw[gk,zbh,zak hi]at z;rw[<-e];exact z
 rw[zak hk,e]
def xj:List D->Option D
 |[.list ts]=>(gX ts).bind λns=>grd (ns≠[]) (.int (iP ns))
 |_=>none
def wc(hK:X.K=K)(hc:X.calm=true):CallR X (.builtin "max") (rFn K xj 3):=by
 subst hK;intro ρ s σ H xs us Q I r ⟨O,as,t,oa,hd,hr,k⟩
 match as,hr with
 |[.list ts],hr=>
  obtain⟨ns,h1,h2⟩:=zaa.mp hr;obtain⟨c,rfl⟩:=bV h2;obtain⟨v,rfl,o⟩:=oa.one;obtain⟨p,vs,rfl,fz,w⟩:=o.lst0;have e:=ke w h1;subst e;obtain⟨u,rfl,ru⟩:=iy r;cases ru;obtain⟨its,rv,pl,hz⟩:=I.list fz.sq;have hl:its.length=ns.length:=by rw[<-rv.length,zad]
  have hlt:p<s.heap.objs.size:=by
   obtain⟨o,n,e,_⟩:=id pl;exact zal e
  have hsz:its.toArray.size=ns.length:=by rw[zai,hl]
  have hn:0<ns.length:=List.length_pos_iff.mpr c;refine call_max_walk (wpAny_pyIter_list pl.isList ?_);refine⟨s.heap.objs.size,[s.heap.objs.size,p],[s.heap.objs.size],its.toArray.size,λi v=>its.toArray[i]?=some v,_,λi j=>decide (ns.getD i 0>ns.getD j 0),rfl,Walks.list (A:=X.A.in1) (show X.A.in1.handled=none from I.ok.hd hc) s.heap.objs.size p (zaw hlt) its.toArray,?_,?_,?_,?_,?_⟩
  .exact⟨⟨_,zan _ rfl,rfl,rfl⟩,pl.isList.push _⟩
  .intro b hb;show b<(s.heap.push _).objs.size;rw[zbu];have hb':b=s.heap.objs.size\/b=p:=by simpa using hb
   rcases hb' with rfl|rfl
   .exact zaI _
   .exact Nat.lt_succ_of_lt hlt
  .rw[hsz];exact hn
  .refine CmpOf.ints_gt (λi=>ns.getD i 0) λi v hv=>?_;have hv':its[i]?=some v:=by simpa using hv
   have hi:i<ns.length:=by
    rw[<-hl];exact(zah.mp hv').1
   obtain⟨u,hu,ru⟩:=rv.get (i:=i) (x:=V.int ns[i]) (by rw[zao,zak hi];rfl);rw[hu]at hv';cases hv';obtain⟨t,rfl⟩:=ru;refine⟨t,?_⟩;rw[zbh,zak hi];rfl
  .intro v h' tk hv hk;rw[hsz]at hv;have hv':its[argBest (λi j=>decide (ns.getD i 0>ns.getD j 0)) (ns.length-1)]?=some v:=by simpa using hv
   obtain⟨u,hu,ru⟩:=rv.get (i:=argBest (λi j=>decide (ns.getD i 0>ns.getD j 0)) (ns.length-1)) (x:=V.int (iP ns)) (by rw[zao,vo ns c];rfl);rw[hu]at hv';cases hv';refine⟨.int (iP ns),H,I.kept (t':=tk) λb o z=>hk b o ?_ (zaf _ z),ru,k _ H NoA .refl rfl⟩;intro z';have z'':b=s.heap.objs.size:=by simpa using z'
   exact zaw (zal z) z''
section
variable{p1 p2:Bool}      
def Kx(ht:∀a b t O x H F,g a b=some t->Ow K O H a d1 x F->Ty x H)(h:tF K (p1&&p2) ds ds2 d (e2 g f1 f2) σ H Q):
  tF K p1 ds ds1 d1 f1 σ H λx H1=>Ty x H1/\tF K p2 ds1 ds2 d2 f2 σ H1 λy H2=>rF2 K g d x y H2 Q:=by
 obtain⟨Ox,en,R,t,en',e,hf,k⟩:=h;unfold e2 at hf;obtain⟨⟨t1,en1⟩,h1,hf⟩:=zaa.mp hf;obtain⟨⟨t2,en2⟩,h2,hf⟩:=zaa.mp hf;obtain⟨t',h3,hf⟩:=zab.mp hf;cases hf;refine⟨Ox,en,R,t1,en1,e,h1,λx H1 R1 F1 P1 o1=>⟨ht _ _ _ _ _ _ _ h3 o1,U F1 Ox,en1,R1,t2,en2,P1.env,h2,λy H2 R2 F2 P2 o2=>?_⟩⟩;have P:=P1.trans P2;have o1':=Ow.over P1.env P2 o1;have o2':Ow K (Own R2 (U (U F1 F2) Ox)) H2 t2 d2 y F2:=lS▸o2;exact⟨Own R2 Ox,t1,t2,t,Ow.letgo P (λ_=>.inl) o1',Ow.letgo P (λ_=>.inr) o2',P.doms,h3,λv2 H3 F3 n o3=>k v2 H3 R2 F3 (P.fin n) (pL▸o3)⟩
def TyL(K:zbU)(x:V)(H:Hp):Prop:=∃a vs,x=.ref a/\SqL K H a vs
def TyT(x:V)(H:Hp):Prop:=∃a vs,x=.ref a/\H a=some (.tup vs)
def yo{F:AS}(h:Ow K O H (.list ts) d x F):TyL K x H:=by
 obtain⟨a,vs,rfl,⟨_,fz,_⟩|⟨_,g1,_⟩⟩:=h
 .exact⟨a,vs,rfl,fz.sq⟩
 .exact⟨a,vs,rfl,.inl (.inl g1)⟩
def IS{F:AS}(h:Ow K O H (.tuple ts) d x F):TyT x H:=by
 obtain⟨a,vs,rfl,⟨_,fz,_⟩|⟨_,g1,_⟩⟩:=h
 .exact⟨a,vs,rfl,fz.1⟩
 .exact⟨a,vs,rfl,g1⟩
def uo{T:String}{name:Str}{id:String}(pa:PlainAttrs T)(slot:Slot T name id)(hty:typeOf (.builtin id)=pure (.type "method_descriptor"))
  (ht:∀a b t O x H F,g a b=some t->Ow K O H a d1 x F->Ty x H) (hT:∀ρ s σ H x v,Inv X ρ σ H s->RelV x v->Ty x H->s.TypeIs v T/\∀a,v=.ref a->∃ob,s.heap.get? a=some ob/\ob.dict=none)
  (hm:OpR X (λv u=>call (.builtin id) [v,u]) (rF2 K g 3)) (ho:PE X o (tF K p ds ds1 d1 f1)) (he:PE X e (tF K p ds1 ds2 d2 f2))
  (η:attributeBase o name X.env (eval o X.env)=eval o X.env)
  (xO:((backTo ω (starEach [e] X.env)).all (λx=>!x.1)&&(backToKw ω (keywordEach [] X.env)).all (λx=>x.1.isSome)&&decide (([e]:List Expr).length+([]:List Keyword).length+(if([]:List Keyword).isEmpty then 0 else 1)<30))=true)
  (θ:(μ.endLine==ω.line)=true) (hs:starEach [e] X.env=[(false,eval e X.env)]) (ι:(backTo ω (starEach [] X.env)).any (·.1)=false):
  PE X (.Call (.Attribute o name μ) [e] [] ω) (tF K p ds ds2 3 (e2 g f1 f2)):=by
 intro ρ s σ H Q I h;have h':=Kx (p1:=p) (p2:=p) (ds1:=ds1) (d1:=d1) (d2:=d2) (Ty:=Ty) ht (by rw[zbk];exact h);refine wpAny_Call_method_late η xO θ rfl (thn (ho ρ s σ H _ I h') λv s1 ⟨x,H1,I1,r1,ty,q1⟩=>?_);obtain⟨h1,h2⟩:=hT ρ s1 σ H1 x v I1 r1 ty;refine⟨T,id,pa,slot,hty,h1,h2,?_⟩;have hA:=fH he pa_nil hs ω ρ s1 σ H1 (λxs H2=>∃y,xs=[y]/\rF2 K g 3 x y H2 Q) I1 (iM (λy H2 q=>⟨y,rfl,q⟩) q1);rw[hs]at hA ⊢;refine Calls.callWith_builtin (by show(false || (backTo ω (starEach [] X.env)).any (·.1))=false;rw[ι]<;>rfl) (Calls.evalArgs_plain ?_);refine thn hA ?_;rintro us s2 ⟨vs,H2,I2,r2,y,e2,q2⟩;subst e2;obtain⟨u,rfl,ru⟩:=iy r2;exact hm ρ s2 σ H2 x y v u Q I2 r1 ru q2
end
def lD:D->D->Option D
 |.list ts,.int k=>(gX ts).bind λns=>grd ((PyData.list (ns.map PyData.int)).layable0=true/\k∈ns) (.int (ns.idxOf k:Nat))
 |_,_=>none
def Mt:D->D->Option D
 |.tuple ts,b=>grd (aA b=true/\aB ts=true/\bC ts<=60) (.int (ts.countP λt=>peq t b:Nat))
 |_,_=>none
def zS(hK:X.K=K):OpR X (λv u=>call (.builtin "list.index") [v,u]) (rF2 K lD 3):=by
 subst hK;intro ρ s σ H x y v u Q I rx ry ⟨O,a,b,t,oa,ob,hd,hg,k⟩;unfold lD at hg;split at hg
 case h_2=>cases hg
 next ts n=>
 obtain⟨ns,h1,h2⟩:=zaa.mp hg;obtain⟨⟨c1,c2⟩,rfl⟩:=bV h2;obtain⟨a,vs,rfl,fz,w⟩:=oa.lst0;have e:=ke w h1;subst e;cases rx;cases(show y=V.int n from ob);obtain⟨tk,rfl⟩:=ry;obtain⟨its,rv,pl,hz⟩:=I.list fz.sq;exact index_list_ints pl.isList (xB rv) c1 c2 ⟨.int _,H,I.tok _,⟨_,rfl⟩,k _ H NoA .refl rfl⟩
def vj(hK:X.K=K)(ho:QE X o (tF K p ds ds1 d1 f1))(he:QE X e (tF K p ds1 ds2 d2 f2))(η:attributeBase o "index" X.env (eval o X.env)=eval o X.env)(xO:((backTo ω (starEach [e] X.env)).all (λx=>!x.1)&&(backToKw ω (keywordEach [] X.env)).all (λx=>x.1.isSome)&&decide (([e]:List Expr).length+([]:List Keyword).length+(if([]:List Keyword).isEmpty then 0 else 1)<30))=true)(θ:(μ.endLine==ω.line)=true)(hs:starEach [e] X.env=[(false,eval e X.env)])(ι:(backTo ω (starEach [] X.env)).any (·.1)=false):QE X (.Call (.Attribute o "index" μ) [e] [] ω) (tF K p ds ds2 3 (e2 lD f1 f2)):=⟨by
 have ho:=ho.h;subst hK;refine uo (Ty:=TyL X.K) F.plainAttrs_list F.slot_list_index F.type_list_index (λa b t O x H F hg o=>?_) (λρ s σ H x v I r ty=>?_) (zS rfl) ho he.h η xO θ hs ι
 .unfold lD at hg;split at hg
  .exact yo o
  .cases hg
 .obtain⟨a,vs,rfl,hs⟩:=ty;cases r;obtain⟨its,rv,⟨o,n,ho,hc,hdd,hda⟩,_⟩:=I.list hs;exact⟨⟨o,ho,hc⟩,λb e=>by cases e;exact⟨o,ho,hdd⟩⟩⟩
end L2
namespace L2
open PySem PySem.Spec PyProof.Rows HT
section
variable{prog:Program}{w:World}{A:Around}{E:Value->Shared->Prop}{s:Shared}
def mN{t sl:Addr}{items:Array Value}{vl vu:Value}{lo hi:Option Int}{Q:Value->Shared->Prop}(ht:IsTup s.heap t items)(hs:s.heap.IsSliceOf sl vl vu .none)(pl:IsPart vl lo)(pu:IsPart vu hi)
  (hw:HT.sIx items.size 0 lo=0/\HT.sIx items.size items.size hi=items.size) (h:Q (.ref t) s):wpAny (model prog w) A (getItem (.ref t) (.ref sl)) Q E s:=by
 obtain⟨os,hos,hcs,hds⟩:=id hs;have hTs:s.TypeIs (.ref sl) "slice":=⟨os,hos,hcs⟩;obtain⟨ot,hot,hct,m,hdt⟩:=id ht;obtain⟨cls,dd,data,slo⟩:=ot;simp only at hct hdt;subst hct hdt;unfold getItem
 try with_reducible refine zbO ?_
 first|refine zam (zaS ?_)|skip
 refine zam (wpAny_sequenceKey ht.typeIs (by decide) (zam (zbz (name:=Str.ofString "__getitem__") ht.typeIs PyProof.Rows.slot_tuple_getitem
  (wpAny_call_entry PyProof.Rows.slot_tuple_getitem ht.typeIs entry_tuple_getitem ?_ (args_tuple_getitem _ _)))))
 show wpAny _ _ (Builtin.Tuple.tupleItemsOf (.ref t) >>= _) _ _ s;refine zam (tupleItemsOf_ ht (zam (wpAny_typeOf hTs ?_)));rw[if_pos (by decide)];refine zam (iO hs pl pu ?_);rw[hw.1,hw.2];have h1:(((0:Nat):Int)==0&&(1:Int)==1&&(items.size-0)==items.size)=true:=by simp
 show wpAny _ _ (if(((0:Nat):Int)==0&&(1:Int)==1&&(items.size-0)==items.size)=true then _ else _) _ _ s;rw[if_pos h1]
 wp_walk using wpAny_loadPart' hot,wpAny_load hot
 exact⟨_,rfl,zaS h⟩
end
def gU:D->Option Int->Option Int->Option D
 |.tuple ts,lo,hi=>some (.tuple (cq ts lo hi))
 |_,_,_=>none
section
variable{X:Cx}{K:zbU}
def fK(hK:X.K=K):SlR X (rFs K gU 0):=by
 intro ρ s σ H x v vl vu lo hi sl Q I rx hs pl pu ⟨O,a,t,oa,hd,hg,k⟩;cases a with
 |tuple ts=>
  by_cases hw:HT.sIx ts.length 0 lo=0/\HT.sIx ts.length ts.length hi=ts.length
  .subst hK;obtain⟨a,vs,rfl,fz,w⟩:=id oa.tup0;cases rx;obtain⟨its,r,ht,hz⟩:=I.tuple fz.sq;have ξ:its.toArray.size=ts.length:=by rw[zai,<-w.len];exact r.length.symm
   refine⟨"tuple",_,PyProof.Rows.slot_tuple_getitem.lookup,ht.typeIs,?_⟩;refine mN ht hs pl pu (by rw[ξ];exact hw) ⟨.ref a,H,I,rfl,k _ H NoA .refl ?_⟩;cases hg;have e:cq ts lo hi=ts:=by
    unfold cq;rw[hw.1,hw.2];simp
   rw[e,fC];exact oa
  .refine Ks hK ρ s σ H x v vl vu lo hi sl Q I rx hs pl pu ⟨O,.tuple ts,t,oa,hd,?_,k⟩;cases hg;show grd _ _=_;unfold grd;rw[if_pos hw]
 |_=>cases hg
end
end L2
namespace L2
open PySem PySem.Spec PyProof.Rows
end L2
namespace L2
open PySem PySem.Spec PyProof.Rows PySem.SeqAt PySem.MeetsSeq
def oP(l:Addr)(items:Array Value)(n:Nat)(b:Addr)(items2:Array Value)(n2:Nat)(d2:Option Addr)(sl2:Array (Option Value))
  (h1:¬(!items.isEmpty&&Builtin.List.listTooLong (items.size+items2.size))=true) (h2:items.size<=sizeLine) (h3:items.size+items2.size<=sizeLine):
  Meets (Builtin.«list.extend» ⟨[.ref l,.ref b],[]⟩) (λ_ R s=>s.heap.get? l=some { cls:=.type "list",data:=.seq items n }/\s.heap.get? b=some { cls:=.type "tuple",dict:=d2,data:=.seq items2 n2,slots:=sl2 } /\
   R (.ok (.ret .none)) { s with heap:=s.heap.update l (Obj.mapSeq λx=>x++items2) }):=
 .of_wp λprog w A R s h=>by
  obtain⟨hp,g,d,tk,os⟩:=s;obtain⟨hl,hb,h⟩:=h
  wp_walk using wpAny_loadPart' hl,wpAny_load hl,wpAny_loadPart' hb,wpAny_load hb
  have e:(Obj.mapSeq (λx=>x++items2) ({ cls:=Value.type "list",data:=Data.seq items n }:Obj)).data.pastItsLine=none:=pastItsLine_seq (by rw[Array.size_append];lia);rw[e]
  wp_walk
  exact⟨_,rfl,h⟩
def tf:V->List V->Hp->VK->Prop:=λx vs H Q=>∃l b xs zs,x=.ref l/\vs=[.ref b]/\H l=some (.lst xs)/\H b=some (.tup zs)/\xs.length+zs.length<=sizeLine/\Q .non (upd H l (.lst (xs++zs)))
noncomputable def mH(i:Nat)(f:ME):ME:=λen=>match (en[i]?).join with
 |some (.list _)=>(f en).bind λr=>match r.1,(r.2[i]?).join with
  |.tuple us,some (.list ts)=>if ts.length+us.length<=sizeLine then some (.none,r.2.set i (some (.list (ts++us))))else none
  |_,_=>none
 |_=>none
section
variable{X:Cx}{K:zbU}{p p1 p2:Bool}{ds ds1 ds2:List Nat}{d d1 d2:Nat}{e:Expr}{f f1 f2:ME}{σ:St}{H:Hp}{Q Q':VK}{i:Nat}
def xg:MtM X "list.extend" tf:=by
 intro ρ s σ H x vs v us Q I rx rv h;obtain⟨l,b,xs,zs,rfl,rfl,hH,hB,hz,q⟩:=h;cases rx;obtain⟨u,rfl,ru⟩:=rv.one;cases ru;obtain⟨z,its,n,r,hl,e⟩:=I.lstM hH;obtain⟨ν,r2,pl,hz2⟩:=I.tuple (SqT.of hB);obtain⟨⟨cls,dd,data,sl⟩,ho,hc,m,hda⟩:=id pl;simp only at hc hda;subst hc hda;have q1:=r.length;have q2:=r2.length;have hsz:its.toArray.size+ν.toArray.size<=sizeLine:=by rw[zai,zai];lia
 have hlong:¬(!its.toArray.isEmpty&&Builtin.List.listTooLong (its.toArray.size+ν.toArray.size))=true:=by
  rw[tH hsz,zbT];exact zbn
 refine call_meets F.slot_list_extend ⟨_,e,rfl⟩ F.entry_list_extend (F.args_list_extend_2 _ _) (oP l its.toArray n b ν.toArray m dd sl hlong (by rw[zai];lia) hsz) ⟨e,ho,?_⟩;refine⟨.non,_,I.lset (its':=its++ν) hH e (by simp) (r.append r2) ?_,rfl,q⟩;rw[zae];exact hz
def KA(hd:ds1[i]?=some 1)(h:tF K false ds ds1 3 (mH i f) σ H Q):tBM K "list" tf (cV i) (mr (tF K p ds ds1 0 f) p9) σ H Q:=by
 obtain⟨Ox,en,R,t,en',e,hf,k⟩:=h;unfold mH at hf;split at hf
 case h_2=>cases hf
 next ts0 h0=>
 obtain⟨⟨t1,en1⟩,h1,hf⟩:=zaa.mp hf
 dsimp only at hf
 split at hf
 case h_2=>cases hf
 next us ts h2=>
 by_cases ξ:ts.length+us.length<=sizeLine
 case neg=>rw[if_neg ξ]at hf;cases hf
 rw[if_pos ξ]at hf;cases hf;obtain⟨v,d0,a1,_,a3⟩:=e.at_ i _ (aO h0);obtain⟨l0,vs0,e0,sq⟩:=a3.sqL;refine⟨v,a1,?_,Ox,en,R,_,en1,e,h1,λx H1 R1 F P o=>?_⟩
 .rw[e0];exact .inl ⟨rfl,vs0,sq⟩
 obtain⟨v',d',b1,b2,b3⟩:=P.env.at_ i _ (aO h2);rw[a1]at b1;cases b1;rw[hd]at b2;cases b2;obtain⟨l,vs,el,hl,hr,F',hf',ow⟩:=b3.ownL (by decide);obtain⟨m,ws,em,fz,ow2⟩:=(Ow.any0 _ o).tup0;refine⟨l,m,vs,ws,el,by rw[em],hl,fz.1,by rw[ow.len,ow2.len];exact ξ,?_⟩;have hi:i<en1.length:=(zah.mp (aO h2)).1;have sub:=l6 (i:=i) (R1:=R1) (Ox:=Ox) (G:=λa=>R1 i a\/F a) (F':=NoA) (F:=F) (λ_ z=>z) (λ_ z=>z.elim);have Ol:Own R1 (U F Ox) l:=.inl ⟨i,hr⟩;refine k .non (upd H1 l (.lst (vs++ws))) _ NoA (P.slot (G:=λa=>R1 i a\/F a) hr hi a1 hd (λ_ z=>z) (λ_ z=>z.elim) (λ_ _ z=>z) ?_) rfl;refine⟨l,vs++ws,el,.inr ⟨by decide,aF,.inl hr,U F' NoA,λb z=>?_,?_⟩⟩
 .rcases z with z|z
  .exact⟨.inl (hf' b z).1,(hf' b z).2⟩
  .exact z.elim
 .exact Ows.cat (Ows.past sub Ol (λb z=>(hf' b z).2) ow) (Ows.past sub Ol (λb z=>z.elim) ow2) λb z1 z2=>z2.elim
def zW{x:Str}{px μ ω:Pos}(hK:X.K=K)(hN:X.N[i]?=some x)(hv:Vis X.env.scope x)(h1:ds1[i]?=some 1)(he:QE X e (tF K false ds ds1 0 f))(hd:(x==("__debug__":Str))=false)(hcd:(x==("__classdict__":Str))=false)(η:attributeBase (.Name x px) "extend" X.env (eval (.Name x px) X.env)=eval (.Name x px) X.env)(xO:((backTo ω (starEach [e] X.env)).all (λx=>!x.1)&&(backToKw ω (keywordEach [] X.env)).all (λx=>x.1.isSome)&&decide (([e]:List Expr).length+([]:List Keyword).length+(if([]:List Keyword).isEmpty then 0 else 1)<30))=true)(θ:(μ.endLine==ω.line)=true)(hs:starEach [e] X.env=[(false,eval e X.env)])(ι:(backTo ω (starEach [] X.env)).any (·.1)=false):QE X (.Call (.Attribute (.Name x px) "extend" μ) [e] [] ω) (tF K false ds ds1 3 (mH i f)):=⟨by
 subst hK;exact(sn PySem.F.plainAttrs_list PySem.F.slot_list_extend PySem.F.type_list_extend xg (cg hN hv hd hcd) (fH he.h pa_nil hs) η xO θ hs ι).imp λ_ _ _=>KA h1⟩
end
end L2
namespace L2
variable{h h':Heap}{i t b z i1 i2 ta tb:Addr}{x x1 x2:Array Value}{k n d d' d1 d2 cd dr:Nat}{l lb p p1 p2 q:Bool}{prog P:Program}{w:World}{A:Around}{E:Value->Shared->Prop}{s:Shared}{a:Value}{Q:Option Value->Shared->Prop}{X:Cx}{tg m e c elt iter:Expr}{K:zbU}{ρ:List (Addr×Obj)}{σ:St}{H:Hp}{ys vs:List V}{elts es ifs:List Expr}{tp pos px ζ:Pos}{ds ds1 ds0 ds2 ds' dsi lk dps:List Nat}{fa:MA}{sh:Sh}{O:AS}{ts:List D}{f f1 f2:ME}{c1 c2:MT}{scope:Scope}{ns:List Str}{js:List (Option Nat)}{fi:MI}{g:MG}{J:Jd}{st:Stmt}{m1 m2:MS}{en en1 en2:En}{fl:Fl}
open PySem PySem.Spec PyProof.Rows
structure ZApartT(z TI TO i1 i2 ta tb:Addr):Prop extends ZApart z TI TO i1 i2 where
 taz:ta≠z
 taTO:ta≠TO
 tai1:ta≠i1
 tai2:ta≠i2
 tbz:tb≠z
 tbTO:tb≠TO
 tbi1:tb≠i1
 tbi2:tb≠i2
def TSt(h:Heap)(i t:Addr)(x:Array Value)(k:Nat):Prop:=h.IsTupleIter i t k/\h.IsTuple t x
def TSt.ext(st:TSt h i t x k)(s:Heap.SameBut b h h')(n1:i≠b)(n2:t≠b):TSt h' i t x k:=
 ⟨let⟨o,ho,r⟩:=st.1;⟨o,s.extBut _ _ n1 ho,r⟩,let⟨o,ho,r⟩:=st.2;⟨o,s.extBut _ _ n2 ho,r⟩⟩
def LTq(l:Bool)(h:Heap)(t:Addr)(x:Array Value):Prop:=cond l (h.IsList t x) (h.IsTuple t x)
def LTi(l:Bool)(h:Heap)(i t:Addr)(k:Nat):Prop:=cond l (h.IsListIter i t k) (h.IsTupleIter i t k)
def LTi.at{l:Bool}{h h':Heap}{i t:Addr}{k:Nat}(st:LTi l h i t k)(f:∀o,h.get? i=some o->h'.get? i=some o):LTi l h' i t k:=by
 cases l
 .exact Heap.IsTupleIter.at st λo e=>f o e
 .exact Heap.IsListIter.at st λo e=>f o e
def LTi.obj(st:LTi l h i t k):∃o,h.get? i=some o/\∀v,o.data≠.cell v:=by
 cases l<;>obtain⟨o,g,_,d⟩:=st<;>exact⟨o,g,λv q=>by rw[d]at q;cases q⟩
def LTq.lt(st:LTq l h t x):t<h.objs.size:=by
 cases l<;>obtain⟨_,e,_⟩:=st<;>exact zal e
def LTq.up(st:LTq l h t x)(f:∀o,h.get? t=some o->h'.get? t=some o):LTq l h' t x:=by
 cases l
 .obtain⟨o,g,r⟩:=st;exact⟨o,f o g,r⟩
 .exact Heap.IsList.at st λo e=>f o e
def LSt(l:Bool)(h:Heap)(i t:Addr)(x:Array Value)(k:Nat):Prop:=LTi l h i t k/\LTq l h t x
def LSt.ext(st:LSt l h i t x k)(s:Heap.SameBut b h h')(n1:i≠b)(n2:t≠b):LSt l h' i t x k:=
 ⟨st.1.at λo e=>s.extBut _ _ n1 e,st.2.up λo e=>s.extBut _ _ n2 e⟩
def uz(hh:A.handled=none)(jt tu:Addr)(hne:tu≠jt)(vals:Array Value):Draws prog w A jt [jt,tu] vals.size (λi v=>vals[i]?=some v) (λi h=>LSt l h jt tu vals i):=by
 cases l
 .exact hU hh jt tu hne vals
 .exact Draws.list hh jt tu hne vals
def pY{TI TO:Addr}{k1 k2:Nat}{b:Value}{Q:Value->Shared->Prop}(hh:A.handled=none)(D:ZApartT z TI TO i1 i2 ta tb)
  (hz:IsZip s.heap z TI TO .none) (hTI:IsPair s.heap TI (.ref i1) (.ref i2)) (hTO:IsPair s.heap TO a b)
  (h1:TSt s.heap i1 ta x1 k1) (h2:LSt l s.heap i2 tb x2 k2) (hk1:k1<x1.size) (hk2:k2<x2.size)
  (hQ:∀h' tk (c d:Value),x1[k1]?=some c->x2[k2]?=some d->IsZip h' z TI TO (rawInt s.heap.objs.size)->IsPair h' TO c d->h'.IsTupleIter i1 ta (k1+1)->LTi l h' i2 tb (k2+1) ->
   IsPair h' s.heap.objs.size c d->h'.objs.size=s.heap.objs.size+1 ->
   (∀c o,c≠z->c≠TO->c≠i1->c≠i2->s.heap.get? c=some o->h'.get? c=some o)->Q (.ref s.heap.objs.size) { s with heap:=h',toks:=tk }):
  wpAny (model prog w) A (Builtin.«zip.__next__» ⟨[.ref z],[]⟩) (λfin s'=>∃v,fin=.done (.ret v)/\Q v s') E s:=by
 show wpAny _ _ (field (.ref z) 2 >>= _) _ _ _;refine zam (wpAny_field hz rfl (x:=.bool false) rfl ?_);show wpAny _ _ (field (.ref z) 3 >>= _) _ _ _;refine zam (wpAny_field hz rfl (x:=.ref TI) rfl ?_);refine zam (wpAny_seqItems hTI rfl ?_);show wpAny _ _ (Builtin.SmallTypes.ownedTupleIsFree (.ref z) >>= _) _ _ _;refine zam ?_;unfold Builtin.SmallTypes.ownedTupleIsFree;refine zam (wpAny_field hz rfl (x:=.none) rfl (zaS ?_));simp only[if_true];refine zam (wpAny_rule ?_);refine zam (wpAny_field hz rfl (x:=.ref TO) rfl ?_);refine zam (wpAny_setField_rec hz (by simp) λh₁ hz₁ hs₁=>?_)
 replace hz₁:IsZip h₁ z TI TO .ellipsis:=hz₁
 refine zam ?_;simp only[List.zipIdx_cons,List.zipIdx_nil,List.forIn_cons,List.forIn_nil];refine zam (zam (wpAny_onRaise ?_));show wpAny _ _ (Builtin.SmallTypes.nextOf (.ref i1) >>= _) _ _ _;refine zam ((hU hh i1 ta D.tai1 x1).item k1 _ _ _ hk1 (h1.ext hs₁ D.i1z D.taz) λv1 h₂ tk2 hp1 h1₂ hs₂=>zaS ?_);have hc:x1[k1]?=some v1:=hp1;have hTO₂:IsPair h₂ TO a b:=hs₂.extBut _ _ D.TOi1 (hs₁.extBut _ _ D.TOz hTO);refine zam (wpAny_seqItems hTO₂ rfl ?_);refine zam (wpAny_updateSeq_pair hTO₂ λh₃ hTO₃ hs₃=>?_)
 replace hTO₃:IsPair h₃ TO v1 b:=hTO₃
 refine zam (wpAny_letGo (zaS ?_));refine zam (zam (wpAny_onRaise ?_));show wpAny _ _ (Builtin.SmallTypes.nextOf (.ref i2) >>= _) _ _ _;refine zam ((uz (l:=l) hh i2 tb D.tbi2 x2).item k2 _ _ _ hk2 (((h2.ext hs₁ D.i2z D.tbz).ext hs₂ D.i12.symm D.tbi1).ext hs₃ D.TOi2.symm D.tbTO) λv2 h₄ tk4 hp2 h2₄ hs₄=>zaS ?_);have hd:x2[k2]?=some v2:=hp2;have hTO₄:IsPair h₄ TO v1 b:=hs₄.extBut _ _ D.TOi2 hTO₃;refine zam (wpAny_seqItems hTO₄ rfl ?_);refine zam (wpAny_updateSeq_pair hTO₄ λh₅ hTO₅ hs₅=>?_)
 replace hTO₅:IsPair h₅ TO v1 v2:=hTO₅
 refine zam (wpAny_letGo (zaS (zaS ?_)));refine zam (wpAny_seqItems hTO₅ rfl ?_);refine zam (wpAny_newTuple ?_);have hsz:h₅.objs.size=s.heap.objs.size:=by rw[hs₅.1,hs₄.1,hs₃.1,hs₂.1,hs₁.1]
 have hz₅:IsZip h₅ z TI TO .ellipsis:=hs₅.extBut _ _ D.TOz.symm (hs₄.extBut _ _ D.i2z.symm (hs₃.extBut _ _ D.TOz.symm (hs₂.extBut _ _ D.i1z.symm hz₁)));have hk₅:∀c o,c≠z->c≠TO->c≠i1->c≠i2->s.heap.get? c=some o->h₅.get? c=some o:=λc o c1 c2 c3 c4 e=>
  hs₅.extBut _ _ c2 (hs₄.extBut _ _ c4 (hs₃.extBut _ _ c2 (hs₂.extBut _ _ c3 (hs₁.extBut _ _ c1 e))))
 have h1₅:TSt h₅ i1 ta x1 (k1+1):=((TSt.ext h1₂ hs₃ D.TOi1.symm D.taTO).ext hs₄ D.i12 D.tai2).ext hs₅ D.TOi1.symm D.taTO;have h2₅:LSt l h₅ i2 tb x2 (k2+1):=LSt.ext h2₄ hs₅ D.TOi2.symm D.tbTO;have hzlt:z<h₅.objs.size:=zal hz₅;show wpAny _ _ (Builtin.SmallTypes.ownedTupleHandOut (.ref z) (.ref h₅.objs.size) >>= _) _ _ _;refine zam ?_;unfold Builtin.SmallTypes.ownedTupleHandOut;have hz₆:IsZip (h₅.push { cls:=.type "tuple",data:=.seq #[v1,v2] }) z TI TO .ellipsis:=zaf _ hz₅;refine zam (wpAny_setField_rec hz₆ (by simp) λh₇ hz₇ hs₇=>?_)
 replace hz₇:IsZip h₇ z TI TO (rawInt h₅.objs.size):=hz₇
 refine wpAny_setField_rec hz₇ (by simp) λh₈ hz₈ hs₈=>?_
 replace hz₈:IsZip h₈ z TI TO (rawInt h₅.objs.size):=hz₈
 have up:∀c o,c≠z->h₅.get? c=some o->h₈.get? c=some o:=λc o c1 e=>hs₈.extBut _ _ c1 (hs₇.extBut _ _ c1 (zaf _ e));have hT₈:IsPair h₈ h₅.objs.size v1 v2:=hs₈.extBut _ _ (Nat.ne_of_gt hzlt) (hs₇.extBut _ _ (Nat.ne_of_gt hzlt) (zan _ rfl));have hz8:h₈.objs.size=h₅.objs.size+1:=by rw[hs₈.1,hs₇.1,zbu]
 rw[hsz]at hz₈ hT₈ hz8;refine zaS ⟨_,rfl,?_⟩;show Q (.ref h₅.objs.size) _;rw[hsz];exact hQ h₈ _ v1 v2 hc hd hz₈ (up _ _ D.TOz hTO₅) (let⟨o,ho,r⟩:=h1₅.1;⟨o,up _ _ D.i1z ho,r⟩) (h2₅.1.at λo e=>up _ _ D.i2z e) hT₈ hz8 λc o c1 c2 c3 c4 e=>up c o c1 (hk₅ c o c1 c2 c3 c4 e)
def rP{TI TO:Addr}{k1 k2:Nat}{b:Value}{Q:Fin->Shared->Prop}(hh:A.handled=none)(D:ZApartT z TI TO i1 i2 ta tb)
  (hz:IsZip s.heap z TI TO .none) (hTI:IsPair s.heap TI (.ref i1) (.ref i2)) (hTO:IsPair s.heap TO a b)
  (h1:TSt s.heap i1 ta x1 k1) (h2:LSt l s.heap i2 tb x2 k2) (hend:k1=x1.size\/(k1<x1.size/\k2=x2.size))
  (hE:∀h' e tk,(∀c o,c≠z->c≠TO->c≠i1->c≠i2->s.heap.get? c=some o->h'.get? c=some o)->(∃o,h'.get? e=some o/\o.cls=.type "StopIteration")->E (.ref e) { s with heap:=h',toks:=tk }):
  wpAny (model prog w) A (Builtin.«zip.__next__» ⟨[.ref z],[]⟩) Q E s:=by
 show wpAny _ _ (field (.ref z) 2 >>= _) _ _ _;refine zam (wpAny_field hz rfl (x:=.bool false) rfl ?_);show wpAny _ _ (field (.ref z) 3 >>= _) _ _ _;refine zam (wpAny_field hz rfl (x:=.ref TI) rfl ?_);refine zam (wpAny_seqItems hTI rfl ?_);show wpAny _ _ (Builtin.SmallTypes.ownedTupleIsFree (.ref z) >>= _) _ _ _;refine zam ?_;unfold Builtin.SmallTypes.ownedTupleIsFree;refine zam (wpAny_field hz rfl (x:=.none) rfl (zaS ?_));simp only[if_true];refine zam (wpAny_rule ?_);refine zam (wpAny_field hz rfl (x:=.ref TO) rfl ?_);refine zam (wpAny_setField_rec hz (by simp) λh₁ hz₁ hs₁=>?_)
 replace hz₁:IsZip h₁ z TI TO .ellipsis:=hz₁
 refine zam ?_;simp only[List.zipIdx_cons,List.zipIdx_nil,List.forIn_cons,List.forIn_nil];refine zam (zam (wpAny_onRaise ?_));show wpAny _ _ (Builtin.SmallTypes.nextOf (.ref i1) >>= _) _ _ _;rcases hend with rfl|⟨hk1,rfl⟩
 .refine zam ((hU hh i1 ta D.tai1 x1).done _ _ _ (h1.ext hs₁ D.i1z D.taz) λh₂ e hs₂ he=>?_);obtain⟨oe,hoe,hce⟩:=he;have hz₂:IsZip h₂ z TI TO .ellipsis:=hs₂ _ _ D.i1z.symm hz₁;have hez:e≠z:=λx=>by subst x;rw[hz₂]at hoe;cases hoe;simp at hce
  refine wpAny_setField_rec hz₂ (by simp) λh₃ _ hs₃=>hE h₃ e _ (λc o c1 _ c3 _ x=>hs₃.extBut _ _ c1 (hs₂ _ _ c3 (hs₁.extBut _ _ c1 x))) ⟨oe,hs₃.extBut _ _ hez hoe,hce⟩
 .refine zam ((hU hh i1 ta D.tai1 x1).item k1 _ _ _ hk1 (h1.ext hs₁ D.i1z D.taz) λv1 h₂ tk2 hp1 h1₂ hs₂=>zaS ?_);have hTO₂:IsPair h₂ TO a b:=hs₂.extBut _ _ D.TOi1 (hs₁.extBut _ _ D.TOz hTO);refine zam (wpAny_seqItems hTO₂ rfl ?_);refine zam (wpAny_updateSeq_pair hTO₂ λh₃ hTO₃ hs₃=>?_);refine zam (wpAny_letGo (zaS ?_));refine zam (zam (wpAny_onRaise ?_));show wpAny _ _ (Builtin.SmallTypes.nextOf (.ref i2) >>= _) _ _ _;refine zam ((uz (l:=l) hh i2 tb D.tbi2 x2).done _ _ _ (((h2.ext hs₁ D.i2z D.tbz).ext hs₂ D.i12.symm D.tbi1).ext hs₃ D.TOi2.symm D.tbTO) λh₄ e hs₄ he=>?_);obtain⟨oe,hoe,hce⟩:=he;have hz₄:IsZip h₄ z TI TO .ellipsis:=hs₄ _ _ D.i2z.symm (hs₃.extBut _ _ D.TOz.symm (hs₂.extBut _ _ D.i1z.symm hz₁));have hez:e≠z:=λx=>by subst x;rw[hz₄]at hoe;cases hoe;simp at hce
  refine wpAny_setField_rec hz₄ (by simp) λh₅ _ hs₅=>hE h₅ e _ (λc o c1 c2 c3 c4 x=>hs₅.extBut _ _ c1 (hs₄ _ _ c4 (hs₃.extBut _ _ c2 (hs₂.extBut _ _ c3 (hs₁.extBut _ _ c1 x))))) ⟨oe,hs₅.extBut _ _ hez hoe,hce⟩
def nB{TI TO:Addr}{k1 k2:Nat}{b:Value}(hh:A.handled=none)(D:ZApartT z TI TO i1 i2 ta tb)
  (hz:IsZip s.heap z TI TO .none) (hTI:IsPair s.heap TI (.ref i1) (.ref i2)) (hTO:IsPair s.heap TO a b)
  (h1:TSt s.heap i1 ta x1 k1) (h2:LSt l s.heap i2 tb x2 k2) (hk1:k1<x1.size) (hk2:k2<x2.size)
  (hQ:∀h' tk (c d:Value),x1[k1]?=some c->x2[k2]?=some d->IsZip h' z TI TO (rawInt s.heap.objs.size)->IsPair h' TO c d->h'.IsTupleIter i1 ta (k1+1)->LTi l h' i2 tb (k2+1) ->
   IsPair h' s.heap.objs.size c d->h'.objs.size=s.heap.objs.size+1 ->
   (∀c o,c≠z->c≠TO->c≠i1->c≠i2->s.heap.get? c=some o->h'.get? c=some o)->Q (some (.ref s.heap.objs.size)) { s with heap:=h',toks:=tk }):
  wpAny (model prog w) A (pyNext (.ref z)) Q E s:=by
 have hT:s.TypeIs (.ref z) "zip":=⟨_,hz,rfl⟩;unfold pyNext;exact zam (wpAny_attempt (zbz (name:=Str.ofString "__next__") hT F.slot_zip_next
  (wpAny_call_entry F.slot_zip_next hT F.entry_zip_next
   (pY hh D hz hTI hTO h1 h2 hk1 hk2 λh' tk c d a1 a2 a3 a4 a5 a6 a7 a8 a9=>zaS (hQ h' tk c d a1 a2 a3 a4 a5 a6 a7 a8 a9)) (F.args_zip_next_1 _))))
def oJ{TI TO:Addr}{k1 k2:Nat}{b:Value}(hh:A.handled=none)(D:ZApartT z TI TO i1 i2 ta tb)
  (hz:IsZip s.heap z TI TO .none) (hTI:IsPair s.heap TI (.ref i1) (.ref i2)) (hTO:IsPair s.heap TO a b)
  (h1:TSt s.heap i1 ta x1 k1) (h2:LSt l s.heap i2 tb x2 k2) (hend:k1=x1.size\/(k1<x1.size/\k2=x2.size))
  (hQ:∀h' tk,(∀c o,c≠z->c≠TO->c≠i1->c≠i2->s.heap.get? c=some o->h'.get? c=some o)->Q none { s with heap:=h',toks:=tk }):wpAny (model prog w) A (pyNext (.ref z)) Q E s:=by
 have hT:s.TypeIs (.ref z) "zip":=⟨_,hz,rfl⟩;unfold pyNext;refine zam (wpAny_attempt (zbz (name:=Str.ofString "__next__") hT F.slot_zip_next
  (wpAny_call_entry F.slot_zip_next hT F.entry_zip_next (rP hh D hz hTI hTO h1 h2 hend λh' e tk hk he=>?_) (F.args_zip_next_1 _))))
 obtain⟨o,ho,hc⟩:=he;refine zam (wpAny_isInstance (T:="StopIteration") (b:=true) ⟨o,ho,hc⟩ isSubtype_stop ?_);exact zaS (hQ _ tk hk)
abbrev zT1(h:Heap)(a:Addr):Heap:=h.push { cls:=.type "tuple_iterator",data:=.fields #[.ref a,.int 0 0] }
abbrev zT2(l:Bool)(h:Heap)(a b:Addr):Heap:=(zT1 h a).push { cls:=.type (cond l "list_iterator" "tuple_iterator"),data:=.fields #[.ref b,.int 0 0] }
abbrev zT3(l:Bool)(h:Heap)(a b:Addr):Heap:=(zT2 l h a b).push { cls:=.type "tuple",data:=.seq #[.ref h.objs.size,.ref (zT1 h a).objs.size] }
abbrev zT4(l:Bool)(h:Heap)(a b:Addr):Heap:=(zT3 l h a b).push { cls:=.type "tuple",data:=.seq #[.none,.none] }
abbrev zT5(l:Bool)(h:Heap)(a b:Addr):Heap:=(zT4 l h a b).push { cls:=.type "zip",data:=.fields #[.none,.bool false,.bool false,.ref (zT2 l h a b).objs.size,.ref (zT3 l h a b).objs.size] }
def qp(l:Bool)(a b:Addr)(x y:Array Value):
  Meets (Builtin.«zip.__new__» ⟨[.type "zip",.ref a,.ref b],[]⟩) (λ_ R s=>(s.heap.IsTuple a x/\LTq l s.heap b y)/\R (.ok (.ret (.ref (zT4 l s.heap a b).objs.size))) { s with heap:=zT5 l s.heap a b }):=
 .of_wp λprog w A R s h=>by
  obtain⟨hp,g,d,tk,os⟩:=s;obtain⟨⟨ha,hb⟩,h⟩:=h;have hsub:isSubtype (.type "zip") (.type "zip")=pure true:=by rw[isSubtype_type];kernel_rfl
  cases l
  .have hb':=Heap.IsTuple.push hb { cls:=.type "tuple_iterator",data:=.fields #[.ref a,.int 0 0] }
   wp_walk using wpAny_pyIter_tuple ha,wpAny_pyIter_tuple hb'
   exact⟨_,rfl,h⟩
  .have hb':=Heap.IsList.push hb { cls:=.type "tuple_iterator",data:=.fields #[.ref a,.int 0 0] }
   wp_walk using wpAny_pyIter_tuple ha,wpAny_pyIter_list hb'
   exact⟨_,rfl,h⟩
def Ah{a:Addr}{y:Array Value}{Q:Value->Shared->Prop}
  (ha:s.heap.IsTuple a x) (hb:LTq l s.heap b y) (h:∀h',IsZip h' (s.heap.objs.size+4) (s.heap.objs.size+2) (s.heap.objs.size+3) .none->IsPair h' (s.heap.objs.size+2) (.ref s.heap.objs.size) (.ref (s.heap.objs.size+1)) ->
   IsPair h' (s.heap.objs.size+3) .none .none->h'.IsTupleIter s.heap.objs.size a 0->LTi l h' (s.heap.objs.size+1) b 0->h'.objs.size=s.heap.objs.size+5 ->
   (∀c o,s.heap.get? c=some o->h'.get? c=some o)->Q (.ref (s.heap.objs.size+4)) { s with heap:=h' }):
  wpAny (model prog w) A (call (.type "zip") [.ref a,.ref b]) Q E s:=by
 refine callType_new F.called_zip (by decide) (F.typeCall_zip_2 _ _) (F.newCall_zip_2 _ _) (λobj=>F.args_object_init_3 obj _ _) F.entry_zip_new
  (qp l a b x y) ?_
 have z1:(zT1 s.heap a).objs.size=s.heap.objs.size+1:=zbu ..;have z2:(zT2 l s.heap a b).objs.size=s.heap.objs.size+2:=by rw[zbu,z1]
 have z3:(zT3 l s.heap a b).objs.size=s.heap.objs.size+3:=by rw[zbu,z2]
 have z4:(zT4 l s.heap a b).objs.size=s.heap.objs.size+4:=by rw[zbu,z3]
 have z5:(zT5 l s.heap a b).objs.size=s.heap.objs.size+5:=by rw[zbu,z4]
 have g5:(zT5 l s.heap a b).get? (zT4 l s.heap a b).objs.size=some _:=zan _ rfl;have g4:(zT5 l s.heap a b).get? (zT3 l s.heap a b).objs.size=some _:=zaf _ (zan _ rfl);have g3:(zT5 l s.heap a b).get? (zT2 l s.heap a b).objs.size=some _:=zaf _ (zaf _ (zan _ rfl));have g2:(zT5 l s.heap a b).get? (zT1 s.heap a).objs.size=some _:=zaf _ (zaf _ (zaf _ (zan _ rfl)));have g1:(zT5 l s.heap a b).get? s.heap.objs.size=some _:=zaf _ (zaf _ (zaf _ (zaf _ (zan _ rfl))));refine⟨⟨ha,hb⟩,?_⟩;show _/\_;rw[z2,z3,z4]at g5;rw[z1,z2]at g3;rw[z3]at g4;rw[z1]at g2;rw[z4];exact⟨⟨_,g5,rfl⟩,h _ g5 g3 g4 ⟨_,g1,rfl,rfl⟩ (by cases l<;>exact⟨_,g2,rfl,rfl⟩) z5 λc o x=>
  zaf _ (zaf _ (zaf _ (zaf _ (zaf _ x))))⟩
def uR{a b:Nat}(ha:a<n)(hb:b<n):ZApartT (n+4) (n+2) (n+3) n (n+1) a b:=
 ⟨wz n,zaw (by lia),zaw (by lia),zaw (by lia),zaw (by lia),zaw (by lia),zaw (by lia),zaw (by lia),zaw (by lia)⟩
def SqX(l:Bool)(K:zbU)(H:Hp)(b:Addr)(ys:List V):Prop:=cond l (SqL K H b ys) (SqT K H b ys)
def Inv.sqx(I:Inv X ρ σ H s)(h:SqX l X.K H b ys):∃its,Vals ys its/\LTq l s.heap b its.toArray:=by
 cases l
 .obtain⟨its,rv,p,_⟩:=I.tuple h;exact⟨its,rv,p⟩
 .obtain⟨its,rv,p,_⟩:=I.list h;exact⟨its,rv,p.isList⟩
def Inv.sqx_inj{zs:List V}(I:Inv X ρ σ H s)(h:SqX l X.K H b ys)(h':SqX l X.K H b zs):ys=zs:=by
 cases l
 .exact I.tuple_inj h h'
 .exact I.list_inj h h'
def Cd(l:Bool)(K:zbU)(a b:Addr):It:=
 ⟨λi H=>∃xs ys x y,SqT K H a xs/\SqX l K H b ys/\xs[i]?=some x/\ys[i]?=some y,
  λi H v H'=>∃p x y,v=.ref p/\H p=none/\H'=upd H p (.tup [x,y])/\(∀xs,SqT K H a xs->xs[i]?=some x)/\(∀ys,SqX l K H b ys->ys[i]?=some y),
  λi H=>∃xs ys,SqT K H a xs/\SqX l K H b ys/\(i=xs.length\/(i<xs.length/\i=ys.length))⟩
def yq(z TI TO i1 i2 a b:Addr)(D:ZApartT z TI TO i1 i2 a b):
  Turn P w K (.Tuple elts k tp) (Cd l K a b) [z,TI,TO,i1,i2] z (λi h=>IsZip h z TI TO .none/\IsPair h TI (.ref i1) (.ref i2)/\(∃u v,IsPair h TO u v)/\h.IsTupleIter i1 a i/\LTi l h i2 b i) where
 mem:=by simp
 obj:=λi h st c hc=>by
  obtain⟨h1,h2,⟨u,v,h3⟩,⟨o4,g4,_,d4⟩,h5⟩:=st;have hc':c=z\/c=TI\/c=TO\/c=i1\/c=i2:=by simpa using hc
  rcases hc' with rfl|rfl|rfl|rfl|rfl
  .exact⟨_,h1,λv q=>by
    have q':Data.fields _=Data.cell v:=q;cases q'⟩
  .exact⟨_,h2,λv q=>by
    have q':Data.seq _ _=Data.cell v:=q;cases q'⟩
  .exact⟨_,h3,λv q=>by
    have q':Data.seq _ _=Data.cell v:=q;cases q'⟩
  .exact⟨o4,g4,λv q=>by rw[d4]at q;cases q⟩
  .exact h5.obj
 keep:=λi h h' st kp=>⟨kp z (by simp) _ st.1,kp TI (by simp) _ st.2.1,let⟨u,v,e⟩:=st.2.2.1;⟨u,v,kp TO (by simp) _ e⟩,st.2.2.2.1.at λo q=>kp i1 (by simp) o q,st.2.2.2.2.at λo q=>kp i2 (by simp) o q⟩
 item:=by
  intro X hP hw hK hc i ρ s σ H E I hf st hg;subst hP hw hK;obtain⟨xs,ys,x,y,hq,hq2,hx,hy⟩:=hg;obtain⟨its,rv,p,hz⟩:=I.tuple hq;obtain⟨ν,rv2,p2⟩:=I.sqx hq2;obtain⟨u,hu,ru⟩:=rv.get hx;obtain⟨u2,hu2,ru2⟩:=rv2.get hy;obtain⟨hZ,hTI,⟨c1,c2,hTO⟩,hi1,hi2⟩:=st;have bd1:i<its.toArray.size:=by have:=(zah.mp hu).1;simpa using this
  have bd2:i<ν.toArray.size:=by have:=(zah.mp hu2).1;simpa using this
  refine nB (I.ok.hd hc) D hZ hTI hTO ⟨hi1,p⟩ ⟨hi2,p2⟩ bd1 bd2 λh1 tk c d hcx hdx a1 a2 a3 a4 a5 a6 a7=>?_;have ec:u=c:=by
   have e:its[i]?=some c:=by simpa using hcx
   rw[hu]at e;exact zat e
  have ed:u2=d:=by
   have e:ν[i]?=some d:=by simpa using hdx
   rw[hu2]at e;exact zat e
  subst ec ed;refine⟨_,rfl,wpAny_letOwnedTupleGo_zip a1 λh2 hz2' hs2=>?_⟩;have zL:z<s.heap.objs.size:=zal hZ;have ht2:IsPair h2 s.heap.objs.size u u2:=(hs2.2 _ (Nat.ne_of_gt zL)).trans a5;have hTI2:IsPair h2 TI (.ref i1) (.ref i2):=(hs2.2 _ D.TIz).trans (a7 _ _ D.TIz D.TITO D.TIi1 D.TIi2 hTI);have hTO2:IsPair h2 TO u u2:=(hs2.2 _ D.TOz).trans a2;have hi1':h2.IsTupleIter i1 a (i+1):=(let⟨o,ho,r⟩:=a3;⟨o,hs2.extBut _ _ D.i1z ho,r⟩);have hi2':LTi l h2 i2 b (i+1):=a4.at λo e=>hs2.extBut _ _ D.i2z e;have I2:Inv X ρ σ (upd H s.heap.objs.size (.tup [x,y])) { s with heap:=h2,toks:=tk }:=by
   refine I.turnedLaid (fp:=[z,TI,TO,i1,i2]) hf (zav _) (λc ob hb q=>?_) (λc hb=>?_) ?_
   .have n1:c≠z:=λe=>hb (by simp[e]);have n3:c≠TO:=λe=>hb (by simp[e]);have n4:c≠i1:=λe=>hb (by simp[e]);have n5:c≠i2:=λe=>hb (by simp[e]);exact(hs2.2 c n1).trans (a7 c ob n1 n3 n4 n5 q)
   .have hb':c=z\/c=TI\/c=TO\/c=i1\/c=i2:=by simpa using hb
    rcases hb' with rfl|rfl|rfl|rfl|rfl
    .exact⟨_,hz2'⟩
    .exact⟨_,hTI2⟩
    .exact⟨_,hTO2⟩
    .obtain⟨o,ho,_⟩:=hi1';exact⟨o,ho⟩
    .obtain⟨o,ho,_⟩:=hi2'.obj;exact⟨o,ho⟩
   .refine⟨(by show 2<=sizeLine;decide),[u,u2],.cons ru (.cons ru2 .nil),?_⟩;exact⟨_,ht2,rfl,_,rfl,rfl⟩
  have fr:∀c∈[z,TI,TO,i1,i2],upd H s.heap.objs.size (.tup [x,y]) c=none:=λc hb=>by
   have hlt:c<s.heap.objs.size:=by
    have hb':c=z\/c=TI\/c=TO\/c=i1\/c=i2:=by simpa using hb
    rcases hb' with rfl|rfl|rfl|rfl|rfl
    .exact zL
    .exact zal hTI
    .exact zal hTO
    .obtain⟨o,ho,_⟩:=hi1;exact zal ho
    .obtain⟨o,ho,_⟩:=hi2.obj;exact zal ho
   rw[az (zaw hlt)];exact(hf c hb).1
  exact⟨.ref s.heap.objs.size,_,I2,rfl,⟨_,x,y,rfl,I.fresh,rfl,λzs hz=>by rw[I.tuple_inj hz hq];exact hx,λzs hz=>by rw[I.sqx_inj hz hq2];exact hy⟩,⟨hz2',hTI2,⟨_,_,hTO2⟩,hi1',hi2'⟩,fr⟩
 done:=by
  intro X hP hw hK hc i ρ s σ H E I hf st hg;subst hP hw hK;obtain⟨xs,ys,hq,hq2,he⟩:=hg;obtain⟨its,rv,p,hz⟩:=I.tuple hq;obtain⟨ν,rv2,p2⟩:=I.sqx hq2;obtain⟨hZ,hTI,⟨c1,c2,hTO⟩,hi1,hi2⟩:=st;have l1:=rv.length;have l2:=rv2.length;have he':i=its.toArray.size\/(i<its.toArray.size/\i=ν.toArray.size):=by
   rw[zai,zai]
   lia
  exact oJ (I.ok.hd hc) D hZ hTI hTO ⟨hi1,p⟩ ⟨hi2,p2⟩ he' λh' tk eb=>⟨rfl,I.turnedMany (t':=tk) hf λc o hb q=>eb c o (λe=>hb (by simp[e])) (λe=>hb (by simp[e])) (λe=>hb (by simp[e])) (λe=>hb (by simp[e])) q⟩
 self:=λ_ _ _ _ _ st h=>wpAny_pyIter_zip st.1 h
def EL(l:Bool)(K:zbU)(ta:TA):TI:=λσ H R=>ta σ H λvs H1=>∃a b,vs=[.ref a,.ref b]/\(∃xs,SqT K H1 a xs)/\(∃ys,SqX l K H1 b ys)/\R (Cd l K a b) H1
def Fq{l:Expr}{ta:TA}{p:Pos}(hg:Gl X "zip")(hm:X.mg "zip"=none)(ha:PA X [l,m] ta)(hs:starEach [l,m] X.env=(false,eval l X.env)::starEach [m] X.env:=by rfl)(hpl:(backTo pos (starEach [m] X.env)).any (·.1)=false:=by rfl):
  PI X (.Tuple elts k tp) (.Call (.Name "zip" p) [l,m] [] pos) (EL lb X.K ta):=by
 intro ρ s σ H R I h;refine Call_ (jQ I hg hm boot_zip (PyProof.Rows.callWith_type1 (thn (ha pos ρ s σ H _ I h) λus s1 ⟨vs,H1,I1,r1,q1⟩=>?_) hs hpl));obtain⟨a,b,e,⟨xs,hq⟩,⟨ys,hq2⟩,q⟩:=q1;subst e;obtain⟨u,v,rfl,ru,rv'⟩:=wC r1;cases ru;cases rv';obtain⟨its,rv,pl,hz⟩:=I1.tuple hq;obtain⟨ν,rv2,pl2⟩:=I1.sqx hq2;have La:a<s1.heap.objs.size:=let⟨_,e,_⟩:=pl;zal e;have Lb:b<s1.heap.objs.size:=pl2.lt;refine Ah pl pl2 λh' hZ hTI hTO hi1 hi2 hsz hk=>?_;refine wpAny_pyIter_zip hZ ?_;have I2:Inv X ρ σ H1 { s1 with heap:=h' }:=I1.kept (t':=s1.toks) hk;refine⟨s1.heap.objs.size+4,[s1.heap.objs.size+4,s1.heap.objs.size+2,s1.heap.objs.size+3,s1.heap.objs.size,s1.heap.objs.size+1],_,_,H1,rfl,I2,yq _ _ _ _ _ a b (uR La Lb),⟨hZ,hTI,⟨_,_,hTO⟩,hi1,hi2⟩,λc hb=>?_,q⟩;have hb':s1.heap.objs.size<=c:=by
  have hb':c=s1.heap.objs.size+4\/c=s1.heap.objs.size+2\/c=s1.heap.objs.size+3\/c=s1.heap.objs.size\/c=s1.heap.objs.size+1:=by simpa using hb
  rcases hb' with rfl|rfl|rfl|rfl|rfl<;>lia
 exact I1.fpOk hb' (I1.hok.fresh hb')
def tU{l:Expr}{ta:TA}{p:Pos}(hK:X.K=K)(hg:Gl X "zip")(hm:X.mg "zip"=none)(ha:PA X [l,m] ta)(hs:starEach [l,m] X.env=(false,eval l X.env)::starEach [m] X.env:=by rfl)(hpl:(backTo pos (starEach [m] X.env)).any (·.1)=false:=by rfl):
  PI X (.Tuple elts k tp) (.Call (.Name "zip" p) [l,m] [] pos) (EL lb K ta):=by subst hK;exact Fq hg hm ha hs hpl
section
variable{O1:AS}{H0:Hp}{us:List D}{ws:List V}{a:Addr}
def FzX(l:Bool)(K:zbU)(O:AS)(H:Hp)(b:Addr)(ws:List V):Prop:=cond l (FzL K O H b ws) (FzT K O H b ws)
def qO(h:FzT K O H0 a vs)(ho:Ows K O H0 ts 0 vs NoA)(h':FzX l K O H0 b ws)(ho':Ows K O H0 us 0 ws NoA):kI K O H0 (Cd l K a b) (dW ts us):=λi H O1 h1 h2 h3=>by
 have sq:=(h.mv (ca h1 h2)).sq;have sq':SqX l K H b ws:=by
  cases l
  .exact(FzT.mv (ca h1 h2) h').sq
  .exact(FzL.mv (ca h1 h2) h').sq
 refine⟨λu hu=>?_,λhl=>⟨vs,ws,sq,sq',?_⟩⟩
 .unfold dW at hu;rw[List.getElem?_zipWith]at hu;split at hu
  case h_2=>cases hu
  next t t' ht ht'=>
  cases hu;obtain⟨v,hv,ov⟩:=ho.get ht;obtain⟨w,hw,ow⟩:=ho'.get ht';refine⟨⟨vs,ws,v,w,sq,sq',hv,hw⟩,λx H1 ⟨q,v',w',e1,hp,e2,y1,y2⟩=>?_⟩;have e3:=y1 vs sq;have e4:=y2 ws sq';rw[hv]at e3;rw[hw]at e4;cases e3;cases e4;subst e1 e2;exact JF hp h3 (Ow.mv (ca h1 h2) t (λ_ z=>z) ov) (Ow.mv (ca h1 h2) t' (λ_ z=>z) ow)
 .unfold dW at hl;rw[List.length_zipWith]at hl;rw[ho.len,ho'.len]
  lia
def lE(fa:MA):MI:=λen=>(fa en).bind λr=>match r.1 with
 |[.inl (.tuple ts),.inl (.tuple us)]=>some (dW ts us,r.2)
 |_=>none
def rb{l:Expr}(hK:X.K=K)(hg:Gl X "zip")(hm:X.mg "zip"=none)(ha:QA X [l,m] (tFA K p ds ds1 sh fa))(hs:aU l=true)(hs2:aU m=true):QI X (.Tuple elts k tp) (.Call (.Name "zip" px) [l,m] [] pos) (tFI K p ds ds1 (lE fa)):=⟨(tU (lb:=false) hK hg hm ha.h (by rw[bn hs]) (by rw[bn hs2];rfl)).imp λσ H R ⟨Ox,en,Rg,ts,en',e,hf,k⟩=>by
  unfold lE at hf;obtain⟨⟨as,en1⟩,h1,hf⟩:=zaa.mp hf;refine⟨Ox,en,Rg,as,en1,e,h1,λvs H1 R1 F P o=>?_⟩
  dsimp only at hf
  split at hf
  case h_2=>cases hf
  next t1 t2=>
  cases hf;obtain⟨v,r,d,dr,F1,F2,e1,e2,s1,s2,_,o1,v2,r2,d2,dr2,G1,G2,e3,e4,s3,_,_,o2,o3⟩:=o;obtain⟨_,o3⟩:=o3;subst e1 e3 o3;have q1:=Ow.letgo P s1 o1;have q2:=Ow.letgo P (λb z=>s2 b (s3 b z)) o2;obtain⟨a,xs,f1,⟨_,fz,ow⟩|⟨z,_⟩⟩:=q1
  .obtain⟨b,ys,f2,⟨_,fz2,ow2⟩|⟨z,_⟩⟩:=q2
   .subst f1 f2;exact⟨a,b,rfl,⟨xs,fz.sq⟩,⟨ys,fz2.sq⟩,k _ H1 R1 (P.less λ_ z=>z.elim) (qO (l:=false) fz ow fz2 ow2)⟩
   .exact absurd rfl z
  .exact absurd rfl z⟩
def lF(fa:MA):MI:=λen=>(fa en).bind λr=>match r.1 with
 |[.inl (.tuple ts),.inl (.list us)]=>some (dW ts us,r.2)
 |_=>none
def re{l:Expr}(hK:X.K=K)(hg:Gl X "zip")(hm:X.mg "zip"=none)(ha:QA X [l,m] (tFA K p ds ds1 sh fa))(hs:aU l=true)(hs2:aU m=true):QI X (.Tuple elts k tp) (.Call (.Name "zip" px) [l,m] [] pos) (tFI K p ds ds1 (lF fa)):=⟨(tU (lb:=true) hK hg hm ha.h (by rw[bn hs]) (by rw[bn hs2];rfl)).imp λσ H R ⟨Ox,en,Rg,ts,en',e,hf,k⟩=>by
  unfold lF at hf;obtain⟨⟨as,en1⟩,h1,hf⟩:=zaa.mp hf;refine⟨Ox,en,Rg,as,en1,e,h1,λvs H1 R1 F P o=>?_⟩
  dsimp only at hf
  split at hf
  case h_2=>cases hf
  next t1 t2=>
  cases hf;obtain⟨v,r,d,dr,F1,F2,e1,e2,s1,s2,_,o1,v2,r2,d2,dr2,G1,G2,e3,e4,s3,_,_,o2,o3⟩:=o;obtain⟨_,o3⟩:=o3;subst e1 e3 o3;have q1:=Ow.letgo P s1 o1;have q2:=Ow.letgo P (λb z=>s2 b (s3 b z)) o2;obtain⟨a,xs,f1,⟨_,fz,ow⟩|⟨z,_⟩⟩:=q1
  .obtain⟨b,ys,f2,⟨_,fz2,ow2⟩|⟨z,_⟩⟩:=q2
   .subst f1 f2;exact⟨a,b,rfl,⟨xs,fz.sq⟩,⟨ys,fz2.sq⟩,k _ H1 R1 (P.less λ_ z=>z.elim) (qO (l:=true) fz ow fz2 ow2)⟩
   .exact absurd rfl z
  .exact absurd rfl z⟩
end
def oOf:D->Option (Option Key)
 |.none=>some none
 |t=>(kOf t).map some
def JK{t:D}{k:Option Key}(h:oOf t=some k):(t=.none/\k=none)\/∃q,kOf t=some q/\k=some q:=by
 cases t with
 |none=>cases h;exact .inl ⟨rfl,rfl⟩
 |int i=>cases h;exact .inr ⟨_,rfl,rfl⟩
 |str x=>cases h;exact .inr ⟨_,rfl,rfl⟩
 |_=>cases h
section
variable{k v:Expr}{fk fv:ME}{Q:VK} 
def JG{t:D}{v:V}{F:AS}(h:bO t=true)(o:Ow K O H t d v F):v=dV t:=by
 cases t with
 |list ts=>cases h
 |tuple ts=>cases h
 |dict ts=>cases h
 |_=>exact o
end
def qpt{t:TT}(h:QW X e t):QT X e t:=⟨h.h.pt⟩
section
variable{a b:Expr}{m:MT}{i:Nat}{x:Str}
def Gk(B:BlkOkC X scope ns js)(hc:X.calm=true)(hi:QI X tg iter (tFI K p ds ds1 fi))(hg:∀C cl s₀ H₀ fp,QG (aC X scope ns C cl s₀ H₀ fp) tg (tFG K lk dsi dsi g))(ht:∀C cl s₀ H₀ fp,QTs (aC X scope ns C cl s₀ H₀ fp) ifs (tFT K true dsi dsi c1))(he:∀C cl s₀ H₀ fp,QE (aC X scope ns C cl s₀ H₀ fp) elt (tF K true dsi dsi cd f))(zZ:fA ds1 js dsi=true)(hd:dn d=cd)(hz:d≠0)(hlk:lk=fW js 0)(hs:∀x,foldedSetIterable iter X.env x=pure x):QE X (.ListComp elt [⟨tg,iter,ifs,0⟩] scope pos) (tF K p ds ds1 d (eLC true fi g c1 f js)):=⟨Lx B hc hi.h (λC cl s₀ H₀ fp=>(hg C cl s₀ H₀ fp).h) (λC cl s₀ H₀ fp=>(ht C cl s₀ H₀ fp).h) (λC cl s₀ H₀ fp=>(he C cl s₀ H₀ fp).h) zZ hd hz hlk hs⟩
def nU(B:BlkOkC X scope ns js)(hc:X.calm=true)(hi:QI X tg iter (tFI K false ds ds1 fi))(hg:∀C cl s₀ H₀ fp,QG (aC X scope ns C cl s₀ H₀ fp) tg (tFG K lk dsi dsi g))(ht:∀C cl s₀ H₀ fp,QTs (aC X scope ns C cl s₀ H₀ fp) ifs (tFT K false dsi dsi c1))(he:∀C cl s₀ H₀ fp,QE (aC X scope ns C cl s₀ H₀ fp) elt (tF K false dsi dsi cd f))(zZ:fA ds1 js dsi=true)(hd:dn d=cd)(hz:d≠0)(hlk:lk=fW js 0)(hs:∀x,foldedSetIterable iter X.env x=pure x):QE X (.ListComp elt [⟨tg,iter,ifs,0⟩] scope pos) (tF K false ds ds1 d (eLC false fi g c1 f js)):=⟨Kv B hc hi.h (λC cl s₀ H₀ fp=>(hg C cl s₀ H₀ fp).h) (λC cl s₀ H₀ fp=>(ht C cl s₀ H₀ fp).h) (λC cl s₀ H₀ fp=>(he C cl s₀ H₀ fp).h) zZ hd hz hlk hs⟩
end
section
variable{a b:Expr}{rest body gV:List Stmt}{fk fe:ME}{i:Nat}{x:Str}{m:MS}{gs:List D->En->Option En} 
def vh{x:Str}{pos':Pos}(hN:X.N.Nodup)(hi':X.N[i]?=some x)(hx:X.env.scope.names.lookup x=some .local)(B:BlkOkC X scope ns js)(hc:X.calm=true)(hi:QI X tg iter (tFI K false ds ds1 fi))(hg:∀C cl s₀ H₀ fp,QG (aC X scope ns C cl s₀ H₀ fp) tg (tFG K lk dsi dsi g))(ht:∀C cl s₀ H₀ fp,QTs (aC X scope ns C cl s₀ H₀ fp) ifs (tFT K q dsi dsi c1))(he:∀C cl s₀ H₀ fp,QE (aC X scope ns C cl s₀ H₀ fp) elt (tF K q dsi dsi cd f))(hds:ds1.set i d=ds')(zZ:fA ds1 js dsi=true)(hd:dn d=cd)(hz:d≠0)(hlk:lk=fW js 0)(hl:i<ds1.length)(hk:i∉J.lk)(hsw:swapsWith (.ListComp elt [⟨tg,iter,ifs,0⟩] scope pos) (some (.Name x pos')) ζ.line X.env=pure true)(hs:∀x,foldedSetIterable iter X.env x=pure x):QS X (.Assign [.Name x pos'] (.ListComp elt [⟨tg,iter,ifs,0⟩] scope pos) ζ) (tFS K J ds ds' (av i (eLC q fi g c1 f js))):=⟨zO hN hi' hx B hc hi.h (λC cl s₀ H₀ fp=>(hg C cl s₀ H₀ fp).h) (λC cl s₀ H₀ fp=>(ht C cl s₀ H₀ fp).h) (λC cl s₀ H₀ fp=>(he C cl s₀ H₀ fp).h) hds zZ hd hz hlk hl hk hsw hs⟩
def kA{c:Nat}{x:Str}{k:Expr}(hN:X.N[i]?=some x)(hv:Vis X.env.scope x)(he:QE X e (tF K false ds ds1 c fe))(hk:QE X k (tF K false ds1 ds2 d2 fk))(h1:ds2[i]?=some d)(hz:d≠0)(hc:dn d=c)(hdb:(x==("__debug__":Str))=false)(hcd:(x==("__classdict__":Str))=false)(ha:∀v,assign (.Subscript (.Name x px) k ζ) X.env v=(do
   let ov <-holding [v] (eval (.Name x px) X.env)
   let iv <-holding [v,ov] (eval k X.env)
   standAt ζ
   holding [v,ov,iv] (setItem ov iv v)
   release [v,ov,iv] []))(hs:swapsWithSole [.Subscript (.Name x px) k ζ] e pos.line X.env=pure false)(hw:swappedStores [.Subscript (.Name x px) k ζ] e X.env=pure none)(h2:(assignEach [.Subscript (.Name x px) k ζ] X.env).map (·.2)=[assign (.Subscript (.Name x px) k ζ) X.env]):QS X (.Assign [.Subscript (.Name x px) k ζ] e pos) (tFS K J ds ds2 (fO i fk fe)):=⟨BI hN hv he.h hk.h h1 hz hc hdb hcd ha hs hw h2⟩
end
section
variable{Q:VK}
def gZ{o:Expr}{name:Str}{id:String}{μ ω:Pos}{r:V->List V->Hp->VK->Prop}{g:Str->List D->Option D}(hK:X.K=K)(slot:Slot "str" name id)(hty:typeOf (.builtin id)=pure (.type "method_descriptor"))(hm:MtR X id r)(hr:MtF K r g)(ho:QE X o (tF K p ds ds1 d1 f))(ha:QA X (e::es) (tFA K p ds1 ds2 sh fa))(hsh:bL 0 sh=true)(η:attributeBase o name X.env (eval o X.env)=eval o X.env)(xO:((backTo ω (starEach (e::es) X.env)).all (λx=>!x.1)&&(backToKw ω (keywordEach [] X.env)).all (λx=>x.1.isSome)
  &&decide ((e::es).length+([]:List Keyword).length+(if([]:List Keyword).isEmpty then 0 else 1)<30))=true)(θ:(μ.endLine==ω.line)=true)(hs:starEach (e::es) X.env=(false,eval e X.env)::starEach es X.env)(ι:(backTo ω (starEach es X.env)).any (·.1)=false):QE X (.Call (.Attribute o name μ) (e::es) [] ω) (tF K p ds ds2 3 (eM g f fa)):=⟨Gj hK slot hty hm hr ho.h ha.h hsh η xO θ hs ι⟩
end
def Fun.okQ{mg:Str->Option Value}{base:Heap}{x qual:Str}{f:Addr}{fd:FuncData}{N ps:List Str}{b:MS}
  (F:Fun K x qual st f fd) (S:FnScope N ps (am st)) (hl:dps.length=ps.length) (hn:N.length-dps.length=n) (hJ:J=⟨qt dps,dps++List.replicate n 0,dr,[]⟩) (hd:ds0=dps++List.replicate n 0)
  (hb:∀(cdv:Value) (A:Around) (outer:List Env) (s:Shared) (H:Hp) (E:XK),Room k (A.deeper (envOfC qual (am st) s.heap.objs.size f cdv)) ->
   QSs (kG CX0 P w K mg base N qual (am st) f cdv A outer s H E).nox (bu st) (tFS K J ds0 ds0 b)):FnOk P w K mg base CX0 (k+1) f fd ps (spF K dps dr (fnF n dps b)):=by
 subst hJ hd;exact F.ok S (λvs H Q E h=>E7 hl h) λcdv A outer s H vs Q E hr h=>⟨_,(hb cdv A outer s H E hr).h,Ge hn h⟩
def JT(F:List D->Option (D×En)):Prop:=∀ns:List Int,ns.length<=63->∃ψ,F [.list (ns.map .int)]=some (.bool true,ψ)
noncomputable def oA(K:zbU):Sp:=λvs H Q _=>∃(a:Addr) (ns:List Int),vs=[.ref a]/\SqL K H a (ns.map V.int)/\ns.length<=63/\∀H':Hp,Q (.bl true) H'
theorem mS{K:zbU}{O:AS}{H:Hp}:∀ns:List Int,Ows K O H (ns.map .int) 0 (ns.map V.int) NoA
 |[]=>rfl
 |n::r=>⟨.int n,r.map V.int,NoA,NoA,rfl,λ_ z=>z,λ_ z=>z,λ_ z=>z.elim,rfl,mS r⟩
def JS{F:List D->Option (D×En)}(h:JT F){Q:VK}{E:XK}(q:oA K vs H Q E):spF K [0] dr F vs H Q E:=by
 obtain⟨a,ns,rfl,hs,hl,q⟩:=q;obtain⟨ψ,e⟩:=h ns hl;have fz:FzL K (λ_=>False) H a (ns.map V.int):=by
  rcases hs with hs|hs
  .exact .inl ⟨hs,λz=>z⟩
  .exact .inr λH'=>.inr hs
 have eO:Own (λ_=>NoA) NoA=(λ_=>False):=jm λb=>⟨λz=>z.elim (λ⟨_,z⟩=>z) λz=>z,λz=>z.elim⟩;refine⟨NoA,[.list (ns.map .int)],λ_=>NoA,.bool true,ψ,⟨λi t hi=>?_,λ_ _ _ z=>z.elim,λ_ _ z=>z.elim,λb z=>?_,rfl,rfl⟩,e,λv H' R' Fr _ o=>?_⟩
 .cases i with
  |zero=>
   have:t=.list (ns.map .int):=by
    have h2:some (some (PyData.list (ns.map .int)))=some (some t):=hi;injection h2 with h3
    injection h3 with h4
    exact h4.symm
   subst this;refine⟨.ref a,0,rfl,rfl,?_⟩;rw[eO];exact⟨a,ns.map V.int,rfl,.inl ⟨rfl,fz,mS ns⟩⟩
  |succ i=>simp at hi
 .rw[eO]at z;exact z.elim
 .rw[show v=.bl true from o];exact q H'
section
variable{c:MT}{b:MS}{t:D}
theorem j9:∀{n m:Nat} {en:En} {fl:Fl},whN c b n en=some fl->n<=m->whN c b m en=some fl
 |0,_,_,_,h,_=>by cases h
 |n+1,0,_,_,_,h=>by lia
 |n+1,m+1,en,fl,h,hm=>by
  unfold whN at h ⊢;obtain⟨r,h1,h⟩:=zaa.mp h;rw[h1];show(if r.1=true then _ else _)=_;by_cases hr:r.1=true
  .rw[if_pos hr]at h ⊢;obtain⟨f1,h2,h⟩:=zaa.mp h;rw[h2];cases f1 with
   |nx e=>exact j9 (n:=n) (m:=m) h (by lia)
   |ct e=>exact j9 (n:=n) (m:=m) h (by lia)
   |rt t e=>exact h
  .rw[if_neg hr]at h ⊢;exact h
def jc(h:whN c b n en=some fl):dC c b en=some fl:=by
 have q:∃n fl,whN c b n en=some fl:=⟨n,fl,h⟩;unfold dC;rw[dif_pos q];have h2:=q.choose_spec.choose_spec;have h3:=j9 h (Nat.le_max_left n q.choose);have h4:=j9 h2 (Nat.le_max_right n q.choose);rw[h3]at h4;exact h4.symm
def u3(h:c en=some (false,en1)):dC c b en=some (.nx en1):=by
 refine jc (n:=1) ?_;unfold whN;rw[h];rfl
def u4(h:c en=some (true,en1))(h1:b en1=some (.nx en2))(h2:dC c b en2=some fl):dC c b en=some fl:=by
 obtain⟨n,h3⟩:=jy h2;refine jc (n:=n+1) ?_;unfold whN;rw[h];show(b en1).bind _=_;rw[h1];exact h3
theorem iB{c:MT}{f:ME}{p:D->Bool}{F:D->D}{rest:En}:∀(ts acc:List D) (o:Option D),(∀t∈ts,c (some t::rest)=some (p t,some t::rest))->(∀t∈ts,p t=true->f (some t::rest)=some (F t,some t::rest))->acc.length+ts.length<=sizeLine ->
  ∃o',lcF (gN 0) c f ts acc (o::rest)=some (acc++(ts.filter p).map F,o'::rest)
 |[],acc,o,_,_,_=>⟨o,by simp[lcF]⟩
 |t::ts,acc,o,hc,hf,hl=>by
  have hl':acc.length+(ts.length+1)<=sizeLine:=hl;cases hp:p t with
  |true=>
   obtain⟨o',h⟩:=iB (c:=c) (f:=f) (p:=p) (F:=F) ts (acc++[F t]) (some t) (λx hx=>hc x (zaj _ hx)) (λx hx=>hf x (zaj _ hx)) (by rw[zae];show acc.length+1+_<=_;lia);refine⟨o',?_⟩;unfold lcF;show((c (some t::rest)).bind _)=_;rw[hc t zaq,hp];show((f (some t::rest)).bind _)=_;rw[hf t zaq hp];show(if acc.length<sizeLine then _ else _)=_;rw[if_pos (by lia)]
   dsimp only
   rw[h,zbt hp];simp
  |false=>
   obtain⟨o',h⟩:=iB (c:=c) (f:=f) (p:=p) (F:=F) ts acc (some t) (λx hx=>hc x (zaj _ hx)) (λx hx=>hf x (zaj _ hx)) (by lia);refine⟨o',?_⟩;unfold lcF;show((c (some t::rest)).bind _)=_;rw[hc t zaq,hp];show lcF (gN 0) c f ts acc (some t::rest)=_;rw[h,List.filter_cons_of_neg (by rw[hp];decide)]
def FP{F:D->D}{rest:En}(ts acc:List D)(o:Option D)(hf:∀t∈ts,f (some t::rest)=some (F t,some t::rest))(hl:acc.length+ts.length<=sizeLine):
  ∃o',lcF (gN 0) cY f ts acc (o::rest)=some (acc++ts.map F,o'::rest):=by
 obtain⟨o',h⟩:=iB (c:=cY) (f:=f) (p:=λ_=>true) (F:=F) ts acc o (λ_ _=>rfl) (λt ht _=>hf t ht) hl;rw[List.filter_eq_self.mpr (λ_ _=>rfl)]at h;exact⟨o',h⟩
end
section
variable{c:MT}{b:MS}{t t1 t2 u:D}{g:D->D->Option D}{i:Nat}{x y:Bool}{F:List D->Option (D×En)}{as:List (D ⊕ Nat)}{ψ:En} 
def oB:100<=sizeLine:=by rw[sizeLine_eq];decide
end
namespace Pen2
def dh:MS:=(aG (LO [((eC (.str "script")),(ac 0)),((eC (.str "at")),(ac 1)),((eC (.str "left")),(eC (.int 0)))]))
def F_law_pen:List D->Option (D×En):=fnF 0 [0,0] dh
end Pen2
end L2
namespace L2
variable{P:Program}{w:World}{K:zbU}{base:Heap}{k dr d d1 d2 j:Nat}{x:Str}{ps N:List Str}{dps ds ds1 ds2 ds':List Nat}{st:Stmt}{X:Cx}{p:Bool}{a b e:Expr}{es:List Expr}{f f1 f2:ME}{fa:MA}{sh:Sh}{pos px q:Pos}{J:Jd}
open PySem PySem.Spec PyProof.Rows
def KD(a b:Int):eqD (.int a) (.int b)=some (.bool (a==b)):=by
 show grd _ _=_;unfold grd;rw[if_pos ⟨rfl,rfl,zbj _⟩];simp only[peq]
structure Df(K:zbU)(x:Str)(st:Stmt)(f:Addr):Prop where
 a:PySem.W.nsIn K mainGlobals x=some (some (.ref f))
 l:∃oc od kV dc pm an cd ct sl,K.lookup f=some ⟨oc,od,.func (PySem.W.fnOf x x (bR st) (bu st) (am st) .none kV dc pm an cd ct),sl⟩/\PySem.W.codeIn K cd x=true
 k:PySem.W.keepIn K (.ref f)=true
section
variable{mg:Str->Option Value}{h:Heap}{f:Addr}{sp:Sp}
def Df.mk'{oc:Value}{od an:Option Addr}{sl:Array (Option Value)}{kV dc pm cd ct:Value}(a:PySem.W.nsIn K mainGlobals x=some (some (.ref f)))(l:K.lookup f=some ⟨oc,od,.func (PySem.W.fnOf x x (bR st) (bu st) (am st) .none kV dc pm an cd ct),sl⟩)(c:PySem.W.codeIn K cd x=true)(k:PySem.W.keepIn K (.ref f)=true):Df K x st f:=
 ⟨a,⟨oc,od,kV,dc,pm,an,cd,ct,sl,l,c⟩,k⟩
def Df.kn(d:Df K x st f)(X:K.In h)(G:h.Ns mainGlobals mg)(b:∀(kV doc pm:Value) (an:Option Addr) (cdv ct:Value) (us:List Value),us.length=ps.length->bindArgs (PySem.W.fnOf x x (bR st) (bu st) (am st) .none kV doc pm an cdv ct) ⟨us,[]⟩=pure (ps.zip us))
  (ok:∀fd,Fun K x x st f fd->FnOk P w K mg base CX0 k f fd ps sp):Kn P w K mg base k x ps sp:=by
 obtain⟨_,_,_,_,_,_,_,_,_,l,c⟩:=d.l;have F:=pb (st:=st) l c d.k;exact⟨_,_,ok _ F,PySem.W.mg_of X G d.a,d.k,F.binds b⟩
end
section
variable{F:List D->Option (D×En)}{g:List D->Option D}
abbrev vck(X:Cx)(x:Str)(i:Nat)(n:NameKind):Prop:=(X.N[i]?,X.env.scope.names.lookup x,x==("__debug__":Str),x==("__classdict__":Str))=(some x,some n,false,false)
def fv(i:Nat)(h:vck X x i .local:=by rfl)(h0:ds[i]?=some 0:=by rfl):QE X (.Name x pos) (tF K p ds ds 0 (ac i)):=by
 simp only[vck,za0]at h;exact bW h.1 (.inl h.2.1) h0 h.2.2.1 h.2.2.2
def fvc(i:Nat)(h:vck X x i .cell:=by rfl)(h0:ds[i]?=some 0:=by rfl):QE X (.Name x pos) (tF K p ds ds 0 (ac i)):=by
 simp only[vck,za0]at h;exact bW h.1 (.inr (.inl h.2.1)) h0 h.2.2.1 h.2.2.2
def fsl(i:Nat)(hr:QA X es (tFA K p ds ds2 sh fa))(h:vck X x i .local:=by rfl):QA X (.Name x pos::es) (tFA K p ds ds2 (.inr i::sh) (aY i fa)):=by
 simp only[vck,za0]at h;exact pk h.1 (.inl h.2.1) hr h.2.2.1 h.2.2.2
def kx(i:Nat)(hr:QA X es (tFA K p ds ds2 sh fa))(h:vck X x i .cell:=by rfl):QA X (.Name x pos::es) (tFA K p ds ds2 (.inr i::sh) (aY i fa)):=by
 simp only[vck,za0]at h;exact pk h.1 (.inr (.inl h.2.1)) hr h.2.2.1 h.2.2.2
def fs0(h:QE X e (tF K p ds ds' d f)):QE X e (tF K p ds ds' 0 f):=bz h (.zero _)
def frt(he:QE X e (tF K false ds ds1 J.dr f))(hd:leD J.dsr ds1=true:=by rfl):QSs X [.Return (some e) pos] (tFS K J ds ds' (aG f)):=au (zP he hd)
abbrev cck(X:Cx)(x:Str)(e:Expr)(es:List Expr):Prop:=(X.env.kindOf x,x==("__debug__":Str),aU e,es.all aU)=(some .globalImplicit,false,true,true)
def fnn(G:Kn X.prog X.w X.K X.mg X.base k x ps (spF K dps dr F))(hr:Room k X.A)(ha:QA X (e::es) (tFA K p ds ds1 sh fa))(h:cck X x e es:=by rfl)(h2:(e8 sh,cA ds1 sh dps)=(true,true):=by rfl):QE X (.Call (.Name x px) (e::es) [] pos) (tF K p ds ds1 dr (aw F fa)):=by
 simp only[cck,za0]at h h2;exact Gm G hr h.1 ha h2.1 h2.2 h.2.1 h.2.2.1 h.2.2.2
def fns(G:Kn X.prog X.w X.K X.mg X.base k x ps (spF K dps dr F))(hr:Room k X.A)(ha:QA X (e::es) (tFA K false ds ds1 sh fa))(h:cck X x e es:=by rfl)(h2:cA ds1 sh dps=true:=by rfl):QE X (.Call (.Name x px) (e::es) [] pos) (tF K false ds ds1 dr (aw F fa)):=by
 simp only[cck,za0]at h;exact BQ G hr h.1 ha h2 h.2.1 h.2.2.1 h.2.2.2
def fcb{id:String}(hc:CallR X (.builtin id) (rFn K g d))(hm:X.mg x=none)(hv:bootBuiltins x=some (.builtin id))(ha:QA X (e::es) (tFA K p ds ds1 sh fa))(h:cck X x e es:=by rfl)(h2:(bL 0 sh,x==("__name__":Str))=(true,false):=by rfl):QE X (.Call (.Name x px) (e::es) [] pos) (tF K p ds ds1 d (eN g fa)):=by
 simp only[cck,za0]at h h2;exact pj hc h.1 hm hv ha h2.1 (by simpa using h2.2) h.2.1 h.2.2.1 h.2.2.2
def fct{id:String}(hc:CallR X (.type id) (rFn K g d))(hm:X.mg x=none)(hv:bootBuiltins x=some (.type id))(ha:QA X (e::es) (tFA K p ds ds1 sh fa))(h:cck X x e es:=by rfl)(h2:(bL 0 sh,x==("__name__":Str))=(true,false):=by rfl):QE X (.Call (.Name x px) (e::es) [] pos) (tF K p ds ds1 d (eN g fa)):=by
 simp only[cck,za0]at h h2;exact vm hc h.1 hm hv ha h2.1 (by simpa using h2.2) h.2.1 h.2.2.1 h.2.2.2
def fln(hK:X.K=K)(hm:X.mg "len"=none)(ha:QA X (e::es) (tFA K p ds ds1 sh fa))(h:cck X "len" e es:=by rfl)(h2:bL 0 sh=true:=by rfl):QE X (.Call (.Name "len" px) (e::es) [] pos) (tF K p ds ds1 3 (eN be fa)):=by
 simp only[cck,za0]at h;exact pj (Kr hK) h.1 hm (by decide +kernel) ha h2 (by decide) h.2.1 h.2.2.1 h.2.2.2
def fte(hK:X.K=K)(hu:X.A.units+64<cLine)(ha:QE X a (tF K p ds ds1 d1 f1))(hb:QE X b (tF K p ds1 ds2 d2 f2)):QT X (.Compare a [.Eq] [b] pos) (tFT K p ds ds2 (tV (e2 eqD f1 f2))):=aJ (mE hK hu) ha hb (aV _)
def ftn(hK:X.K=K)(hu:X.A.units+64<cLine)(ha:QE X a (tF K p ds ds1 d1 f1))(hb:QE X b (tF K p ds1 ds2 d2 f2)):QT X (.Compare a [.NotEq] [b] pos) (tFT K p ds ds2 (tV (e2 neD f1 f2))):=aJ (Lu hK hu) ha hb (aV _)
def fxi{n:Int}(hK:X.K=K)(ha:QE X a (tF K p ds ds1 d1 f1)):QE X (.Subscript a (.Constant (.int n) j q) pos) (tF K p ds ds1 0 (e2 ixA f1 (eC (.int n)))):=bg (cL hK) ha ag λ_ _=>rfl
def ax(i:Nat)(ds':List Nat){pos':Pos}(hN:X.N.Nodup)(he:QE X e (tF K false ds ds1 d f))(h:(X.N[i]?,X.env.scope.names.lookup x,X.fn x)=(some x,some .local,true):=by rfl)(h2:(ds1.set i d,decide (i<ds1.length),J.lk.contains i)=(ds',true,false):=by rfl)(hs:swapsWith e (some (.Name x pos')) pos.line X.env=pure false:=by rfl):QS X (.Assign [.Name x pos'] e pos) (tFS K J ds ds' (av i f)):=by
 simp only[za0,decide_eq_true_eq]at h h2;exact fJ hN h.1 (.inl h.2.1) he h2.1 h2.2.1 (by simpa using h2.2.2) hs (.inl h.2.2)
def fsc{P:List Str}{sc:Scope}(a:sc.kind=.function:=by rfl)(b:sc.isCoroutine=false:=by rfl)(c:sc.isGenerator=false:=by rfl)(d:N.Nodup:=by decide +kernel)(e:N.take P.length=P:=by rfl)(f:∀x∈P,sc.names.lookup x=some .local\/sc.names.lookup x=some .cell:=by decide +kernel)(g:∀y∈sc.names,y.2≠.free:=by decide +kernel):FnScope N P sc:=⟨a,b,c,d,e,f,g⟩
def Fun.okR{mg:Str->Option Value}{q:Str}{fa:Addr}{fd:FuncData}{n:Nat}{b:MS}(F:Fun K x q st fa fd)(S:FnScope N ps (am st))(J:Jd)(ds0:List Nat)
  (hb:N.Nodup->∀(cdv:Value) (A:Around) (outer:List Env) (s:Shared) (H:Hp) (E:XK),Room k (A.deeper (envOfC q (am st) s.heap.objs.size fa cdv))->QSs (kG CX0 P w K mg base N q (am st) fa cdv A outer s H E).nox (bu st) (tFS K J ds0 ds0 b)) (hl:dps.length=ps.length:=by rfl) (hn:N.length-dps.length=n:=by rfl) (hJ:J=⟨qt dps,dps++List.replicate n 0,dr,[]⟩:=by rfl) (hd:ds0=dps++List.replicate n 0:=by rfl):FnOk P w K mg base CX0 (k+1) fa fd ps (spF K dps dr (fnF n dps b)):=F.okQ S hl hn hJ hd (hb S.nd)
def ndk(l:List Str)(h:l.Nodup:=by decide +kernel):l.Nodup:=h
def fgn(i:Nat)(ds':List Nat){lk:List Nat}(hN:X.N.Nodup)(hi:X.N[i]?=some x:=by rfl)(hx:Loc X.env.scope x:=by exact .inl rfl)(hds:ds.set i 0=ds':=by rfl)(hl:i<ds.length:=by decide)(hk:i∉lk:=by decide)(hf:X.fn x=true\/X.env.scope.names.lookup x=some .local:=by first|exact .inl rfl|exact .inr rfl):QG X (.Name x pos) (tFG K lk ds ds' (gN i)):=iD hN hi hx hds hl hk hf
def fac(ha:QE X e (tF K p ds ds1 d f))(hr:QA X es (tFA K p ds1 ds2 sh fa))(hs:aU e=true:=by rfl):QA X (e::es) (tFA K p ds ds2 (.inl d::sh) (ae f fa)):=xK ha hr hs
end
section
variable{μ ω:Pos} 
def fls(d c:Nat)(h:QA X es (tFA K p ds ds1 sh fa))(h1:(bL c sh,dn d,decide (d≠0))=(true,c,true):=by rfl):QE X (.List es pos) (tF K p ds ds1 d (bt fa)):=by
 simp only[za0,decide_eq_true_eq]at h1;exact BN h h1.1 h1.2.1 h1.2.2
def ftu(d c:Nat)(h:QA X es (tFA K p ds ds1 sh fa))(h1:(bL c sh,dn d)=(true,c):=by rfl):QE X (.Tuple es j pos) (tF K p ds ds1 d (eF fa)):=by
 simp only[za0]at h1;exact BL h h1.1 h1.2
abbrev cok(X:Cx)(e:Expr)(es:List Expr)(μ ω:Pos):Prop:=((((backTo ω (starEach (e::es) X.env)).all λx=>!x.1)&&(backToKw ω (keywordEach [] X.env)).all λx=>x.1.isSome)&&decide (((e::es).length+([]:List Keyword).length+if([]:List Keyword).isEmpty=true then 0 else 1)<30),μ.endLine==ω.line,(backTo ω (starEach es X.env)).any λx=>x.1)=(true,true,false)
def fjn{z:Str}(h:QA X (e::es) (tFA K p ds ds2 sh fa))(hK:X.K=K:=by rfl)(h0:bL 0 sh=true:=by rfl)(ha:attributeBase (.Constant (.str z) j q) "join" X.env (eval (.Constant (.str z) j q) X.env)=eval (.Constant (.str z) j q) X.env:=by rfl)(hc:cok X e es μ ω:=by rfl)(hs:starEach (e::es) X.env=(false,eval e X.env)::starEach es X.env:=by rfl):QE X (.Call (.Attribute (.Constant (.str z) j q) "join" μ) (e::es) [] ω) (tF K p ds ds2 3 (eM joinD (eC (.str z)) fa)):=by
 simp only[cok,za0]at hc;exact gZ hK PySem.F.slot_str_join PySem.F.type_str_join (FI hK) Gf ck h h0 ha hc.1 hc.2.1 hs hc.2.2
def fap{c:Nat}(i d:Nat)(he:QE X e (tF K false ds ds1 c f))(hK:X.K=K:=by rfl)(hx:Vis X.env.scope x:=by exact .inl rfl)(h1:(X.N[i]?,ds1[i]?,decide (d≠0),dn d,x==("__debug__":Str),x==("__classdict__":Str))=(some x,some d,true,c,false,false):=by rfl)(ha:attributeBase (.Name x px) "append" X.env (eval (.Name x px) X.env)=eval (.Name x px) X.env:=by rfl)(hc:cok X e [] μ ω:=by rfl)(hs:starEach [e] X.env=[(false,eval e X.env)]:=by rfl):QE X (.Call (.Attribute (.Name x px) "append" μ) [e] [] ω) (tF K false ds ds1 3 (gD i f)):=by
 simp only[cok,za0,decide_eq_true_eq]at hc h1;exact BR hK h1.1 hx h1.2.1 he h1.2.2.1 h1.2.2.2.1 h1.2.2.2.2.1 h1.2.2.2.2.2 ha hc.1 hc.2.1 hs hc.2.2
def fis{T:Str}{pt:Pos}(n:String)(hi:X.mg "isinstance"=none)(hT:X.mg T=none)(he:QE X e (tF K p ds ds1 d1 f))(hK:X.K=K:=by rfl)(g1:Gl X "isinstance":=by rfl)(g2:Gl X T:=by rfl)(hb:bootBuiltins T=some (.type n):=by decide +kernel)(hn:n∈["int","bool","str","list","tuple","dict"]:=by decide)(h1:T≠"__name__":=by decide)(h2:(T==("__debug__":Str))=false:=by rfl)(s1:starEach [e,.Name T pt] X.env=(false,eval e X.env)::starEach [.Name T pt] X.env:=by rfl)(s2:starEach [.Name T pt] X.env=(false,eval (.Name T pt) X.env)::starEach [] X.env:=by rfl)(s3:((backTo pos (starEach [.Name T pt] X.env)).any λx=>x.1)=false:=by rfl):QE X (.Call (.Name "isinstance" px) [e,.Name T pt] [] pos) (tF K p ds ds1 3 (e1 (iQ n) f)):=BP hK g1 hi g2 hT hb hn he h1 h2 s1 s2 s3
def flc{elt tg iter:Expr}{ifs:List Expr}{scope:Scope}{c1:MT}{fi:MI}{g:MG}(d:Nat)(dsi:List Nat)(ns:List Str)(js:List (Option Nat))(hi:QI X tg iter (tFI K p ds ds1 fi))(hg:∀C cl s₀ H₀ fp,QG (aC X scope ns C cl s₀ H₀ fp) tg (tFG K (fW js 0) dsi dsi g))(hc:∀C cl s₀ H₀ fp,QTs (aC X scope ns C cl s₀ H₀ fp) ifs (tFT K true dsi dsi c1))(he:∀C cl s₀ H₀ fp,QE (aC X scope ns C cl s₀ H₀ fp) elt (tF K true dsi dsi (dn d) f))(hb:qH X.N X.env.scope scope ns js=true:=by rfl)(h0:X.calm=true:=by rfl)(h1:(fA ds1 js dsi,decide (d≠0))=(true,true):=by rfl)(hf:∀x:Value,foldedSetIterable iter X.env x=pure x:=by exact λ_=>rfl):QE X (.ListComp elt [⟨tg,iter,ifs,0⟩] scope pos) (tF K p ds ds1 d (eLC true fi g c1 f js)):=by
 simp only[za0,decide_eq_true_eq]at h1;exact Gk (BlkOkC.of rfl rfl hb) h0 hi hg hc he h1.1 rfl h1.2 rfl hf
end
abbrev MX:=En->Option Unit
abbrev MN:=En->Option Str
end L2
namespace L2
open PySem PySem.Spec PyProof.Rows Builtin Builtin.ObjectAttr Builtin.Getset_descriptor
end L2
namespace L2
open PySem PySem.Spec PyProof.Rows
end L2
namespace L2
open PySem PySem.Spec PyProof.Rows Builtin
noncomputable def LY:List Int->Bool
 |[]=>true
 |x::r=>go x r true || go x r false
where go (x:Int):List Int->Bool->Bool
 |[],_=>true
 |y::r,true=>decide (x<=y)&&go y r true
 |y::r,false=>decide (y<x)&&go y r false
def EY(ns:List Int):Prop:=ns.length<64\/(LY ns=true/\ns.length<=5000)
instance (ns:List Int):Decidable (EY ns):=by unfold EY;exact inferInstance
end L2
namespace PySem
end PySem
namespace L2
open PySem PySem.Spec PyProof.Rows
end L2
namespace L2
open PySem PySem.Spec PyProof.Rows Builtin
end L2
namespace L2
open PySem PySem.Spec PyProof.Rows PySem.Calls
end L2
namespace L2
open PySem PySem.Spec PyProof.Rows
noncomputable def bs(val:Nat->Int):Nat->Int
 |0=>0
 |k+1=>if k=0\/val k>bs val k then val k else bs val k
end L2
namespace PySem
end PySem
namespace PySem
open PySem.SeqAt
end PySem
namespace L2
variable{H H':Hp}{ad ak:Addr->Prop}{kvs:NKs}{y v:V}{u:Value}{b a C dx:Addr}{P:Program}{w:World}{X:Cx}{ρ:List (Addr×Obj)}{σ:St}{s:Shared}{A:Around}{Q:Value->Shared->Prop}{k:List (KyN 3)}{o:Option Key}{e:Expr}{pos μ px:Pos}{K:zbU}{O:AS}{t:D}{c f m x:Str}{r:List (D×D)}{d i dr d1 d2 j:Nat}{p p1 p2 tab:Bool}{ds ds1 ds2 dps:List Nat}{fe:ME}{fa:MA}{sh:Sh}{E:XK}{Q':VK}{ps N:List Str}{es:List Expr}{J:Jd}{vs:List V}{base:Heap}{st:Stmt}
open PySem PySem.Spec PyProof.Rows
abbrev KNs:=List (List (KyN 3)×V)
abbrev KN(H:Hp)(ad:Addr->Prop):KNs->List (List (KyN 3)×Addr×Value)->Prop:=Paired λp q=>p.1=q.1/\KyT H ad p.1 q.2.1/\RelV p.2 q.2.2
section
variable{ad':Addr->Prop}{kvs:KNs}{xs:List (List (KyN 3)×Addr×Value)}
def KN.val(r:KN H ad kvs xs)(k:List (KyN 3)):RelO (di kvs k) ((atKey xs k).map (·.2)):=by
 induction r with
 |nil=>exact True.intro
 |@cons p q ps qs h t ih=>
  obtain⟨h1,_,h2⟩:=h;by_cases e:p.1=k
  .have e':q.1=k:=h1.symm.trans e;have b:atKey (q::qs) k=some q.2:=by simp[atKey,zbo,e']
   rw[iK e,b];exact h2
  .have e':¬q.1=k:=λz=>e (h1.trans z);have b:atKey (q::qs) k=atKey qs k:=by simp[atKey,zbo,e']
   rw[iL e,b];exact ih
def KN.repl(r:KN H ad kvs xs)(k:List (KyN 3))(ry:RelV y u):KN H ad (kvs.map λkv=>if kv.1=k then(kv.1,y)else kv) (xs.map (putAt k u)):=by
 induction r with
 |nil=>exact .nil
 |@cons p q ps qs h t ih=>
  rw[zar,zar];refine .cons ?_ ih;obtain⟨h1,h2,h3⟩:=h;unfold putAt;by_cases e:p.1=k
  .rw[if_pos e,if_pos (h1.symm.trans e)];exact⟨h1,h2,ry⟩
  .rw[if_neg e,if_neg (λz=>e (h1.trans z))];exact⟨h1,h2,h3⟩
def KN.mono(r:KN H ad kvs xs)(ha:∀b,ad b->ad' b)(ht:∀b ys,ad b->H b=some (.tup ys)->H' b=some (.tup ys)):KN H' ad' kvs xs:=
 Paired.mapP r λ_ _ z=>⟨z.1,z.2.1.mono ha ht,z.2.2⟩
def KN.put(r:KN H ad kvs xs)(k:List (KyN 3))(hb:KyT H ak k b)(ry:RelV y u):
  KN H (λx=>ad x\/ak x) (cc kvs k y) (storedH xs k b u):=by
 have e:(kvs.any λkv=>decide (kv.1=k))=(atKey xs k).isSome:=by
  rw[no,(r.val k).isSome_eq,Option.isSome_map]
 unfold cc storedH;rw[e];by_cases q:(atKey xs k).isSome=true
 .rw[if_pos q,if_pos q];exact KN.mono (r.repl k ry) (λ_=>.inl) λ_ _ _ z=>z
 .rw[if_neg q,if_neg q];exact Paired.snoc (KN.mono r (λ_=>.inl) λ_ _ _ z=>z) ⟨rfl,hb.mono (λ_=>.inr) λ_ _ _ z=>z,ry⟩
end
section
variable{h:Heap} 
theorem zh(ok:HOk P w H h):∀(n:Nat) {k:KyN n} {v:V} {u:Value},KyV H ad n k v->RelV v u->(jf n).is h k u
 |0,o,v,u,e,r=>by
  rw[show v=oV o from e]at r;exact(w8 (P:=P) (w:=w) r:(cC P w).is o u=true)
 |n+1,.inl o,v,u,e,r=>by
  rw[show v=oV o from e]at r;exact(w8 (P:=P) (w:=w) r:(cC P w).is o u=true)
 |n+1,.inr ks,v,u,e,r=>by
  obtain⟨b,vs,rfl,h1,_,h3⟩:=e;cases(show u=Value.ref b from r);obtain⟨_,its,rv,o,g1,g2,m,g3⟩:=(show ObjOk P w H h b (.tup vs)from ok b _ h1);refine⟨b,rfl,o,its.toArray,m,g1,g2,g3.1,?_⟩;have all:∀{l:List (KyN n)} {vs:List V} {us:List Value},Paired (KyV H ad n) l vs->Vals vs us->Paired ((jf n).is h) l us:=by
   intro l vs us p
   induction p generalizing us with
   |nil=>intro q;cases q;exact .nil
   |cons r t ih=>intro q;cases q with|cons r2 t2=>exact .cons (zh ok n r r2) (ih t2)
  exact all h3 rv
def mB{ks:List (KyN 3)}(ok:HOk P w H h)(e:KyT H ad ks a):(kh P w).is h ks a:=by
 obtain⟨vs,h1,h2,h3⟩:=e;obtain⟨c,e,z⟩:=zh (ad:=ad) (u:=.ref a) ok 4 (k:=(.inr ks:KyN 4)) (v:=.ref a) ⟨a,vs,rfl,h1,h2,h3⟩ rfl;cases e;exact z
def sy{kvs:KNs}(ok:HOk P w H h)(e:H a=some (.dN kvs ad)):kvs.length<=sizeLine/\(a==sysModules)=false/\∃xs,KN H ad kvs xs/\h.DictOfH (kh P w) a xs:=by
 obtain⟨z,y,xs,r,o,es,ep,h1,h2,h3,h4,h5⟩:=(show ObjOk P w H h a (.dN kvs ad)from ok a _ e);refine⟨z,y,xs,r,o,es,ep,h1,h2,h3,h4,λx hx=>?_,h5⟩;have all:∀{l:KNs} {m:List (List (KyN 3)×Addr×Value)},KN H ad l m->∀x∈m,(kh P w).is h x.1 x.2.1:=by
  intro l m q
  induction q with
  |nil=>intro x hx;exact nomatch hx
  |@cons p q ps qs hq t ih=>
   intro x hx;rcases zay.mp hx with e|hx
   .subst e;exact mB ok (by rw[<-hq.1];exact hq.2.1)
   .exact ih x hx
 exact all r x hx
end
def uM(H:Hp)(a:Addr)(y:V)(r:Option V):Prop:=∃kvs ad ak k b,H a=some (.dN kvs ad)/\y=.ref b/\KyT H ak k b/\r=di kvs k
section
variable{o:Option V}{r:Value}{E:Value->Shared->Prop}
def sZ(hu:A.units+8<cLine):A.in1.units+4<cLine:=by
 show A.units+1+4<_
 lia
def yZ(hu:A.units+8<cLine)(I:Inv X ρ σ H s)(g:uM H a y (some v))(ry:RelV y u)(h:∀w' s',Inv X ρ σ H s'->RelV v w'->Q w' s'):
  wpAny (model X.prog X.w) A (getItem (.ref a) u) Q E s:=by
 obtain⟨kvs,ad,ak,k,b,e,ey,eb,l⟩:=g;subst ey;cases(show u=Value.ref b from ry);obtain⟨z,hd,xs,rel,dd⟩:=sy I.hok e;obtain⟨w',hw,rw'⟩:=RelO.some_of (v:=v) (o:=(atKey xs k).map (·.2)) (by rw[l];exact rel.val k);obtain⟨p,hp,hp2⟩:=zab.mp hw;refine wpAny_getItem_heap (sZ hu) (mB I.hok eb) dd hp ?_;rw[hp2];exact h w' _ (I.tok _) rw'
def FH(hu:A.units+8<cLine)(I:Inv X ρ σ H s)(g:uM H a y o)(ry:RelV y u)(h:∀s',Inv X ρ σ H s'->Q (.bool (!o.isSome)) s'):
  wpAny (model X.prog X.w) A (compareOp .NotIn u (.ref a)) Q E s:=by
 obtain⟨kvs,ad,ak,k,b,e,ey,eb,l⟩:=g;subst ey;cases(show u=Value.ref b from ry);obtain⟨z,hd,xs,rel,dd⟩:=sy I.hok e;refine wpAny_notIn_heap (sZ hu) (mB I.hok eb) hd dd ?_;have q:=(rel.val k).isSome_eq;rw[Option.isSome_map]at q;rw[<-q,<-l];exact h _ (I.tok _)
def yY{kvs:KNs}{Q:Unit->Shared->Prop}(hu:A.units+8<cLine)(I:Inv X ρ σ H s)(e:H a=some (.dN kvs ad))(eb:KyT H ak k b)(l:kvs.length<sizeLine)(rv:RelV v r)
  (h:∀s',Inv X ρ σ (upd H a (.dN (cc kvs k v) λx=>ad x\/ak x)) s'->Q () s'):wpAny (model X.prog X.w) A (setItem (.ref a) (.ref b) r) Q E s:=by
 obtain⟨z,hd,xs,rel,dd⟩:=sy I.hok e;have hz:xs.length<=sizeLine:=by rw[<-Paired.length rel];exact z
 have hl:(cc kvs k v).length<=sizeLine:=by have:=jz kvs k v;lia
 refine wpAny_setItem_heap (hsz:=hz) (sZ hu) (mB I.hok eb) dd λh' dd' hs=>h _ ?_;obtain⟨q,es,ep,hq,h2,h3,h4,_,h5⟩:=dd';refine qB I (by rw[e];exact True.intro) hs ⟨q,hq⟩ ⟨hl,hd,_,(rel.put k eb rv).mono (λ_ z=>z) λc ys _ ec=>?_,q,es,ep,hq,h2,h3,h4,h5⟩;rw[az (xf ec e (λz=>nomatch z))];exact ec
def A3(I:Inv X ρ σ H s)(g:uM H a y o):s.TypeIs (.ref a) "dict":=by
 obtain⟨kvs,ad,ak,k,b,e,_⟩:=g;obtain⟨_,_,xs,_,dd⟩:=sy I.hok e;exact dd.typeIs
end
noncomputable def Ek(td ty:TE):TE:=λσ H Q=>td σ H λx H1=>ty σ H1 λy H2=>∃a v,x=.ref a/\uM H2 a y (some v)/\Q v H2
noncomputable def Ei(ty td:TE):TE:=λσ H Q=>ty σ H λy H1=>td σ H1 λx H2=>∃a o,x=.ref a/\uM H2 a y o/\Q (.bl (!o.isSome)) H2
def Er(td ty tv:TE):TS:=λD σ H=>tv σ H λv H1=>td σ H1 λx H2=>ty σ H2 λy H3=>∃a b kvs ad ak k,x=.ref a/\y=.ref b/\H3 a=some (.dN kvs ad)/\KyT H3 ak k b/\kvs.length<sizeLine/\D.nx σ (upd H3 a (.dN (cc kvs k v) λx=>ad x\/ak x))
def Ej:TE:=λ_ H Q=>∀p,H p=none->Q (.ref p) (upd H p (.dN [] λ_=>False))
section
variable{o i value:Expr}{pos':Pos}{td ty tv:TE}
def Fu(hu:X.A.units+8<cLine)(ho:PE X o td)(hi:PE X i ty)(hs:Cb i):PE X (.Subscript o i pos) (Ek td ty):=by
 intro ρ s σ H Q I h;refine E5 PySem.F.slot_dict_getitem.lookup hs (thn (ho ρ s σ H _ I h) λu s1 ⟨x,H1,I1,rx,q1⟩=>thn (hi ρ s1 σ H1 _ I1 q1) λiv s2 ⟨y,H2,I2,ry,a,v,ex,g,q2⟩=>?_);subst ex;obtain rfl:u=Value.ref a:=rx;exact⟨A3 I2 g,yZ hu I2 g ry λw' s3 I3 rw'=>⟨v,H2,I3,rw',q2⟩⟩
def Fz(hu:X.A.units+8<cLine)(hi:PE X i ty)(ho:PE X o td):PC X .NotIn i o (Ei ty td):=by
 intro ρ s σ H Q I h;refine thn (hi ρ s σ H _ I h) λiv s1 ⟨y,H1,I1,ry,q1⟩=>thn (ho ρ s1 σ H1 _ I1 q1) λu s2 ⟨x,H2,I2,rx,a,ov,ex,g,q2⟩=>?_;subst ex;obtain rfl:u=Value.ref a:=rx;exact FH hu I2 g ry λs3 I3=>⟨.bl (!ov.isSome),H2,I3,rfl,q2⟩
def Fj(hu:X.A.units+8<cLine)(ho:PE X o td)(hi:PE X i ty)(hv:PE X value tv)(hs:swapsWith value (some (.Subscript o i pos')) pos.line X.env=pure false):
  PS X (.Assign [.Subscript o i pos'] value pos) (Er td ty tv):=by
 intro ρ s σ H D I h;refine wpAny_Assign_Subscript (thn (hv ρ s σ H _ I h) λr s1 ⟨v,H1,I1,rv,q1⟩=>thn (ho ρ s1 σ H1 _ I1 q1) λu s2 ⟨x,H2,I2,rx,q2⟩=>thn (hi ρ s2 σ H2 _ I2 q2) λiv s3 ⟨y,H3,I3,ry,a,b,kvs,ad,ak,k,ex,ey,e,eb,l,q3⟩=>?_) hs;subst ex ey;obtain rfl:u=Value.ref a:=rx;cases(show iv=Value.ref b from ry);exact yY hu I3 e eb l rv λs4 I4=>⟨σ,_,I4,q3⟩
def BV(h:Heap)(hb:sysModules<h.objs.size):ObjOk P w H (h.push { cls:=.type "dict",data:=.dict #[] }) h.objs.size (.dN [] λ_=>False):=
 ⟨zbj _,zbM.mpr (Ne.symm (zaw hb)),[],.nil,_,#[],0,zan _ rfl,⟨rfl,rfl,rfl⟩,rfl,rfl,List.nodup_nil⟩
def AX:PE X (.Dict [] [] pos) Ej:=λρ s σ H Q I h=>
 wpAny_Dict_empty ⟨.ref s.heap.objs.size,_,I.laid (a:=s.heap.objs.size) (o:=.dN [] λ_=>False) (t':=s.toks) (λ_ _ q=>zaf _ q) (zav _) (BV s.heap I.big),rfl,h _ (I.hok.fresh (zav _))⟩
end
noncomputable def Lo(m:Str):D->Bool
 |.tuple [.str f]=>f==m
 |_=>false
def lookF(m:Str):List (D×D)->Option D
 |[]=>none
 | (k,t)::r=>if Lo m k=true then some t else lookF m r
noncomputable def ua:D->Option (Str×List (D×D))
 |.dict ((.none,.list (.str c::_))::r)=>some (c,r)
 |_=>none
def fh(c m:Str)(t:D):Bool:=match ua t with
 |some (c',r)=>c'==c&&(m != ("known":Str)&&(lookF m r).isNone)
 |none=>false
def lI(c f:Str)(t:D):Option D:=match ua t with
 |some (c',r)=>if c'==c&&f != ("known":Str)then lookF f r else none
 |none=>none
theorem Owi.lookF{m:Str}:∀{r:List (D×D)} {fs:List (Str×V)},Owi K O H r fs->(L2.lookF m r=none/\fs.lookup m=none)\/∃t v,L2.lookF m r=some t/\fs.lookup m=some v/\Ow K O H t 0 v NoA
 |[],fs,h=>by
  cases(show fs=[]from h);exact .inl ⟨rfl,rfl⟩
 | (k,t)::r,fs,h=>by
  rcases h with⟨h1,h2⟩|⟨f,v,r',e,e2,x,y⟩
  .subst h1;exact Owi.lookF (r:=r) h2
  .subst e e2;by_cases hm:f=m
   .subst hm;refine .inr ⟨t,v,?_,?_,x⟩
    .show(if(f==f)=true then some t else _)=_;rw[if_pos (beq_self_eq_true f)]
    .rw[zas,beq_self_eq_true f]
   .have e1:L2.lookF m ((.tuple [.str f],t)::r)=L2.lookF m r:=if_neg (by show ¬(f==m)=true;rw[beq_iff_eq];exact hm);have e2:List.lookup m ((f,v)::r')=List.lookup m r':=by
     have:(m==f)=false:=zbM.mpr λz=>hm z.symm;rw[zas,this]
    rw[e1,e2];exact Owi.lookF y
def FU(h:ua t=some (c,r)):∃m,t=.dict ((.none,.list (.str c::m))::r):=by
 unfold ua at h;split at h
 .cases h;exact⟨_,rfl⟩
 .cases h
def Ow.ins{t:D}{c:Str}{r:List (D×D)}{d:Nat}{v:V}{F:AS}(h:ua t=some (c,r))(o:Ow K O H t d v F):∃a C dx fs tb m,v=.ref a/\t=.dict ((.none,.list (.str c::m))::r)/\PySem.W.nsIn K mainGlobals c=some (some (.ref C))/\H a=some (.ins C dx (fs++tb))/\¬O a/\Owi K O H r fs/\TabZ H O m tb d F:=by
 obtain⟨m,rfl⟩:=FU h;obtain⟨a,vs,e,⟨_,_,_,z⟩|⟨_,_,_,_,_,z⟩|⟨_,⟨⟨_,_,_,z,_⟩,_⟩|⟨_,_,z,_⟩|⟨z,_⟩⟩|⟨_,_,_,_,_,z,_⟩|⟨c',C,dx,fs,tb,m',r',i0,i1,i2,i3,i4,i5⟩⟩:=o
 .obtain⟨q,_,_,_,_,_,e2,_⟩:=z;cases q<;>cases e2
 .obtain⟨q,_,_,_,_,_,e2,_⟩:=z;cases q<;>cases e2
 .cases z
 .cases z
 .cases z
 .cases z
 .cases i0;rcases i4 with⟨_,h2⟩|⟨f,v,r2,e,e2,_⟩
  .exact⟨a,C,dx,fs,tb,m,e,rfl,i1,i2,i3,h2,i5⟩
  .cases e2
def AE{tb:List (Str×V)}{m:List D}{F:AS}(h:TabZ H O m tb d F)(hf:(f != ("known":Str))=true):tb.lookup f=none:=by
 rcases h with⟨_,e,_⟩|⟨k,_,_,_,e,_⟩
 .rw[e];rfl
 .have:(f==("known":Str))=false:=by simpa[bne]using hf
  rw[e,zas,this];rfl
def ub{F:AS}(hC:PySem.W.nsIn K mainGlobals c=some (some (.ref C)))(h:fh c m t=true)(o:Ow K O H t d v F):∃a dx fs,v=.ref a/\H a=some (.ins C dx fs)/\fs.lookup m=none:=by
 unfold fh at h;split at h
 .next c' r hp=>
  simp only[zbm,beq_iff_eq]at h;obtain⟨rfl,h2,h3⟩:=h;obtain⟨a,C',dx,fs,tb,mm,e,_,h0,h1,_,oi,tz⟩:=o.ins hp;rw[hC]at h0;cases h0;refine⟨a,dx,fs++tb,e,h1,?_⟩;rw[List.lookup_append,AE tz h2];rcases oi.lookF (m:=m)with⟨_,g⟩|⟨t,v,g,_⟩
  .rw[g];rfl
  .rw[g]at h3;cases h3
 .cases h
def Gg{u:D}{F:AS}(hC:PySem.W.nsIn K mainGlobals c=some (some (.ref C)))(h:lI c f t=some u)(o:Ow K O H t d v F):∃a dx fs w,v=.ref a/\H a=some (.ins C dx fs)/\fs.lookup f=some w/\Ow K O H u 0 w NoA:=by
 unfold lI at h;split at h
 .next c' r hp=>
  split at h
  .next hc=>
   simp only[zbm,beq_iff_eq]at hc;obtain⟨rfl,h2⟩:=hc;obtain⟨a,C',dx,fs,tb,mm,e,_,h0,h1,_,oi,tz⟩:=o.ins hp;rw[hC]at h0;cases h0;rcases oi.lookF (m:=f)with⟨g,_⟩|⟨t,w,g,g2,g3⟩
   .rw[g]at h;cases h
   .rw[h]at g;cases g;exact⟨a,dx,fs++tb,w,e,h1,by rw[List.lookup_append,g2];rfl,g3⟩
  .cases h
 .cases h
def b9(i:Nat)(c f:Str):ME:=λen=>(en[i]?).join.bind λt=>(lI c f t).map λu=>(u,en)
section
variable{Q:VK}{F:List D->Option (D×En)}
def Kz(hC:PySem.W.nsIn K mainGlobals c=some (some (.ref C)))(hc:Cls K C)(hn:NoAttr K C f)(h:tF K p ds ds 0 (b9 i c f) σ H Q):qb K (cV i) f σ H Q:=by
 obtain⟨Ox,en,R,t,en',e,hf,k⟩:=h;unfold b9 at hf;obtain⟨t0,h1,hf⟩:=zaa.mp hf;obtain⟨u,h2,hf⟩:=zab.mp hf;cases hf;obtain⟨v,d,g1,g2,g3⟩:=e.at_ i _ (aO h1);obtain⟨a,dx,fs,w,rfl,q1,q2,q3⟩:=Gg hC h2 g3;refine⟨.ref a,g1,a,C,dx,fs,w,rfl,q1,hc,hn,q2,k w H R NoA (Post.refl e) (by rw[fC];exact q3)⟩
def bZ(c m:Str)(t:D):Option D:=if fh c m t=true then some t else none
def LK(hC:PySem.W.nsIn K mainGlobals c=some (some (.ref C)))(h:tF K p ds ds1 d (e1 (bZ c m) fe) σ H Q):tF K p ds ds1 d fe σ H λx H1=>∃a dx fs,x=.ref a/\H1 a=some (.ins C dx fs)/\fs.lookup m=none/\Q x H1:=by
 obtain⟨Ox,en,R,t,en',e,hf,k⟩:=h;unfold e1 at hf;obtain⟨⟨t1,en1⟩,h1,hf⟩:=zaa.mp hf;obtain⟨t',h3,hf⟩:=zab.mp hf;cases hf;unfold bZ at h3;split at h3
 case isFalse=>cases h3
 next hk=>
 cases h3;refine⟨Ox,en,R,t1,en1,e,h1,λv H' R' F' P o=>?_⟩;obtain⟨a,dx,fs,e1,e2,e3⟩:=ub hC hk o;exact⟨a,dx,fs,e1,e2,e3,k v H' R' F' P o⟩
def zY(hC:PySem.W.nsIn K mainGlobals c=some (some (.ref C)))(hc:cA ds2 (.inl d::sh) dps=true)(h:tF K ((p1&&p2)&&e8 (.inl d::sh)) ds ds2 dr (aw F (ae (e1 (bZ c m) fe) fa)) σ H Q):
  si C m (spF K dps dr F) [] E (tF K p1 ds ds1 d fe) (tFA K p2 ds1 ds2 sh fa) σ H Q:=by
 have h2:=mF (ds1:=ds1) (p1:=p1) (p2:=p2) (xL (E:=E) (sh:=.inl d::sh) hc h);obtain⟨Ox,en,R,t,en',e,hf,k⟩:=LK hC h2;refine⟨Ox,en,R,t,en',e,hf,λv H' R' F' P o=>?_⟩;obtain⟨a,dx,fs,q1,q2,q3,q4⟩:=k v H' R' F' P o;exact⟨a,dx,fs,q1,q2,q3,q4⟩
def eG(i:Nat)(c m:Str)(F:List D->Option (D×En))(fa:MA):ME:=λen=>if((en[i]?).join.elim false (fh c m))=true then aw F (aY i fa) en else none
def wj(hC:PySem.W.nsIn K mainGlobals c=some (some (.ref C)))(hc:cA ds2 (.inr i::sh) dps=true)(h:tF K (p&&e8 (.inr i::sh)) ds ds2 dr (eG i c m F fa) σ H Q):
  si C m (spF K dps dr F) [] E (cV i) (tFA K p ds ds2 sh fa) σ H Q:=by
 obtain⟨Ox,en,R,t,en',e,hf,k⟩:=h;unfold eG at hf;split at hf
 case isFalse=>cases hf
 next hk=>
 have h2:=wg (xL (E:=E) (sh:=.inr i::sh) hc ⟨Ox,en,R,t,en',e,hf,k⟩);obtain⟨v,g1,g2⟩:=h2;cases ht:(en[i]?).join with
 |none=>rw[ht]at hk;cases hk
 |some t0=>
  rw[ht]at hk;obtain⟨v',d,a1,a2,a3⟩:=e.at_ i _ (aO ht);rw[g1]at a1;cases a1;obtain⟨a,dx,fs,q1,q2,q3⟩:=ub hC hk a3;exact⟨v,g1,a,dx,fs,q1,q2,q3,g2⟩
end
def KnM(P:Program)(w:World)(K:zbU)(mg:Str->Option Value)(base:Heap)(k:Nat)(c m:Str)(ps:List Str)(sp:Sp):Prop:=
 ∃C f fd,PySem.W.nsIn K mainGlobals c=some (some (.ref C))/\Cls K C/\Meth K C m f/\FnOk P w K mg base CX0 k f fd ps sp/\Binds K fd ps []
def KnM.mono{P:Program}{w:World}{K:zbU}{mg:Str->Option Value}{base:Heap}{j k:Nat}{c m:Str}{ps:List Str}{sp:Sp}(h:KnM P w K mg base j c m ps sp)(hj:j<=k):KnM P w K mg base k c m ps sp:=by
 obtain⟨C,f,fd,h1,h2,h3,h4,h5⟩:=h;exact⟨C,f,fd,h1,h2,h3,h4.mono hj,h5⟩
def AtC(K:zbU)(c f:Str):Prop:=∃C,PySem.W.nsIn K mainGlobals c=some (some (.ref C))/\Cls K C/\NoAttr K C f
def sC(o:Expr)(m:Str)(μ:Pos)(es:List Expr)(pos:Pos)(env:Env):Prop:=∃pl:Sem Bool,eval (.Call (.Attribute o m μ) es [] pos) env=(do
 let ov <-eval o env
 standAt μ.atName
 let (f,first) <-holding [ov] (getMethod ov m pl)
 callWith pos f first (backTo pos (starEach es env)) (backToKw pos (keywordEach [] env)))
def E4{f:ME}{Q:VK}(h:tF K p ds ds1 d f σ H Q)(k:∀v H',Q v H'->Q' v H'):tF K p ds ds1 d f σ H Q':=by
 obtain⟨Ox,en,R,t,en',e,hf,kk⟩:=h;exact⟨Ox,en,R,t,en',e,hf,λv H' R' F P o=>k v H' (kk v H' R' F P o)⟩
section
variable{k:Nat}{F:List D->Option (D×En)}{o:Expr} 
def bo(hK:X.K=K)(hA:AtC K c f)(hN:X.N[i]?=some x)(hv:Vis X.env.scope x)(hb:attributeBase (.Name x px) f X.env (eval (.Name x px) X.env)=eval (.Name x px) X.env)(hdb:(x==("__debug__":Str))=false)(hcd:(x==("__classdict__":Str))=false):
  QE X (.Attribute (.Name x px) f pos) (tF K p ds ds 0 (b9 i c f)):=by
 subst hK;obtain⟨C,h1,h2,h3⟩:=hA;exact⟨(yN (cg hN hv hdb hcd) hb).imp λ_ _ _ h=>Kz h1 h2 h3 h⟩
def hG(G:KnM X.prog X.w X.K X.mg X.base k c m ps (spF X.K dps dr F))(hr:Room k X.A)(he:QE X o (tF X.K p1 ds ds1 d fe))(ha:QA X (e::es) (tFA X.K p2 ds1 ds2 sh fa))(hc:cA ds2 (.inl d::sh) dps=true)(ht:sC o m μ (e::es) pos X.env)(hs:aU e=true)(hpl:es.all aU=true):
  QE X (.Call (.Attribute o m μ) (e::es) [] pos) (tF X.K false ds ds2 dr (aw F (ae (e1 (bZ c m) fe) fa))):=by
 obtain⟨C,f,fd,h1,h2,h3,h4,h5⟩:=G;obtain⟨pl,ht⟩:=ht;exact⟨(vN (pl:=pl) he.h h2 h3 h4 hr h5 .nil my ha.h (bn hs) (dY hpl) ht).imp λ_ _ _ h=>zY h1 hc (gS (p':=false) (λz=>nomatch z) h)⟩
def fU(G:KnM X.prog X.w X.K X.mg X.base k c m ps (spF X.K dps dr F))(hr:Room k X.A)(he:QE X o (tF X.K p1 ds ds1 d fe))(hc:cA ds1 [.inl d] dps=true)(ht:sC o m μ [] pos X.env):
  QE X (.Call (.Attribute o m μ) [] [] pos) (tF X.K false ds ds1 dr (aw F (ae (e1 (bZ c m) fe) ai))):=by
 obtain⟨C,f,fd,h1,h2,h3,h4,h5⟩:=G;obtain⟨pl,ht⟩:=ht;refine⟨(tm (pl:=pl) he.h h2 h3 h4 hr h5 .nil my ht).imp λσ H Q h=>?_⟩
 have:=zY (p1:=p1) (p2:=true) (ds1:=ds1) (sh:=[]) (E:=E0) h1 hc (gS (p':=false) (λz=>nomatch z) h);exact E4 this λx H1 ⟨a,dx,fs,q1,q2,q3,q4⟩=>⟨a,dx,fs,q1,q2,q3,pq q4⟩
def b8(G:KnM X.prog X.w X.K X.mg X.base k c m ps (spF X.K dps dr F))(hr:Room k X.A)(hN:X.N[i]?=some x)(hv:Vis X.env.scope x)(ha:QA X (e::es) (tFA X.K false ds ds2 sh fa))(hc:cA ds2 (.inr i::sh) dps=true)(ht:sC (.Name x px) m μ (e::es) pos X.env)(hs:aU e=true)(hpl:es.all aU=true)
  (hdb:(x==("__debug__":Str))=false) (hcd:(x==("__classdict__":Str))=false):QE X (.Call (.Attribute (.Name x px) m μ) (e::es) [] pos) (tF X.K false ds ds2 dr (eG i c m F fa)):=by
 obtain⟨C,f,fd,h1,h2,h3,h4,h5⟩:=G;obtain⟨pl,ht⟩:=ht;exact⟨(vN (pl:=pl) (cg hN hv hdb hcd) h2 h3 h4 hr h5 .nil my ha.h (bn hs) (dY hpl) ht).imp λ_ _ _ h=>wj h1 hc h⟩
def mY(G:KnM X.prog X.w X.K X.mg X.base k c m ps (spF X.K dps dr F))(hr:Room k X.A)(hN:X.N[i]?=some x)(hv:Vis X.env.scope x)(hc:cA ds [.inr i] dps=true)(ht:sC (.Name x px) m μ [] pos X.env)
  (hdb:(x==("__debug__":Str))=false) (hcd:(x==("__classdict__":Str))=false):QE X (.Call (.Attribute (.Name x px) m μ) [] [] pos) (tF X.K false ds ds dr (eG i c m F ai)):=by
 obtain⟨C,f,fd,h1,h2,h3,h4,h5⟩:=G;obtain⟨pl,ht⟩:=ht;refine⟨(tm (pl:=pl) (cg hN hv hdb hcd) h2 h3 h4 hr h5 .nil my ht).imp λσ H Q h=>?_⟩;obtain⟨v,g1,a,dx,fs,q1,q2,q3,q4⟩:=wj (p:=true) (sh:=[]) (E:=E0) h1 hc (gS (p':=false) (λz=>nomatch z) h);exact⟨v,g1,a,dx,fs,q1,q2,q3,pq q4⟩
end
noncomputable def fQ{α:Type}(f:D->Option α):List D->Option (List α)
 |[]=>some []
 |t::ts=>(f t).bind λk=>(fQ f ts).map (k::·)
def fu:(n:Nat)->D->Option (KyN n)
 |0,t=>oOf t
 |n+1,t=>match t with
  |.tuple ts=>(fQ (fu n) ts).map Sum.inr
  |t=>(oOf t).map Sum.inl
def eX(t:D):Option (List (KyN 3)):=match t with
 |.tuple ts=>fQ (fu 3) ts
 |_=>none
def xc:List (D×D)->Option NKs
 |[]=>some []
 | (k,t)::r=>(eX k).bind λk=>if bO t=true then(xc r).map ((k,t)::·)else none
def xb:List (D×D)->Option NKs
 | (.none,.bool true)::r=>xc r
 |_=>none
def dR(kvs:NKs)(k:List (KyN 3)):Option D:=(kvs.find? λq=>decide (q.1=k)).map (·.2)
def cR(kvs:NKs)(k:List (KyN 3))(t:D):NKs:=if(kvs.any λq=>decide (q.1=k))=true then kvs.map (λq=>if q.1=k then(q.1,t)else q)else kvs++[(k,t)]
def vR:oOf (oD o)=some o:=by rcases o with _ | (_|_)<;>rfl
theorem tT:∀(n:Nat) (k:KyN n),fu n (kyD n k)=some k
 |0,o=>vR
 |n+1,.inl o=>by
  show(match oD o with|.tuple ts=>(fQ (fu n) ts).map Sum.inr|t=>(oOf t).map Sum.inl)=some (Sum.inl o);have e:(oOf (oD o)).map (Sum.inl (β:=List (KyN n)))=some (Sum.inl o):=by rw[vR];rfl
  rcases o with _ | (_|_)<;>exact e
 |n+1,.inr ks=>by
  show(fQ (fu n) (ks.map (kyD n))).map Sum.inr=_
  have:∀l:List (KyN n),fQ (fu n) (l.map (kyD n))=some l:=by
   intro l
   induction l with
   |nil=>rfl
   |cons a l ih=>
    show(fu n (kyD n a)).bind (λk=>(fQ (fu n) (l.map (kyD n))).map (k::·))=_;rw[tT n a,ih];rfl
  rw[this];rfl
def zn(k:List (KyN 3)):eX (.tuple (k.map (kyD 3)))=some k:=by
 show fQ (fu 3) (k.map (kyD 3))=some k
 induction k with
 |nil=>rfl
 |cons a l ih=>
  show(fu 3 (kyD 3 a)).bind (λk=>(fQ (fu 3) (l.map (kyD 3))).map (k::·))=_;rw[tT 3 a,ih];rfl
theorem yW:∀kvs:NKs,(kvs.all λq=>bO q.2)=true->xc (kvs.map nkD)=some kvs
 |[],_=>rfl
 | (k,t)::r,h=>by
  rw[List.all_cons,zbm]at h;show(eX (.tuple (k.map (kyD 3)))).bind (λk=>if bO t=true then(xc (r.map nkD)).map ((k,t)::·)else none)=_;rw[zn k,yW r h.2];exact if_pos h.1
def tJ(hs:(kvs.all λq=>bO q.2)=true):xb (nkL kvs)=some kvs:=yW kvs hs
def adO(O:AS)(H:Hp):Addr->Prop:=λb=>¬O b/\∃vs,H b=some (.tup vs)
def EA{F:AS}(h:oOf t=some o)(w:Ow K O H t d v F):v=oV o:=by
 rcases JK h with⟨rfl,rfl⟩|⟨q,h1,rfl⟩
 .exact w
 .exact oK h1 w
theorem xr{n:Nat}(ih:∀{t:D} {k:KyN n} {v:V},fu n t=some k->Ow K O H t 0 v NoA->KyV H (adO O H) n k v):∀{ts:List D} {ks:List (KyN n)} {vs:List V} {F:AS},fQ (fu n) ts=some ks->Ows K O H ts 0 vs F->Paired (KyV H (adO O H) n) ks vs
 |[],_,_,_,h,w=>by
  cases h;cases(show _=[]from w);exact .nil
 |t::ts,_,_,_,h,w=>by
  obtain⟨k,h1,h⟩:=zaa.mp h;obtain⟨kk,h2,rfl⟩:=zab.mp h;obtain⟨v,r,F1,F2,rfl,_,_,_,o1,o2⟩:=w;exact .cons (ih h1 (Ow.any0 _ o1)) (xr ih h2 o2)
theorem JU:∀(n:Nat) {t:D} {k:KyN n} {v:V},fu n t=some k->Ow K O H t 0 v NoA->KyV H (adO O H) n k v
 |0,t,k,v,h,w=>EA (show oOf t=some k from h) w
 |n+1,t,k,v,h,w=>by
  have sc:∀t:D,(oOf t).map (Sum.inl (β:=List (KyN n)))=some k->Ow K O H t 0 v NoA->KyV H (adO O H) (n+1) k v:=λt h w=>by
   obtain⟨o,h1,rfl⟩:=zab.mp h;exact EA h1 w
  cases t with
  |tuple ts=>
   obtain⟨ks,h1,rfl⟩:=zab.mp (show(fQ (fu n) ts).map Sum.inr=some k from h);obtain⟨a,vs,e,fz,ow⟩:=w.tup0;exact⟨a,vs,e,fz.1,⟨fz.2,vs,fz.1⟩,xr (λh w=>JU n h w) h1 ow⟩
  |none=>exact sc .none h w
  |bool b=>exact sc (.bool b) h w
  |int i=>exact sc (.int i) h w
  |str x=>exact sc (.str x) h w
  |list l=>exact sc (.list l) h w
  |dict l=>exact sc (.dict l) h w
def Bb(h:eX t=some k)(w:Ow K O H t 0 v NoA):∃b,v=.ref b/\KyT H (adO O H) k b:=by
 unfold eX at h;split at h
 .next ts=>
  obtain⟨a,vs,e,fz,ow⟩:=w.tup0;exact⟨a,e,vs,fz.1,⟨fz.2,vs,fz.1⟩,xr (λh w=>JU 3 h w) h ow⟩
 .cases h
theorem sH(k:List (KyN 3)):∀kvs:NKs,di (kvs.map nkV) k=(dR kvs k).map dV
 |[]=>rfl
 |q::r=>by
  have ih:=sH k r;unfold di dR at ih ⊢;rw[zar,zbo,zbo];by_cases e:q.1=k
  .have e1:decide ((nkV q).1=k)=true:=zaB e;have e2:decide (q.1=k)=true:=zaB e;rw[e1,e2];rfl
  .have e1:decide ((nkV q).1=k)=false:=zaA e;have e2:decide (q.1=k)=false:=zaA e;rw[e1,e2];exact ih
def Ff(kvs:NKs)(k:List (KyN 3))(t:D):(cR kvs k t).map nkV=cc (kvs.map nkV) k (dV t):=by
 have e:((kvs.map nkV).any λq=>decide (q.1=k))=kvs.any λq=>decide (q.1=k):=by
  rw[List.any_map];rfl
 unfold cR cc;rw[e];by_cases c:(kvs.any λq=>decide (q.1=k))=true
 .rw[if_pos c,if_pos c,zaQ,zaQ];apply zbv;intro q _;show nkV (if q.1=k then(q.1,t)else q)=if q.1=k then(q.1,dV t)else nkV q
  split<;>rfl
 .rw[if_neg c,if_neg c,zaC];rfl
def qW(h:(kvs.all λq=>bO q.2)=true)(ht:bO t=true):((cR kvs k t).all λq=>bO q.2)=true:=by
 unfold cR;by_cases c:(kvs.any λq=>decide (q.1=k))=true
 .rw[if_pos c,List.all_map,List.all_eq_true];intro q hq;show bO (if q.1=k then(q.1,t)else q).2=true;split
  .exact ht
  .exact List.all_eq_true.mp h q hq
 .rw[if_neg c,List.all_append,h];show(bO t&&true)=true;rw[ht];rfl
def yX(h:(kvs.all λq=>bO q.2)=true)(e:dR kvs k=some t):bO t=true:=by
 unfold dR at e;obtain⟨q,h1,rfl⟩:=zab.mp e;exact List.all_eq_true.mp h q (List.mem_of_find?_eq_some h1)
def JH{F:AS}(h:bO t=true):Ow K O H t d (dV t) F:=by
 cases t<;>first|rfl|cases h
def cU(c:Str):D->Option (NKs×List (D×D))
 |.dict ((.none,.list [.str c',.dict rows])::r)=>if(c'==c&&(lookF ("known":Str) r).isNone)=true then(xb rows).map λkvs=>(kvs,r)else none
 |_=>none
def nq(c:Str)(kvs:NKs)(r:List (D×D)):D:=.dict ((.none,.list [.str c,.dict (nkL kvs)])::r)
def jN{F:AS}(hC:PySem.W.nsIn K mainGlobals c=some (some (.ref C)))(h:cU c t=some (kvs,r))(o:Ow K O H t 5 v F)(hO:∀b,F b->O b):
  ∃a dx fs b ad,v=.ref a/\H a=some (.ins C dx fs)/\fs.lookup ("known":Str)=some (.ref b)/\H b=some (.dN (kvs.map nkV) ad)/\F b/\(∀x,ad x->adO O H x)/\((kvs.all λq=>bO q.2)=true) /\
   ∀(O':AS) (H':Hp) (F':AS) (kvs':NKs) (ad':Addr->Prop),(∀x,O' x->O x)->(∀x y,H x=some y->x≠b->H' x=some y)->H' b=some (.dN (kvs'.map nkV) ad')->F' b->((kvs'.all λq=>bO q.2)=true)->(∀x,ad' x->adO O' H' x)->Ow K O' H' (nq c kvs' r) 5 v F':=by
 unfold cU at h;split at h
 case h_2=>cases h
 next c' rows r'=>
 split at h
 case isFalse=>cases h
 next hc=>
 obtain⟨kv2,h1,h2⟩:=zab.mp h;cases h2;rw[zbm,beq_iff_eq]at hc;obtain⟨rfl,hnk⟩:=hc;obtain⟨a,C',dx,fs,tb,m,e,e2,h0,h3,h4,oi,tz⟩:=o.ins (c:=c') (r:=r) rfl;rw[hC]at h0;cases h0;rcases tz with⟨z,_⟩|⟨b,kv3,ad,m1,t1,s1,g1,g2,g3⟩
 .subst z;cases e2
 .subst m1 t1;injection e2 with e2
  injection e2 with e2 _
  injection e2 with _ e2
  injection e2 with e2
  injection e2 with _ e2
  injection e2 with e2 _
  injection e2 with e2
  rw[e2,tJ s1]at h1;cases h1;rcases g3 with⟨_,hF⟩|⟨z,_⟩
  case inr=>cases z
  have lk:(fs++[(("known":Str),V.ref b)]).lookup ("known":Str)=some (.ref b):=by
   rw[List.lookup_append];rcases oi.lookF (m:=("known":Str))with⟨_,g⟩|⟨t,w,g,_⟩
   .rw[g];rfl
   .rw[g]at hnk;cases hnk
  refine⟨a,dx,fs++[(("known":Str),V.ref b)],b,ad,e,h3,lk,g1,hF,g2,s1,λO' H' F' kvs' ad' ho hk hb hF' hs had=>?_⟩;have kk:∀x y,H x=some y->¬O x->H' x=some y:=λx y h n=>hk x y h λe=>n (e▸hO b hF);have oi':Owi K O' H' r fs:=Owi.mv (G:=NoA) ⟨λx y h z=>kk x y h (z.elim id λz=>z.elim),λx z=>.inl (ho x z)⟩ r oi;exact⟨a,[],e,.inr (.inr (.inr (.inr ⟨c',C,dx,fs,[(("known":Str),V.ref b)],[.dict (nkL kvs')],r,rfl,hC,kk _ _ h3 h4,λz=>h4 (ho _ z),.skip rfl oi',.inr ⟨b,kvs',ad',rfl,rfl,hs,hb,had,.inl ⟨rfl,hF'⟩⟩⟩)))⟩
def ux(i:Nat)(c:Str)(fk:ME):ME:=λen=>(fk en).bind λq=>(eX q.1).bind λk=>((q.2[i]?).join.bind (cU c)).map λz=>(.bool (!(dR z.1 k).isSome),q.2)
def uy(i:Nat)(c:Str)(fk:ME):ME:=λen=>((en[i]?).join.bind (cU c)).bind λ_=>(fk en).bind λq=>(eX q.1).bind λk=>((q.2[i]?).join.bind (cU c)).bind λz=>(dR z.1 k).map λt=>(t,q.2)
def sU(i:Nat)(c:Str)(fk fe:ME):MS:=λen=>(fe en).bind λr=>((r.2[i]?).join.bind (cU c)).bind λ_=>(fk r.2).bind λq=>(eX q.1).bind λk=>((q.2[i]?).join.bind (cU c)).bind λz=>
 if z.1.length<sizeLine/\bO r.1=true then some (.nx (q.2.set i (some (nq c (cR z.1 k r.1) z.2))))else none
section
variable{Q:VK}{fk:ME}{Dn:Ends}
def LA(hC:PySem.W.nsIn K mainGlobals c=some (some (.ref C)))(hc:Cls K C)(hn:NoAttr K C "known")(hd:ds1[i]?=some 5)(h:tF K p ds ds1 3 (ux i c fk) σ H Q):Ei (tF K p ds ds1 0 fk) (qb K (cV i) "known") σ H Q:=by
 obtain⟨Ox,en,R,t,en',e,hf,k⟩:=h;unfold ux at hf;obtain⟨⟨tk,en1⟩,h1,hf⟩:=zaa.mp hf;obtain⟨kk,h2,hf⟩:=zaa.mp hf;obtain⟨⟨kvs,r⟩,h3,hf⟩:=zab.mp hf;cases hf;obtain⟨t0,h0,h3⟩:=zaa.mp h3;refine⟨Ox,en,R,tk,en1,e,h1,λy H1 R1 F1 P o1=>?_⟩;obtain⟨v,d,a1,a2,a3⟩:=P.env.at_ i t0 (aO h0);rw[hd]at a2;cases a2;obtain⟨a,dx,fs,b,ad,rfl,q1,q2,q3,_⟩:=jN hC h3 a3 λb z=>.inl ⟨i,z⟩;obtain⟨bk,rfl,kt⟩:=Bb h2 (Ow.any0 _ o1);refine⟨.ref a,a1,a,C,dx,fs,.ref b,rfl,q1,hc,hn,q2,b,_,rfl,⟨_,_,_,kk,bk,q3,rfl,kt,rfl⟩,?_⟩;rw[sH,Option.isSome_map];exact k _ H1 R1 NoA (P.less λ_ z=>z.elim) rfl
def vz{Ox:AS}{en en1:En}{R R1:Nat->AS}{H1:Hp}{F1:AS}{z0 z:NKs×List (D×D)}(hC:PySem.W.nsIn K mainGlobals c=some (some (.ref C)))(hd:ds[i]?=some 5)(e:EnvOk K ds Ox H σ en R)(P:Post K true ds Ox σ H en R en1 H1 R1 F1)
  (g0:(en[i]?).join.bind (cU c)=some z0) (g1:(en1[i]?).join.bind (cU c)=some z):∃a dx fs b,σ[i]?=some (some (.ref a))/\H a=some (.ins C dx fs)/\fs.lookup ("known":Str)=some (.ref b)/\∃ad,H1 b=some (.dN (z.1.map nkV) ad)/\R1 i b/\(∀x,ad x->adO (Own R1 (U F1 Ox)) H1 x)/\((z.1.all λq=>bO q.2)=true) /\
   ∀(O':AS) (H':Hp) (F':AS) (kvs':NKs) (ad':Addr->Prop),(∀x,O' x->Own R1 (U F1 Ox) x)->(∀x y,H1 x=some y->x≠b->H' x=some y)->H' b=some (.dN (kvs'.map nkV) ad')->F' b->((kvs'.all λq=>bO q.2)=true)->(∀x,ad' x->adO O' H' x)->Ow K O' H' (nq c kvs' z.2) 5 (.ref a) F':=by
 obtain⟨t0,h0,g0⟩:=zaa.mp g0;obtain⟨t1,h1,g1⟩:=zaa.mp g1;obtain⟨v,d,a1,a2,a3⟩:=e.at_ i t0 (aO h0);rw[hd]at a2;cases a2;obtain⟨a,dx,fs,b,ad,rfl,q1,q2,q3,_⟩:=jN hC g0 a3 λb z=>.inl ⟨i,z⟩;obtain⟨v',d',b1,b2,b3⟩:=P.env.at_ i t1 (aO h1);rw[a1]at b1;cases b1;rw[hd]at b2;cases b2;obtain⟨a',dx',fs',b',ad',e',r1,r2,r3,r4,r5,r6,r7⟩:=jN hC g1 b3 λb z=>.inl ⟨i,z⟩;cases e'
 have:=(P.pure rfl).2.2 _ _ q1;rw[r1]at this;cases this;rw[q2]at r2;cases r2;exact⟨a,dx,fs,b,a1,q1,q2,ad',r3,r4,r5,r6,r7⟩
def LB(hC:PySem.W.nsIn K mainGlobals c=some (some (.ref C)))(hc:Cls K C)(hn:NoAttr K C "known")(hd:ds[i]?=some 5)(h:tF K true ds ds 3 (uy i c fk) σ H Q):Ek (qb K (cV i) "known") (tF K true ds ds 0 fk) σ H Q:=by
 obtain⟨Ox,en,R,t,en',e,hf,k⟩:=h;unfold uy at hf;obtain⟨z0,g0,hf⟩:=zaa.mp hf;obtain⟨⟨tk,en1⟩,h1,hf⟩:=zaa.mp hf;obtain⟨kk,h2,hf⟩:=zaa.mp hf;obtain⟨z,h3,hf⟩:=zaa.mp hf;obtain⟨u,h4,hf⟩:=zab.mp hf;cases hf;obtain⟨t0,h0,g0'⟩:=zaa.mp g0;obtain⟨v,d,a1,a2,a3⟩:=e.at_ i t0 (aO h0);rw[hd]at a2;cases a2;obtain⟨a,dx,fs,b,ad,rfl,q1,q2,q3,_⟩:=jN hC g0' a3 λb z=>.inl ⟨i,z⟩;refine⟨.ref a,a1,a,C,dx,fs,.ref b,rfl,q1,hc,hn,q2,Ox,en,R,tk,en1,e,h1,λy H1 R1 F1 P o1=>?_⟩;obtain⟨a',dx',fs',b',c1,c2,c3,ad',c4,_,_,c5,_⟩:=vz hC hd e P g0 h3;rw[a1]at c1;cases c1;rw[q1]at c2;cases c2;rw[q2]at c3;cases c3;obtain⟨bk,rfl,kt⟩:=Bb h2 (Ow.any0 _ o1);refine⟨b,dV t,rfl,⟨_,_,_,kk,bk,c4,rfl,kt,?_⟩,?_⟩
 .rw[sH,h4];rfl
 .exact k _ H1 R1 NoA (P.less λ_ z=>z.elim) (JH (yX c5 h4))
def Ki(hC:PySem.W.nsIn K mainGlobals c=some (some (.ref C)))(hc:Cls K C)(hn:NoAttr K C "known")(hd:ds1[i]?=some 5)(h:tFS K J ds ds1 (sU i c fk fe) Dn σ H):Er (qb K (cV i) "known") (tF K true ds1 ds1 0 fk) (tF K false ds ds1 0 fe) Dn σ H:=by
 obtain⟨Ox,en,R,fl,e,hf,k⟩:=h;unfold sU at hf;obtain⟨⟨t1,en1⟩,h1,hf⟩:=zaa.mp hf;obtain⟨z0,g0,hf⟩:=zaa.mp hf;obtain⟨⟨tk,en2⟩,h2,hf⟩:=zaa.mp hf;obtain⟨kk,h3,hf⟩:=zaa.mp hf;obtain⟨z,h4,hf⟩:=zaa.mp hf;by_cases ξ:z.1.length<sizeLine/\bO t1=true
 case neg=>rw[if_neg ξ]at hf;cases hf
 rw[if_pos ξ]at hf;cases hf;refine⟨Ox,en,R,t1,en1,e,h1,λx H1 R1 F1 P1 o1=>?_⟩;obtain⟨t0,h0,g0'⟩:=zaa.mp g0;obtain⟨v,d,a1,a2,a3⟩:=P1.env.at_ i t0 (aO h0);rw[hd]at a2;cases a2;obtain⟨a,dx,fs,b,ad,rfl,q1,q2,q3,_⟩:=jN hC g0' a3 λb z=>.inl ⟨i,z⟩;refine⟨.ref a,a1,a,C,dx,fs,.ref b,rfl,q1,hc,hn,q2,U F1 Ox,en1,R1,tk,en2,P1.env,h2,λy H2 R2 F2 P2 o2=>?_⟩;obtain⟨a',dx',fs',b',c1,c2,c3,ad',c4,c6,c7,c5,c8⟩:=vz hC hd P1.env P2 g0 h4;rw[a1]at c1;cases c1;rw[q1]at c2;cases c2;rw[q2]at c3;cases c3;have P:=P1.trans P2;obtain⟨bk,rfl,kt⟩:=Bb h3 (Ow.any0 _ o2);have ex:=JG ξ.2 o1;subst ex;refine⟨b,bk,_,_,_,kk,rfl,rfl,c4,kt,by rw[zad];exact ξ.1,?_⟩;obtain⟨tt,ht,_⟩:=zaa.mp h4;have hi:i<en2.length:=(zah.mp (aO ht)).1;have PS:=P.slot (G:=λa=>R2 i a) (F':=NoA) (o2:=.dN (cc (z.1.map nkV) kk (dV t1)) λx=>ad' x\/adO (Own R2 (U F2 (U F1 Ox))) H2 x) (t:=nq c (cR z.1 kk t1) z.2) c6 hi a1 hd (λ_ z=>.inl z) (λ_ z=>z.elim) (λ_ _ z=>z) ?_
 .exact k σ _ _ PS.s
 have sub:∀x,Own (λj=>if j=i then λa=>R2 i a else R2 j) (U NoA Ox) x->Own R2 (U F2 (U F1 Ox)) x:=λx y=>by
  rcases y with⟨j,y⟩|y|y
  .by_cases hj:j=i
   .rw[if_pos hj]at y;exact .inl ⟨i,y⟩
   .rw[if_neg hj]at y;exact .inl ⟨j,y⟩
  .exact y.elim
  .exact .inr (.inr (.inr y))
 refine c8 _ _ _ (cR z.1 kk t1) _ sub (λx y h hx=>by rw[az hx];exact h) (by rw[Ff];exact aF) c6 (qW c5 ξ.2) λx hx=>?_;have hx':adO (Own R2 (U F2 (U F1 Ox))) H2 x:=hx.elim (c7 x) id;obtain⟨n,us,hu⟩:=hx';exact⟨λy=>n (sub x y),us,by rw[az (xf hu c4 (λz=>nomatch z))];exact hu⟩
end
def hu8{k:Nat}(hr:Room k A):A.units+8<cLine:=Nat.lt_of_le_of_lt (Nat.add_le_add_left (by decide:8<=64) _) hr.units
section
variable{k:Nat}{fk:ME}{a:Expr}{ζ:Pos}
def nJ(hc:Cls X.K C)(hn:NoAttr X.K C "known")(hN:X.N[i]?=some x)(hv:Vis X.env.scope x)(hb:attributeBase (.Name x px) "known" X.env (eval (.Name x px) X.env)=eval (.Name x px) X.env)(hdb:(x==("__debug__":Str))=false)(hcd:(x==("__classdict__":Str))=false):PE X (.Attribute (.Name x px) "known" μ) (qb X.K (cV i) "known"):=yN (cg hN hv hdb hcd) hb
def BF(hK:X.K=K)(hA:AtC K c "known")(hu:X.A.units+8<cLine)(hN:X.N[i]?=some x)(hv:Vis X.env.scope x)(ha:QE X a (tF K p ds ds1 0 fk))(hd:ds1[i]?=some 5)(hb:attributeBase (.Name x px) "known" X.env (eval (.Name x px) X.env)=eval (.Name x px) X.env)(hdb:(x==("__debug__":Str))=false)(hcd:(x==("__classdict__":Str))=false)(h1:behindInMarks .NotIn (.Attribute (.Name x px) "known" μ)=false):
  QT X (.Compare a [.NotIn] [.Attribute (.Name x px) "known" μ] pos) (tFT K p ds ds1 (tV (ux i c fk))):=by
 subst hK;obtain⟨C,g1,g2,g3⟩:=hA;exact⟨(yE ((Fz hu ha.h (nJ g2 g3 hN hv hb hdb hcd)).imp λ_ _ _=>LA g1 g2 g3 hd) h1).imp λ_ _ _=>pd⟩
def BM(hK:X.K=K)(hA:AtC K c "known")(hu:X.A.units+8<cLine)(hN:X.N[i]?=some x)(hv:Vis X.env.scope x)(ha:QE X a (tF K true ds ds 0 fk))(hd:ds[i]?=some 5)(hs:Cb a)(hb:attributeBase (.Name x px) "known" X.env (eval (.Name x px) X.env)=eval (.Name x px) X.env)(hdb:(x==("__debug__":Str))=false)(hcd:(x==("__classdict__":Str))=false):
  QE X (.Subscript (.Attribute (.Name x px) "known" μ) a pos) (tF K p ds ds 3 (uy i c fk)):=by
 subst hK;obtain⟨C,g1,g2,g3⟩:=hA;exact⟨(Fu hu (nJ g2 g3 hN hv hb hdb hcd) ha.h hs).imp λ_ _ _ h=>LB g1 g2 g3 hd (gS (λ_=>rfl) h)⟩
def zM(hK:X.K=K)(hA:AtC K c "known")(hu:X.A.units+8<cLine)(hN:X.N[i]?=some x)(hv:Vis X.env.scope x)(he:QE X e (tF K false ds ds1 0 fe))(ha:QE X a (tF K true ds1 ds1 0 fk))(hd:ds1[i]?=some 5)(hb:attributeBase (.Name x px) "known" X.env (eval (.Name x px) X.env)=eval (.Name x px) X.env)(hdb:(x==("__debug__":Str))=false)(hcd:(x==("__classdict__":Str))=false)(hs:swapsWith e (some (.Subscript (.Attribute (.Name x px) "known" μ) a ζ)) pos.line X.env=pure false):
  QS X (.Assign [.Subscript (.Attribute (.Name x px) "known" μ) a ζ] e pos) (tFS K J ds ds1 (sU i c fk fe)):=by
 subst hK;obtain⟨C,g1,g2,g3⟩:=hA;exact⟨(Fj hu (nJ g2 g3 hN hv hb hdb hcd) ha.h he.h hs).imp λ_ _ _=>Ki g1 g2 g3 hd⟩
end
noncomputable def IX(tab:Bool)(k:Addr):List (Str×V):=if tab then[(("known":Str),V.ref k)]else[]
def km(K:zbU)(c:Str)(fns:List Str)(tab:Bool):Sp:=λvs H Q _=>∃x C dx us,vs=.ref x::us/\us.length=fns.length/\PySem.W.nsIn K mainGlobals c=some (some (.ref C))/\H x=some (.ins C dx []) /\
 ∀(H':Hp) (k:Addr),(tab=true->H k=none/\H' k=some (.dN [] λ_=>False))->H' x=some (.ins C dx (fns.zip us++IX tab k))->(∀b,b≠x->(tab=true->b≠k)->H' b=H b)->Q .non H'
def wH(K:zbU):List (Nat×Str)->TS->TS
 |[],t=>t
 | (j,f)::r,t=>p8 (wR K (cV 0) (cV j) f) (wH K r t)
def qa(K:zbU)(l:List (Nat×Str))(tab:Bool):TS:=wH K l (if tab then wR K (cV 0) Ej "known" else sg)
theorem nC{f:Str}{v:V}:∀{fs:List (Str×V)},f∉fs.map (·.1)->ef f v fs=fs++[(f,v)]
 |[],_=>rfl
 | (g,x)::r,h=>by
  have hg:¬g=f:=λe=>h (by rw[e];exact zaq ..);show(if g=f then _ else _)=_;rw[if_neg hg,nC λz=>h (zaj _ z)];rfl
section
variable{x:Addr}{D:Ends}
theorem sX(hc:Cls K C)(h0:σ[0]?=some (some (.ref x))):∀{l:List (Nat×Str)} {us:List V} {t:TS} {H:Hp} {fs:List (Str×V)},(∀q∈l,NoAttr K C q.2)->l.length=us.length->(∀(n:Nat) q v,l[n]?=some q->us[n]?=some v->σ[q.1]?=some (some v))->(fs.map (·.1)++l.map (·.2)).Nodup->fs.length+l.length<1000 ->
  H x=some (.ins C dx fs)->(∀H':Hp,H' x=some (.ins C dx (fs++(l.map (·.2)).zip us))->(∀b,b≠x->H' b=H b)->t D σ H')->wH K l t D σ H
 |[],us,t,H,fs,_,hl,_,_,_,hx,k=>by
  cases us with
  |nil=>exact k H (by rw[zaZ,List.zip_nil_left,zbr];exact hx) λ_ _=>rfl
  |cons _ _=>cases hl
 | (j,f)::l,us,t,H,fs,hn,hl,hs,nd,le,hx,k=>by
  cases us with
  |nil=>cases hl
  |cons v us=>
   have nf:f∉fs.map (·.1):=λz=>(zbd.mp nd).2.2 f z f (by simp) rfl;have hv:=hs 0 _ v rfl rfl;refine⟨v,hv,.ref x,h0,x,C,dx,fs,rfl,hx,hc,hn (j,f) (zaq ..),by lia,?_⟩;rw[nC nf];refine sX hc h0 (fs:=fs++[(f,v)]) (us:=us) (λq hq=>hn q (zaj _ hq)) (Nat.succ.inj hl) (λn q w h1 h2=>hs (n+1) q w h1 h2) ?_ (by rw[zae];simp at le ⊢;lia) aF λH' g1 g2=>k H' ?_ λb hb=>?_
   .rw[zaC,zaD];exact nd
   .rw[g1,zaD];rfl
   .rw[g2 b hb,az hb]
end
noncomputable def qx:Nat->List Str->List (Nat×Str)
 |_,[]=>[]
 |n,f::r=>(n,f)::qx (n+1) r
theorem lC:∀{fns:List Str} {n:Nat},(qx n fns).map (·.2)=fns
 |[],_=>rfl
 |f::r,n=>by
  show f::(qx (n+1) r).map (·.2)=_;rw[lC]
def uc{fns:List Str}{n:Nat}:(qx n fns).length=fns.length:=by
 have:=congrArg List.length (lC (fns:=fns) (n:=n))
 rwa[zad]at this
theorem ud:∀{fns:List Str} {n j:Nat} {q:Nat×Str},(qx n fns)[j]?=some q->q.1=n+j
 |[],_,_,_,h=>by cases h
 |f::r,n,0,q,h=>by cases h;rfl
 |f::r,n,j+1,q,h=>by rw[ud (fns:=r) h];lia
def lf(h:vs[i]?=some v):(dm N vs)[i]?=some (some v):=by
 have hi:i<vs.length:=by
  rcases Nat.lt_or_ge i vs.length with z|z
  .exact z
  .rw[zbl z]at h;cases h
 unfold dm;rw[zaR (by rw[zad];exact hi),zao,h];rfl
def zB{mg:Str->Option Value}{qual:Str}{f:Addr}{fd:FuncData}{k:Nat}{fns:List Str} 
  (F:Fun K x qual st f fd) (S:FnScope N ps (am st)) (hC:PySem.W.nsIn K mainGlobals c=some (some (.ref C))) (hc:Cls K C) (hn:∀g∈fns,NoAttr K C g) (hk:NoAttr K C "known") (nd:(fns++[("known":Str)]).Nodup) (hf:fns.length<900) (hp:ps.length=fns.length+1)
  (hb:∀(cdv:Value) (A:Around) (outer:List Env) (s:Shared) (H:Hp) (E:XK),Room k (A.deeper (envOfC qual (am st) s.heap.objs.size f cdv)) ->
   PSs (kG CX0 P w K mg base N qual (am st) f cdv A outer s H E).nox (bu st) (qa K (qx 1 fns) tab)):FnOk P w K mg base CX0 (k+1) f fd ps (km K c fns tab):=by
 refine F.ok S (λvs H Q E ⟨x,C',dx,us,e,hl,_⟩=>by rw[e,zac,hl,hp]) λcdv A outer s H vs Q E hr h=>⟨_,hb cdv A outer s H E hr,?_⟩;obtain⟨x,C',dx,us,rfl,hl,h0,hx,kk⟩:=h;rw[hC]at h0;cases h0;have nd1:=zbd.mp nd;refine sX (fs:=[]) (us:=us) hc (lf rfl) (λq hq=>hn _ (by have:=List.mem_map_of_mem (f:=(·.2)) hq;rwa[lC]at this)) (by rw[uc,hl]) (λn q v h1 h2=>?_) (by rw[lC];exact nd1.1) (by rw[uc];show 0+_<_;lia) hx λH' g1 g2=>?_
 .rw[ud h1,Nat.add_comm];exact lf h2
 .rw[lC,List.nil_append]at g1;cases tab with
  |false=>exact kk H' 0 (λz=>nomatch z) (by rw[g1];show _=some (HO.ins _ _ (_++[]));rw[zbr]) λb hb _=>g2 b hb
  |true=>
   intro p hp';have hpx:x≠p:=λz=>by subst z;rw[g1]at hp';cases hp'
   have hfz:(fns.zip us).map (·.1)=fns:=List.map_fst_zip (by lia);refine⟨.ref x,lf rfl,x,C,dx,fns.zip us,rfl,by rw[az hpx];exact g1,hc,hk,by rw[List.length_zip];lia,?_⟩;rw[nC (by rw[hfz];exact λz=>nd1.2.2 _ z _ (zaG.mpr rfl) rfl)];refine kk _ p (λ_=>⟨by rw[<-g2 p (Ne.symm hpx)];exact hp',by rw[az (Ne.symm hpx)];exact aF⟩) aF λb h1 h2=>?_;rw[az h1,az (h2 rfl),g2 b h1]
def L3(c:Str)(fns:List Str)(tab:Bool)(ts:List D):D:=.dict ((.none,.list (.str c::if tab then[.dict (nkL [])]else[]))::(fns.zip ts).map λq=>(.tuple [.str q.1],q.2))
def kg(c:Str)(fns:List Str)(tab:Bool)(ts:List D):Option D:=if ts.length=fns.length then some (L3 c fns tab ts)else none
noncomputable def A2(tab:Bool):Nat:=if tab then 5 else 0
theorem vP:∀{fns:List Str} {ts:List D} {vs:List V},Ows K O H ts 0 vs NoA->Owi K O H ((fns.zip ts).map λq=>(.tuple [.str q.1],q.2)) (fns.zip vs)
 |[],ts,vs,h=>rfl
 |f::fns,[],vs,h=>by rw[show vs=[]from h];rfl
 |f::fns,t::ts,vs,h=>by
  obtain⟨v,r,F1,F2,e,h1,h2,_,h4,h5⟩:=h;subst e;refine .mk f v (fns.zip r) rfl rfl (h4.any0 t) (vP (Ows.any0 ts h5))
def FM{fns:List Str}{Q:VK}(hC:PySem.W.nsIn K mainGlobals c=some (some (.ref C)))(h:rFn K (kg c fns tab) (A2 tab) vs H Q){x:Addr}(hx:H x=none)(hdx:H dx=none)(hne:dx≠x):
  km K c fns tab (.ref x::(vs++[])) (upd (upd H dx (.own x)) x (.ins C dx [])) (λv H2=>v=.non/\Q (.ref x) H2) E:=by
 obtain⟨O,ts,t,oa,hd,hg,k⟩:=h;unfold kg at hg;split at hg
 case isFalse=>cases hg
 next hl=>
 cases hg;rw[zbr];have hv:vs.length=fns.length:=by rw[<-hl];exact oa.len
 refine⟨x,C,dx,vs,rfl,hv,hC,aF,λH' kk h1 h2 h3=>⟨rfl,k (.ref x) H' (λb=>tab=true/\b=kk) ?_ ?_⟩⟩
 all_goals
  have hkk:tab=true->kk≠x/\kk≠dx/\H kk=none:=λz=>by
   have:=(h1 z).1;have n1:kk≠x:=λe=>by rw[e,aF]at this;cases this
   rw[az n1]at this;have n2:kk≠dx:=λe=>by rw[e,aF]at this;cases this
   rw[az n2]at this;exact⟨n1,n2,this⟩
  have old:∀a o,H a=some o->H' a=some o:=λa o q=>by
   have n1:a≠x:=λe=>by rw[e,hx]at q;cases q
   have n2:a≠dx:=λe=>by rw[e,hdx]at q;cases q
   rw[h3 a n1 (λz e=>by rw[e,(hkk z).2.2]at q;cases q),az n1,az n2];exact q
 .exact⟨old,λa ⟨z,e⟩=>by subst e;exact⟨(hkk z).2.2,_,(h1 z).2⟩⟩
 .have hno:¬U (λb=>tab=true/\b=kk) O x:=λz=>by
   rcases z with⟨z,e⟩|z
   .exact(hkk z).1 e.symm
   .obtain⟨o,q⟩:=hd x z;rw[hx]at q;cases q
  have om:Ows K (U (λb=>tab=true/\b=kk) O) H' ts 0 vs NoA:=Ows.mv (G:=NoA) ⟨λa o q _=>old a o q,λa z=>by
   rcases z with⟨z,e⟩|z
   .exact .inr (by rw[e];exact(hkk z).2.2)
   .exact .inl z⟩ ts (λ_ z=>z) oa
  refine⟨x,[],rfl,.inr (.inr (.inr (.inr ⟨c,C,dx,fns.zip vs,IX tab kk,_,_,rfl,hC,h2,hno,.skip rfl (vP om),?_⟩)))⟩;cases tab with
  |false=>exact .inl ⟨rfl,rfl,rfl⟩
  |true=>exact .inr ⟨kk,[],λ_=>False,rfl,rfl,rfl,(h1 rfl).2,λ_ z=>z.elim,.inl ⟨rfl,rfl,rfl⟩⟩
section
variable{Q:VK}{fns:List Str}   
def Ky(hC:PySem.W.nsIn K mainGlobals c=some (some (.ref C)))(hs:bL 0 sh=true)(h:tF K p ds ds1 (A2 tab) (eN (kg c fns tab) fa) σ H Q):El C (km K c fns tab) [] E (tFA K p ds ds1 sh fa) σ H Q:=by
 obtain⟨Ox,en,R,as,en1,e,h1,kk⟩:=ur hs h;exact⟨Ox,en,R,as,en1,e,h1,λvs H1 R1 F P o x dx hx hdx hne=>FM hC (kk vs H1 R1 F P o) hx hdx hne⟩
def KnC(P:Program)(w:World)(K:zbU)(mg:Str->Option Value)(base:Heap)(k:Nat)(c:Str)(fns:List Str)(tab:Bool):Prop:=
 ∃C f fd ps j,j+1<=k/\PySem.W.nsIn K mainGlobals c=some (some (.ref C))/\mg c=some (.ref C)/\Mk K C f/\FnOk P w K mg base CX0 j f fd ps (km K c fns tab)/\Binds K fd ps []
def KnC.mono{mg:Str->Option Value}{k:Nat}(h:KnC P w K mg base j c fns tab)(hj:j<=k):KnC P w K mg base k c fns tab:=by
 obtain⟨C,f,fd,ps,i,h0,h⟩:=h;exact⟨C,f,fd,ps,i,zau h0 hj,h⟩
def rg{k:Nat}(G:KnC X.prog X.w X.K X.mg X.base k c fns tab)(hr:Room k X.A)(hg:Gl X c)(ha:QA X (e::es) (tFA X.K p ds ds1 sh fa))(hsh:bL 0 sh=true)(hdb:(c==("__debug__":Str))=false)(he:aU e=true)(hpl:es.all aU=true)(hd:A2 tab=d):
  QE X (.Call (.Name c px) (e::es) [] pos) (tF X.K p ds ds1 d (eN (kg c fns tab) fa)):=by
 subst hd;obtain⟨C,f,fd,ps,j,h0,h1,h2,h3,h4,h5⟩:=G;exact⟨(Fv h3 h4 (hr.mono h0) hg h2 h5 .nil my ha.h hdb (bn he) (dY hpl)).imp λ_ _ _ h=>Ky h1 hsh h⟩
end
section
variable{y:Str}{py ap dp:Pos}{rest:List Stmt}{l:List (Nat×Str)} 
def FW:PSs X [] (qa K [] false):=pss_nil
def FV(hK:X.K=K)(hN:X.N[0]?=some x)(hv:Vis X.env.scope x)(hdb:(x==("__debug__":Str))=false)(hcd:(x==("__classdict__":Str))=false)(hs:swapsWith (.Dict [] [] dp) (some (.Attribute (.Name x px) "known" ap)) pos.line X.env=pure false):
  PSs X [.Assign [.Attribute (.Name x px) "known" ap] (.Dict [] [] dp) pos] (qa K [] true):=by
 subst hK;exact qi (yH (cg hN hv hdb hcd) AX hs)
def nQ(hK:X.K=K)(hN:X.N[0]?=some x)(hv:Vis X.env.scope x)(hdb:(x==("__debug__":Str))=false)(hcd:(x==("__classdict__":Str))=false)(hNj:X.N[j]?=some y)(hvj:Vis X.env.scope y)(hdbj:(y==("__debug__":Str))=false)(hcdj:(y==("__classdict__":Str))=false)
  (hs:swapsWith (.Name y py) (some (.Attribute (.Name x px) f ap)) pos.line X.env=pure false) (h:PSs X rest (qa K l tab)):PSs X (.Assign [.Attribute (.Name x px) f ap] (.Name y py) pos::rest) (qa K ((j,f)::l) tab):=by
 subst hK;exact(show PSs X _ (p8 (wR X.K (cV 0) (cV j) f) (qa X.K l tab))from kd (yH (cg hN hv hdb hcd) (cg hNj hvj hdbj hcdj) hs) h)
end
def kB(g:MG)(a:MS)(c:MT)(b:MS):List PyData->En->Option Fl
 |[],en=>some (.nx en)
 |t::ts,en=>(g t en).bind λen1=>(a en1).bind λfl=>match fl with
  |.nx en2=>(c en2).bind λr=>if r.1=true then some (.nx r.2)else(b r.2).bind λfl=>match fl with
   |.nx en3=>kB g a c b ts en3
   |.ct en3=>kB g a c b ts en3
   |.rt r en3=>some (.rt r en3)
  |_=>none
def oF(fi:MI)(g:MG)(a:MS)(c:MT)(b:MS):MS:=λen=>(fi en).bind λr=>kB g a c b r.1 r.2
section
variable{ds3 ds4:List Nat}{a b:MS}{c:MT}{g:MG}{fi:MI}{tg iter ce:Expr}{A B body:List Stmt}{ip bp:Pos}{pc:Bool}{D:Ends} 
def F9(hd:leD ds1 ds4=true)(h:tFS K J ds ds1 (oF fi g a c b) D σ H):AG (tFI K p ds ds1 fi) (tFG K J.lk ds1 ds2 g)
  (p8 (tFS K { J with dsl:=ds1 } ds2 ds3 a) (p8 (AF (tFT K pc ds3 ds4 c) yx sg) (tFS K { J with dsl:=ds1 } ds4 ds1 b))) D σ H:=by
 obtain⟨Ox,en,R,fl,e,hf,k⟩:=h;unfold oF at hf;obtain⟨⟨ts,en1⟩,h1,hf⟩:=zaa.mp hf;refine⟨Ox,en,R,ts,en1,e,h1,λJt H1 R1 P1 wk=>?_⟩;refine⟨λi n σ' H'=>∃en' R',n=ts.length-i/\i<=ts.length/\PostS K J.lk ds1 Ox σ H1 R1 σ' en' H' R' NoA/\kB g a c b (ts.drop i) en'=some fl,⟨_,en1,R1,rfl,zbj _,PostS.refl P1.env0,hf⟩,?_⟩;rintro i n σ2 H2 ⟨en2,R2,rfl,hi,P2,hr⟩;obtain⟨w1,w2⟩:=wk i H2 (Own R2 Ox) (λa o q z=>P2.keep a o q λj zj=>z (.inl ⟨j,zj⟩)) (λa z=>by
  rcases z with z|z
  .exact(P2.own a (.inr z)).imp .inl id
  .exact .inl (.inr z)) λa z=>P2.env0.dom a z
 by_cases hlt:i<ts.length
 .obtain⟨go,yl⟩:=w1 ts[i] (zak hlt);have hdr:ts.drop i=ts[i]::ts.drop (i+1):=zbK hlt;rw[hdr]at hr;obtain⟨en3,h3,hr⟩:=zaa.mp hr;obtain⟨fl2,h4,hr⟩:=zaa.mp hr;cases fl2 with
  |ct _=>cases hr
  |rt _ _=>cases hr
  |nx en4=>
  dsimp only at hr
  obtain⟨⟨r,en5⟩,h5,hr⟩:=zaa.mp hr;refine .inr ⟨go,λσ' H'=>∃en' R',PostS K J.lk ds1 Ox σ H1 R1 σ' en' H' R' NoA/\kB g a c b (ts.drop (i+1)) en'=some fl,λσ' H' ⟨en',R',P',h'⟩=>⟨ts.length-(i+1),by lia,en',R',rfl,hlt,P',h'⟩,λx H3 y=>?_⟩;obtain⟨gr,ox⟩:=yl x H3 y;have P3:Post K true ds1 Ox σ2 H2 en2 R2 en2 H3 R2 NoA:=Post.new P2.env0 gr λ_ z=>z.elim;refine⟨Ox,en2,R2,ts[i],en3,P3.env0,ox,h3,λσ4 R4 P4 _=>?_⟩;have P4':=(P2.after P3.s).after P4;refine⟨Ox,en3,R4,.nx en4,P4.env0,h4,λσ5 H5 R5 P5=>?_⟩;have P5':=P4'.after P5;refine⟨Ox,en4,R5,r,en5,P5.env0,h5,λH6 R6 P6=>?_⟩;have P6':=P5'.after P6.s;cases r with
  |true=>
   cases hr;obtain⟨R7,_,P7⟩:=P6'.cut hd;exact k σ5 H6 R7 (P1.s.after P7)
  |false=>
   obtain⟨fl3,h7,hr⟩:=zaa.mp hr;refine⟨Ox,en5,R6,fl3,P6.env0,h7,?_⟩;cases fl3 with
   |nx en8=>exact λσ8 H8 R8 P8=>⟨en8,R8,P6'.after P8,hr⟩
   |ct en8=>exact λσ8 H8 R8 P8=>⟨en8,R8,P6'.after P8,hr⟩
   |rt t en8=>
    cases hr;exact λv σ8 H8 R8 F P8 o=>k v σ8 H8 R8 F (P1.s.after (P6'.after P8)) o
 .have e2:i=ts.length:=by lia
  subst e2;rw[List.drop_length]at hr;cases hr;exact .inl ⟨w2 rfl,k σ2 H2 R2 (P1.s.after P2)⟩
def vi(hc:X.calm=true)(hi:QI X tg iter (tFI K false ds ds1 fi))(hg:QG X tg (tFG K J.lk ds1 ds2 g))(ha:QS X st (tFS K { J with dsl:=ds1 } ds2 ds3 a))(hcd:QT X ce (tFT K false ds3 ds4 c))(hb:QSs X B (tFS K { J with dsl:=ds1 } ds4 ds1 b))(hd:leD ds1 ds4=true)
  (hp:PassesOwn (model X.prog X.w) X.A X.env X.xe) (hs:∀x,foldedSetIterable iter X.env x=pure x):QS X (.For tg iter (st::.If ce [.Break bp] [] ip::B) [] pos) (tFS K J ds ds1 (oF fi g a c b)):=
 ⟨λρ s σ H D I h=>yG hp hc hi.h hg.h (kd ha.h (kd (Ex hcd.h (qi AR) pss_nil) hb.h)) hs ρ s σ H D I (F9 hd h)⟩
end
def xT(bs:List Bool):(List.range bs.length).any (λi=>bs.getD i false)=bs.any id:=by
 rw[Bool.eq_iff_iff,zbL,zbL];constructor
 .rintro⟨i,hi,h⟩;have hi':=zbq.mp hi;rw[zbh,zak hi']at h;exact⟨_,zaJ hi',h⟩
 .rintro⟨b,hb,h⟩;obtain⟨i,hi,e⟩:=List.mem_iff_getElem.mp hb;exact⟨i,zbq.mpr hi,by rw[zbh,zak hi,e];exact h⟩
def B4(hc:X.calm=true):CallR X (.builtin "any") (λxs H Q=>∃(p:Addr) (bs:List Bool),xs=[.ref p]/\SqL X.K H p (bs.map V.bl)/\Q (.bl (bs.any id)) H):=by
 intro ρ s σ H xs us Q I r h;obtain⟨p,bs,rfl,hp,q⟩:=h;obtain⟨u,rfl,ru⟩:=iy r;cases ru;obtain⟨its,rv,pl,hz⟩:=I.list hp;have hl:its.length=bs.length:=by rw[<-rv.length,zad]
 have hlt:p<s.heap.objs.size:=by
  obtain⟨o,n,e,_⟩:=id pl;exact zal e
 refine call_any_walk (wpAny_pyIter_list pl.isList ?_);refine⟨s.heap.objs.size,[s.heap.objs.size,p],[s.heap.objs.size],its.toArray.size,λi v=>its.toArray[i]?=some v,_,λi=>bs.getD i false,rfl,Walks.list (A:=X.A.in1) (show X.A.in1.handled=none from I.ok.hd hc) s.heap.objs.size p (zaw hlt) its.toArray,?_,?_,?_⟩
 .exact⟨⟨_,zan _ rfl,rfl,rfl⟩,pl.isList.push _⟩
 .intro i v s' Q' E' hv hq;have hv':its[i]?=some v:=by simpa using hv
  have hi:i<bs.length:=by
   rw[<-hl];exact(zah.mp hv').1
  obtain⟨u,hu,ru⟩:=rv.get (i:=i) (x:=V.bl bs[i]) (by rw[zao,zak hi];rfl);rw[hu]at hv';cases hv';cases ru;have e:bs.getD i false=bs[i]:=by rw[zbh,zak hi];rfl
  have hq':Q' (bs.getD i false) s':=hq;rw[e]at hq';exact zby hq'
 .intro h' tk hk;have e:(List.range its.toArray.size).any (λi=>bs.getD i false)=bs.any id:=by
   rw[<-xT bs,zai,hl]
  rw[e];refine⟨.bl (bs.any id),H,I.kept (t':=tk) λb o z=>hk b o ?_ (zaf _ z),rfl,q⟩;intro z';have z'':b=s.heap.objs.size:=by simpa using z'
  exact zaw (zal z) z''
def xU:List D->Option D
 |[.list ts]=>(gJ ts).map λbs=>.bool (bs.any id)
 |_=>none
def zT(hK:X.K=K)(hc:X.calm=true):CallR X (.builtin "any") (rFn K xU 3):=by
 subst hK;exact(B4 hc).imF λxs H Q O as t oa hd hg k=>by
  match as,hg with
  |[.list ts],hg=>
   obtain⟨bs,h1,rfl⟩:=zab.mp hg;obtain⟨v,rfl,o⟩:=oa.one;obtain⟨a,vs,rfl,fz,w⟩:=o.lst0;have e:=qV w h1;subst e;exact⟨a,bs,rfl,fz.sq,k _ H NoA .refl rfl⟩
def Mh:D->D->Option D
 |.list ts,b=>grd (aA b=true/\aB ts=true/\bC ts<=60) (.int (ts.countP λt=>peq t b:Nat))
 |_,_=>none
def iI:D->D->Option D
 |.list ts,b=>if aA b=true/\aB ts=true/\bC ts<=60/\ts.length<=sizeLine then(ts.findIdx? λt=>peq t b).map λj=>.int (j:Nat)else none
 |_,_=>none
section
variable{f f1 f2:ME}{Q:VK}  
theorem uw(I:Inv X ρ σ H s){a:D}:∀{ts:List D} {vs:List V} {us:List Value},aB ts=true->Ows X.K O H ts 0 vs NoA->Vals vs us->us.length=ts.length/\∀(i:Nat) t u,ts[i]?=some t->us[i]?=some u->eqF X O H a u=peq t a
 |[],_,_,_,h,r=>by
  cases(show _=[]from h);cases r;exact⟨rfl,λi t u z=>by simp at z⟩
 |t::ts,_,_,hn,h,r=>by
  obtain⟨v,q,F1,F2,e,_,_,_,h4,h5⟩:=h;subst e;have hn':aA t=true/\aB ts=true:=by simpa[aB]using hn
  cases r with
  |cons ru rr=>
   obtain⟨l,g⟩:=uw I (a:=a) hn'.2 (Ows.any0 ts h5) rr;refine⟨by rw[zac,zac,l],λi t' u' z1 z2=>?_⟩;cases i with
   |zero=>
    cases z1;cases z2;exact uv I ru hn'.1 (Ow.any0 t h4)
   |succ i=>exact g i t' u' (by simpa using z1) (by simpa using z2)
def xG(hK:X.K=K)(hu:X.A.units+64<cLine):OpR X (λv u=>call (.builtin "list.index") [v,u]) (rF2 K iI 3):=by
 subst hK;intro ρ s σ H x y v u Q I rx ry ⟨O,a,b,t,oa,ob,hd,hg,k⟩;have hu1:X.A.in1.units+60+1<cLine:=by show X.A.units+1+60+1<cLine;omega
 unfold iI at hg;split at hg
 case h_2=>cases hg
 next ts=>
 by_cases hc:aA b=true/\aB ts=true/\bC ts<=60/\ts.length<=sizeLine
 case neg=>rw[if_neg hc]at hg;cases hg
 rw[if_pos hc]at hg;obtain⟨c1,c2,c3,c4⟩:=hc;obtain⟨j,hj,rfl⟩:=zab.mp hg;obtain⟨j1,j2,j3⟩:=List.findIdx?_eq_some_iff_getElem.mp hj;obtain⟨q,vs,rfl,fz,w⟩:=oa.lst0;cases rx;obtain⟨its,r,⟨o,n,ho,hc,hdd,hda⟩,hz⟩:=I.list fz.sq;obtain⟨cls,dd,data,sl⟩:=o;simp only at hc hda;subst hc hda;obtain⟨l,g⟩:=uw I (a:=b) c2 w r;have sl0:sizeLine=16777216:=by decide
 refine call_meets F.slot_list_index ⟨_,ho,rfl⟩ F.entry_list_index (F.args_list_index_2 _ _) (SeqAt.list_indexAt q its.toArray n dd sl u (eqF X O H b) j (by rw[zai];omega) (by omega) ?_ λm hm hmj=>?_) ⟨ho,λz hz=>gw I c1 ob ry hu1 c2 c3 w r z (by simpa using hz),?_⟩
 .rw[g j ts[j] _ (zak j1) (by simp[show j<its.length by omega])];exact j2
 .rw[zai]at hm;rw[g m (ts[m]'(by omega)) _ (zak (by omega)) (by simp[hm])];exact Bool.eq_false_iff.mpr (j3 m hmj)
 .exact⟨.int _,H,I.tok _,⟨_,rfl⟩,k _ H NoA .refl rfl⟩
def xJ{o:Expr}{ω:Pos}(hK:X.K=K)(hu:X.A.units+64<cLine)(ho:QE X o (tF K p ds ds1 d1 f1))(he:QE X e (tF K p ds1 ds2 d2 f2))
  (η:attributeBase o "index" X.env (eval o X.env)=eval o X.env)
  (xO:((backTo ω (starEach [e] X.env)).all (λx=>!x.1)&&(backToKw ω (keywordEach [] X.env)).all (λx=>x.1.isSome)&&decide (([e]:List Expr).length+([]:List Keyword).length+(if([]:List Keyword).isEmpty then 0 else 1)<30))=true)
  (θ:(μ.endLine==ω.line)=true) (hs:starEach [e] X.env=[(false,eval e X.env)]) (ι:(backTo ω (starEach [] X.env)).any (·.1)=false):
  QE X (.Call (.Attribute o "index" μ) [e] [] ω) (tF K p ds ds2 3 (e2 iI f1 f2)):=by
 subst hK;refine⟨uo (Ty:=TyL X.K) F.plainAttrs_list F.slot_list_index F.type_list_index (λa b t O x H F hg o=>?_) (λρ s σ H x v I r ty=>?_) (xG rfl hu) ho.h he.h η xO θ hs ι⟩
 .unfold iI at hg;split at hg
  .exact yo o
  .cases hg
 .obtain⟨a,vs,rfl,hs⟩:=ty;cases r;obtain⟨its,rv,⟨o,n,ho,hc,hdd,hda⟩,_⟩:=I.list hs;exact⟨⟨o,ho,hc⟩,λb e=>by cases e;exact⟨o,ho,hdd⟩⟩
end
end L2
namespace PySem.SeqAt
open AutoSeq1 (wpAny_loadPart')
open MeetsSeq MeetsSeq2 MeetsSeq3 SeqRoads2
def ou{M:Model}{A:Around}{E:Value->Shared->Prop}{s:Shared}{β:Type}(f:Nat->β->Sem (ForInStep β))(I:List Nat->β->Shared->Prop)(Q:β->Shared->Prop)
  (turn:∀x rest b s,I (x::rest) b s->wpAny M A (f x b) (λr s'=>match r with|.yield b'=>I rest b' s'|.done b'=>Q b' s') E s)
  (fin:∀b s,I [] b s->Q b s) (n:Nat) (b:β) (h:I (List.range' 0 n) b s):wpAny M A (forIn [0:n] b f) Q E s:=by
 rw[Std.Legacy.Range.forIn_eq_forIn_range'];simp only[Std.Legacy.Range.size,Nat.sub_zero,Nat.add_sub_cancel,Nat.div_one];exact wpAny_forIn_list f I Q turn fin _ b h
def tuple_indexAt(l:Addr)(items:Array Value)(n:Nat)(dd:Option Addr)(sl:Array (Option Value))(x:Value)(e:Value->Bool)(j:Nat)(hj:j<items.size)(h1:e items[j]=true)(h2:∀m,(hm:m<items.size)->m<j->e items[m]=false):
  Meets (Builtin.«tuple.index» ⟨[.ref l,x],[]⟩)
   (λA R s=>s.heap.get? l=some { cls:=.type "tuple",dict:=dd,data:=.seq items n,slots:=sl }/\(∀y,y∈items->EqAt A.in1 s y x (e y))/\R (.ok (.ret (.int (j:Nat) s.toks))) { s with toks:=s.toks+1 }):=
 .of_wp λprog w A R s h=>by
  obtain⟨hp,g,d,tk,os⟩:=s;obtain⟨hl,he,h⟩:=h
  wp_walk using wpAny_loadPart' hl,ou _ (λrest b s'=>b.1=none/\s'=⟨hp,g,d,tk,os⟩/\∃i,rest=List.range' i (items.size-i)/\i<=j) _
  case turn=>
   rintro y rest b s' ⟨hb,rfl,i,hr,hi⟩;have hlt:i<items.size:=Nat.lt_of_le_of_lt hi hj;obtain⟨rfl,hrest⟩:y=i/\rest=List.range' (i+1) (items.size-(i+1)):=by
    have e:items.size-i=(items.size-(i+1))+1:=by omega
    rw[e,List.range'_succ]at hr;injection hr with h1 h2
    exact⟨h1,h2⟩
   simp only[Array.getElem?_eq_getElem hlt];refine zam (he items[y] (Array.getElem_mem hlt) prog w _ _ ?_);rcases Nat.lt_or_eq_of_le hi with z|z
   .rw[h2 y hlt z]
    wp_walk
    exact⟨rfl,rfl,y+1,hrest,z⟩
   .subst z;rw[h1]
    wp_walk
    exact⟨_,rfl,h⟩
  case fin=>
   rintro⟨b1,b2⟩ s' ⟨hb,rfl,i,hr,hi⟩
   have:items.size-i=0:=by
    cases q:items.size-i with
    |zero=>rfl
    |succ k=>rw[q,List.range'_succ]at hr;cases hr
   omega
  case h=>
   exact⟨rfl,rfl,0,by rw[Nat.min_self,Nat.sub_zero],zbj _⟩
end PySem.SeqAt
namespace L2
open PySem PySem.Spec PyProof.Rows
def iH:D->D->Option D
 |.tuple ts,b=>if aA b=true/\aB ts=true/\bC ts<=60 then(ts.findIdx? λt=>peq t b).map λj=>.int (j:Nat)else none
 |_,_=>none
section
variable{X:Cx}{K:zbU}{p:Bool}{ds ds1 ds2:List Nat}{d d1 d2:Nat}{e:Expr}{f f1 f2:ME}{σ:St}{H:Hp}{Q Q':VK}{O:AS}{ρ:List (Addr×Obj)}{s:Shared}
def xF(hK:X.K=K)(hu:X.A.units+64<cLine):OpR X (λv u=>call (.builtin "tuple.index") [v,u]) (rF2 K iH 3):=by
 subst hK;intro ρ s σ H x y v u Q I rx ry ⟨O,a,b,t,oa,ob,hd,hg,k⟩;have hu1:X.A.in1.units+60+1<cLine:=by show X.A.units+1+60+1<cLine;lia
 unfold iH at hg;split at hg
 case h_2=>cases hg
 next ts=>
 by_cases hc:aA b=true/\aB ts=true/\bC ts<=60
 case neg=>rw[if_neg hc]at hg;cases hg
 rw[if_pos hc]at hg;obtain⟨c1,c2,c3⟩:=hc;obtain⟨j,hj,rfl⟩:=zab.mp hg;obtain⟨j1,j2,j3⟩:=List.findIdx?_eq_some_iff_getElem.mp hj;obtain⟨q,vs,rfl,fz,w⟩:=oa.tup0;cases rx;obtain⟨its,r,pl,hz⟩:=I.tuple fz.sq;obtain⟨⟨cls,dd,data,sl⟩,ho,hc,m,hda⟩:=id pl;simp only at hc hda;subst hc hda;obtain⟨l,g⟩:=uw I (a:=b) c2 w r;refine call_meets F.slot_tuple_index ⟨_,ho,rfl⟩ F.entry_tuple_index (F.args_tuple_index_2 _ _) (SeqAt.tuple_indexAt q its.toArray m dd sl u (eqF X O H b) j (by rw[zai];lia) ?_ λm hm hmj=>?_) ⟨ho,λz hz=>gw I c1 ob ry hu1 c2 c3 w r z (by simpa using hz),?_⟩
 .rw[g j ts[j] _ (zak j1) (by simp[show j<its.length by lia])];exact j2
 .rw[zai]at hm;rw[g m (ts[m]'(by lia)) _ (zak (by lia)) (by simp[hm])];exact Bool.eq_false_iff.mpr (j3 m hmj)
 .exact⟨.int _,H,I.tok _,⟨_,rfl⟩,k _ H NoA .refl rfl⟩
def xI{o:Expr}{μ ω:Pos}(hK:X.K=K)(hu:X.A.units+64<cLine)(ho:QE X o (tF K p ds ds1 d1 f1))(he:QE X e (tF K p ds1 ds2 d2 f2))
  (η:attributeBase o "index" X.env (eval o X.env)=eval o X.env)
  (xO:((backTo ω (starEach [e] X.env)).all (λx=>!x.1)&&(backToKw ω (keywordEach [] X.env)).all (λx=>x.1.isSome)&&decide (([e]:List Expr).length+([]:List Keyword).length+(if([]:List Keyword).isEmpty then 0 else 1)<30))=true)
  (θ:(μ.endLine==ω.line)=true) (hs:starEach [e] X.env=[(false,eval e X.env)]) (ι:(backTo ω (starEach [] X.env)).any (·.1)=false):
  QE X (.Call (.Attribute o "index" μ) [e] [] ω) (tF K p ds ds2 3 (e2 iH f1 f2)):=by
 subst hK;refine⟨uo (Ty:=TyT) F.plainAttrs_tuple F.slot_tuple_index F.type_tuple_index (λa b t O x H F hg o=>?_) (λρ s σ H x v I r ty=>?_) (xF rfl hu) ho.h he.h η xO θ hs ι⟩
 .unfold iH at hg;split at hg
  .exact IS o
  .cases hg
 .obtain⟨a,vs,rfl,hs⟩:=ty;cases r;obtain⟨_,its,rv,o,ho,hc,n,hda,hdd⟩:=(show ObjOk X.prog X.w H s.heap a (.tup vs)from I.hok a _ hs);exact⟨⟨o,ho,hc⟩,λb e=>by cases e;exact⟨o,ho,hdd⟩⟩
end
structure W{α:Type}(x:Option α)(Q:α->Prop):Prop where
 ex:∃a,x=some a/\Q a
def ay{α:Type}(a:α)(Q:α->Prop):W (some a) Q=Q a:=propext ⟨λ⟨b,e,h⟩=>(zat e)▸h,λh=>⟨a,rfl,h⟩⟩
def bw{α:Type}(Q:α->Prop):W (none:Option α) Q=False:=propext ⟨(λ⟨b,e,h⟩=>by cases e),(λh=>h.elim)⟩
def W.use{α:Type}{x:Option α}{P Q:α->Prop}(h:W x P)(k:∀a,P a->Q a):W x Q:=
 let⟨a,e,h⟩:=h.ex
 ⟨a,e,k a h⟩
def W.of{α:Type}{x:Option α}{P:α->Prop}{a:α}(e:x=some a)(h:P a):W x P:=⟨a,e,h⟩
def ar{α β:Type}(x:Option α)(f:α->Option β)(Q:β->Prop):W (x.bind f) Q=W x (λa=>W (f a) Q):=by
 cases x with
 |none=>show W none _=_;rw[bw,bw]
 |some a=>show W (f a) Q=_;rw[ay]
def bD{α β:Type}(x:Option α)(f:α->β)(Q:β->Prop):W (x.map f) Q=W x (λa=>Q (f a)):=by
 cases x with
 |none=>show W none _=_;rw[bw,bw]
 |some a=>show W (some (f a)) Q=_;rw[ay,ay]
def sB{α:Type}(c:Prop)[Decidable c](a:α)(Q:α->Prop):W (grd c a) Q=(c/\Q a):=by
 unfold grd;by_cases h:c
 .rw[if_pos h,ay];exact propext ⟨λz=>⟨h,z⟩,λz=>z.2⟩
 .rw[if_neg h,bw];exact propext ⟨λz=>z.elim,λz=>h z.1⟩
def ij{α:Type}(c:Prop)[Decidable c](a:α)(Q:α->Prop):W (if c then some a else none) Q=(c/\Q a):=sB c a Q
def EW{α:Type}(c:Prop)[Decidable c](x:Option α)(Q:α->Prop):W (if c then x else none) Q=(c/\W x Q):=by
 by_cases h:c
 .rw[if_pos h];exact propext ⟨λz=>⟨h,z⟩,λz=>z.2⟩
 .rw[if_neg h,bw];exact propext ⟨λz=>z.elim,λz=>h z.1⟩
noncomputable def gv(en:En)(i:Nat):Option D:=(en[i]?).join
def qf(ts:List D)(n:Int)(t:D):Option (List D):=(ixN ts.length n).map λk=>ts.set k t
noncomputable def ML(ts:List D)(n:Int):Option (D×List D):=(seqIndex? n ts.length).bind λk=>(ts[k]?).map λt=>(t,ts.eraseIdx k)
noncomputable def kb(i:Int)(n:Nat):List D:=(List.range n).map λk=>.int (i+(k:Nat))
section
variable{α β:Type}
def tX(b:MS)(Q:Fl->Prop):Fl->Prop:=λfl=>W (match fl with|.nx en1=>b en1|.rt t en1=>some (.rt t en1)|.ct en1=>some (.ct en1)) Q
def JX(i:Nat)(Q:Fl->Prop):D×En->Prop:=λr=>Q (.nx (r.2.set i (some r.1)))
def J6(Q:Fl->Prop):D×En->Prop:=λr=>Q (.nx r.2)
def JY(Q:Fl->Prop):D×En->Prop:=λr=>Q (.rt r.1 r.2)
def kIf(f g:En->Option β)(Q:β->Prop):Bool×En->Prop:=λr=>W (if r.1 then f r.2 else g r.2) Q
def J4(g:MG)(b:MS)(Q:Fl->Prop):List D×En->Prop:=λr=>W (c9 g b r.1 r.2) Q
def oT(g:MG)(b:MS)(ts:List D)(Q:Fl->Prop):Fl->Prop:=λfl=>W (match fl with|.nx en2=>c9 g b ts en2|.ct en2=>c9 g b ts en2|.rt r en2=>some (.rt r en2)) Q
def EG(g:MG)(b:MS)(ts:List D)(Q:Fl->Prop):En->Prop:=λen=>W (b en) (oT g b ts Q)
def Bv(i:Nat)(en:En)(Q:Fl->Prop):List D->Prop:=λts=>Q (.nx (en.set i (some (.list ts))))
def oS(i:Nat)(t:D)(Q:Fl->Prop):D×En->Prop:=λq=>W (match q.1,(q.2[i]?).join with|.int n,some (.list ts)=>(ixN ts.length n).map λk=>.nx (q.2.set i (some (.list (ts.set k t))))|_,_=>none) Q
def xv(i:Nat)(fk:ME)(Q:Fl->Prop):D×En->Prop:=λr=>W (match (r.2[i]?).join with|some _=>((fk r.2).bind λq=>(match q.1,(q.2[i]?).join with|.int n,some (.list ts)=>(ixN ts.length n).map λk=>.nx (q.2.set i (some (.list (ts.set k r.1))))|_,_=>none))|none=>none) Q
def zw(i:Nat)(t:D)(fk:ME)(en:En)(Q:Fl->Prop):D->Prop:=λ_x=>W (fk en) (oS i t Q)
def tW(i:Nat)(t:D)(n:Int)(en:En)(Q:Fl->Prop):D->Prop:=λx=>W (match x with|.list ts=>(ixN ts.length n).map λk=>.nx (en.set i (some (.list (ts.set k t))))|_=>none) Q
def eo(en:En)(Q:D×En->Prop):D->Prop:=λt=>Q (t,en)
def k1(g:D->Option D)(Q:D×En->Prop):D×En->Prop:=λr=>W (g r.1) (eo r.2 Q)
def k2b(g:D->D->Option D)(t:D)(Q:D×En->Prop):D×En->Prop:=λq=>W (g t q.1) (eo q.2 Q)
def k2(g:D->D->Option D)(f:ME)(Q:D×En->Prop):D×En->Prop:=λr=>W (f r.2) (k2b g r.1 Q)
def Bz(g:ME)(Q:D×En->Prop):D×En->Prop:=λr=>W (match r.1 with|.bool true=>g r.2|.bool false=>some (.bool false,r.2)|_=>none) Q
def JZ(Q:D×En->Prop):D×En->Prop:=λr=>W (match r.1 with|.bool b=>some (.bool (!b),r.2)|_=>none) Q
def kTV(Q:Bool×En->Prop):D×En->Prop:=λr=>W (match r.1 with|.bool b=>some (b,r.2)|_=>none) Q
def xz(g:MT)(Q:Bool×En->Prop):Bool×En->Prop:=λr=>W (if r.1 then g r.2 else some (false,r.2)) Q
def Bx(g:MT)(Q:Bool×En->Prop):Bool×En->Prop:=λr=>W (if r.1 then some (true,r.2)else g r.2) Q
def EJ(Q:Bool×En->Prop):Bool×En->Prop:=λr=>Q (!r.1,r.2)
def BB(t:D)(Q:List (D ⊕ Nat)×En->Prop):List (D ⊕ Nat)×En->Prop:=λy=>Q (.inl t::y.1,y.2)
def kAC(r:MA)(Q:List (D ⊕ Nat)×En->Prop):D×En->Prop:=λx=>W (r x.2) (BB x.1 Q)
def BA(i:Nat)(Q:List (D ⊕ Nat)×En->Prop):List (D ⊕ Nat)×En->Prop:=λy=>Q (.inr i::y.1,y.2)
def kAS(i:Nat)(r:MA)(en:En)(Q:List (D ⊕ Nat)×En->Prop):D->Prop:=λ_x=>W (r en) (BA i Q)
def kN2(g:List D->Option D)(en:En)(Q:D×En->Prop):List D->Prop:=λts=>W (g ts) (eo en Q)
def kN(g:List D->Option D)(Q:D×En->Prop):List (D ⊕ Nat)×En->Prop:=λr=>W (vals r.1) (kN2 g r.2 Q)
def xw(en:En)(Q:D×En->Prop):List D->Prop:=λts=>W (if ts.length<=sizeLine then some (.list ts,en)else none) Q
def J2(Q:D×En->Prop):List (D ⊕ Nat)×En->Prop:=λr=>W (vals r.1) (xw r.2 Q)
def xu(en:En)(Q:D×En->Prop):List D->Prop:=λts=>W (if ts.length<=sizeLine then some (.tuple ts,en)else none) Q
def JW(Q:D×En->Prop):List (D ⊕ Nat)×En->Prop:=λr=>W (vals r.1) (xu r.2 Q)
def tY(as:List (D ⊕ Nat))(en:En)(Q:D×En->Prop):D×En->Prop:=λq=>Q (q.1,wb as q.2 en)
def tZ(F:List D->Option (D×En))(as:List (D ⊕ Nat))(en:En)(Q:D×En->Prop):List D->Prop:=λts=>W (F ts) (tY as en Q)
def EH(F:List D->Option (D×En))(Q:D×En->Prop):List (D ⊕ Nat)×En->Prop:=λr=>W (fB r.1 r.2) (tZ F r.1 r.2 Q)
def kFn(dps:List Nat)(Q:D×En->Prop):Fl->Prop:=λfl=>W (match fl with|.rt t en=>some (t,msk dps en)|.nx en=>some (.none,msk dps en)|.ct _=>none) Q
def xy(q:Bool)(js:List (Option Nat))(en:En)(Q:D×En->Prop):List D×En->Prop:=λz=>Q (.list z.1,if q then en else wbB js z.2 en)
def kLC(q:Bool)(g:MG)(c:MT)(f:ME)(js:List (Option Nat))(Q:D×En->Prop):List D×En->Prop:=λr=>W (lcF g c f r.1 [] (eR js r.2)) (xy q js r.2 Q)
def By(Q:List D×En->Prop):D×En->Prop:=λr=>W ((Ep r.1).map λts=>(ts,r.2)) Q
def kR1(Q:List D×En->Prop):List (D ⊕ Nat)×En->Prop:=λr=>W (match r.1 with|[.inl (.int j)]=>if -(2 ^ 62)<=j/\j<2 ^ 62 then some ((List.range j.toNat).map λk=>.int (0+(k:Nat)),r.2)else none|_=>none) Q
def kEn(Q:List D×En->Prop):List (D ⊕ Nat)×En->Prop:=λr=>W (match r.1 with|[.inl (.list ts)]=>some (cy ts,r.2)|[.inl (.tuple ts)]=>some (cy ts,r.2)|_=>none) Q
def EE(Q:List D×En->Prop):List (D ⊕ Nat)×En->Prop:=λr=>W (match r.1 with|[.inl (.tuple ts),.inl (.tuple us)]=>some (dW ts us,r.2)|_=>none) Q
def EF(Q:List D×En->Prop):List (D ⊕ Nat)×En->Prop:=λr=>W (match r.1 with|[.inl (.tuple ts),.inl (.list us)]=>some (dW ts us,r.2)|_=>none) Q
def zm(n:Int)(en:En)(Q:D×En->Prop):D->Prop:=λx=>W (match x with|.list ts=>(atI ts n).map λt=>(t,en)|_=>none) Q
def oR(i:Nat)(Q:D×En->Prop):D×En->Prop:=λr=>W (match r.1,(r.2[i]?).join with|.int n,some (.list ts)=>(atI ts n).map λt=>(t,r.2)|_,_=>none) Q
def EC(i:Nat)(f:ME)(en:En)(Q:D×En->Prop):D->Prop:=λ_x=>W (f en) (oR i Q)
def xA(i:Nat)(Q:D×En->Prop):D×En->Prop:=λr=>W (match (r.2[i]?).join with|some (.list ts)=>if ts.length<sizeLine then some (PyData.none,r.2.set i (some (.list (ts++[r.1]))))else none|_=>none) Q
def EK(i:Nat)(t:D)(en:En)(Q:D×En->Prop):D->Prop:=λx=>W (match x with|.list ts=>if ts.length<sizeLine then some (PyData.none,en.set i (some (.list (ts++[t]))))else none|_=>none) Q
def J8(i:Nat)(f:ME)(en:En)(Q:D×En->Prop):D->Prop:=λx=>W (match x with|.list _=>((f en).bind λr=>(match (r.2[i]?).join with|some (.list ts)=>if ts.length<sizeLine then some (PyData.none,r.2.set i (some (.list (ts++[r.1]))))else none|_=>none))|_=>none) Q
def kOS(Q:Option Int×En->Prop):D×En->Prop:=λr=>W (match r.1 with|.int i=>some (some i,r.2)|_=>none) Q
def Bt(g:D->Option Int->Option Int->Option D)(t:D)(lo:Option Int)(Q:D×En->Prop):Option Int×En->Prop:=λh=>W (g t lo h.1) (eo h.2 Q)
def Bu(g:D->Option Int->Option Int->Option D)(t:D)(hi:MO)(Q:D×En->Prop):Option Int×En->Prop:=λl=>W (hi l.2) (Bt g t l.1 Q)
def kSl(g:D->Option Int->Option Int->Option D)(lo hi:MO)(Q:D×En->Prop):D×En->Prop:=λr=>W (lo r.2) (Bu g r.1 hi Q)
def kM2(g:Str->List D->Option D)(z:Str)(en:En)(Q:D×En->Prop):List D->Prop:=λts=>W (g z ts) (eo en Q)
def kM1(g:Str->List D->Option D)(z:Str)(Q:D×En->Prop):List (D ⊕ Nat)×En->Prop:=λq=>W (vals q.1) (kM2 g z q.2 Q)
def kM(g:Str->List D->Option D)(fa:MA)(Q:D×En->Prop):D×En->Prop:=λr=>W (match r.1 with|.str z=>(fa r.2).bind λq=>(vals q.1).bind λts=>(g z ts).map λt=>(t,q.2)|_=>none) Q
def kIt(J:En->Prop)(Q:Fl->Prop):Fl->Prop:=λfl=>match fl with|.nx e=>J e|.ct e=>J e|.rt t e=>Q (.rt t e)
def Bw(us:List D)(J:List D->En->Prop):D×En->Prop:=λr=>J (us++[r.1]) r.2
def xx(f:ME)(us:List D)(J:List D->En->Prop):Bool×En->Prop:=λr=>if r.1 then W (f r.2) (Bw us J)else J us r.2
def J3(c:MT)(f:ME)(us:List D)(J:List D->En->Prop):En->Prop:=λen=>W (c en) (xx f us J)
def kWh(b:MS)(J:En->Prop)(Q:Fl->Prop):Bool×En->Prop:=λr=>if r.1 then W (b r.2) (kIt J Q)else Q (.nx r.2)
def kFg(b:MS)(J:En->Prop)(Q:Fl->Prop):En->Prop:=λen=>W (b en) (kIt J Q)
def kS1(Q:D->Prop):Nat->Prop:=λc=>Q (.str (mk1 c))
def kGs(q:List D->En->Option En)(ts:List D)(Q:En->Prop):En->Prop:=λen=>W (q ts en) Q
def oW(t:D)(Q:List D->Prop):List D->Prop:=λts=>Q (t::ts)
def J7(r:List (D ⊕ Nat))(en:En)(Q:List D->Prop):D->Prop:=λt=>W (fB r en) (oW t Q)
def fY{α:Type}(ts:List α)(n:Nat):atI ts (n:Int)=ts[n]?:=by
 unfold atI ixN;rw[if_pos (by omega)];by_cases h:n<ts.length
 .rw[if_pos (by omega)];rfl
 .rw[if_neg (by omega),zbl (by omega)];rfl
def sR{ts:List D}{t:D}(n:Nat)(h:n<ts.length):qf ts (n:Int) t=some (ts.set n t):=by
 unfold qf ixN;rw[if_pos (by omega),if_pos (by omega)];rfl
def FT(a b:Int):(a==b)=decide (a=b):=by
 by_cases h:a=b
 .rw[h,zaB rfl];exact beq_self_eq_true b
 .rw[zaA h];exact zbM.mpr h
def mw(a b:Str):(a==b)=decide (a=b):=by
 by_cases h:a=b
 .rw[h,zaB rfl];exact beq_self_eq_true b
 .rw[zaA h];exact zbM.mpr h
def JO(a b:Str):neD (.str a) (.str b)=some (.bool (!decide (a=b))):=by
 show grd _ _=_;unfold grd;rw[if_pos ⟨rfl,rfl,zbj _⟩,<-mw];simp only[peq]
variable(en:En)(Qs:Fl->Prop)(Qe:D×En->Prop)(Qb:Bool×En->Prop)(Qa:List (D ⊕ Nat)×En->Prop)(Ql:List D×En->Prop)(Qd:D->Prop)(Qt:List D->Prop)(Qn:En->Prop)(f:ME)(g:MG)(fa:MA)(c:MT)(ts:List D)(i:Nat)
def ws0(α:Type)(a:α)(Q:α->Prop):W (some a) Q=Q a:=ay _ _
theorem ws1(a:Option D)(l:En):gv (a::l) 0=a:=rfl
theorem ws2(a:Option D)(l:En):gv (a::l) (i+1)=gv l i:=rfl
theorem ws3(a b:Option D)(l:En):List.set (a::l) 0 b=b::l:=rfl
theorem ws4(a b:Option D)(l:En):List.set (a::l) (i+1) b=a::List.set l i b:=rfl
def ws5(a b:MS):W (ao a b en) Qs=W (a en) (tX b Qs):=ar _ _ _
theorem ws6(b:MS):tX b Qs (.nx en)=W (b en) Qs:=rfl
def ws7(b:MS)(t:D):tX b Qs (.rt t en)=Qs (.rt t en):=ay _ _
def ws8:W (av i f en) Qs=W (f en) (JX i Qs):=bD _ _ _
theorem ws9(t:D):JX i Qs (t,en)=Qs (.nx (en.set i (some t))):=rfl
def Iy:W (fP f en) Qs=W (f en) (J6 Qs):=bD _ _ _
theorem Ix(t:D):J6 Qs (t,en)=Qs (.nx en):=rfl
def Iw:W (aG f en) Qs=W (f en) (JY Qs):=bD _ _ _
theorem Iv(t:D):JY Qs (t,en)=Qs (.rt t en):=rfl
def Iu:W (bj en) Qs=Qs (.nx en):=ay _ _
def Ir(a b:MS):W (sIf c a b en) Qs=W (c en) (kIf a b Qs):=ar _ _ _
theorem Iq(β:Type)(a b:En->Option β)(Q:β->Prop):kIf a b Q (true,en)=W (a en) Q:=rfl
theorem Ip(β:Type)(a b:En->Option β)(Q:β->Prop):kIf a b Q (false,en)=W (b en) Q:=rfl
def Io(fi:MI)(b:MS):W (b7 fi g b en) Qs=W (fi en) (J4 g b Qs):=ar _ _ _
theorem Im(b:MS):J4 g b Qs (ts,en)=W (c9 g b ts en) Qs:=rfl
def Il(b:MS):W (c9 g b [] en) Qs=Qs (.nx en):=ay _ _
def Ik(b:MS)(t:D):W (c9 g b (t::ts) en) Qs=W (g t en) (EG g b ts Qs):=(ar _ _ _).trans (congrArg _ (funext λz=>ar _ _ _))
theorem Ij(b:MS):EG g b ts Qs en=W (b en) (oT g b ts Qs):=rfl
theorem Ii(b:MS):oT g b ts Qs (.nx en)=W (c9 g b ts en) Qs:=rfl
theorem Ih(b:MS):oT g b ts Qs (.ct en)=W (c9 g b ts en) Qs:=rfl
def Ig(b:MS)(t:D):oT g b ts Qs (.rt t en)=Qs (.rt t en):=ay _ _
def Ie(t:D):W (gN i t en) Qn=Qn (en.set i (some t)):=ay _ _
theorem Ic(g:List D->En->Option En):W (gT g (.tuple ts) en) Qn=W (g ts en) Qn:=rfl
def Ib(q:List D->En->Option En)(t:D):W (gsC g q (t::ts) en) Qn=W (g t en) (kGs q ts Qn):=ar _ _ _
theorem Ia(q:List D->En->Option En):kGs q ts Qn en=W (q ts en) Qn:=rfl
def HZ:W (gs0 [] en) Qn=Qn en:=ay _ _
def HY(fk fe:ME):W (fO i fk fe en) Qs=W (fe en) (xv i fk Qs):=ar _ _ _
def HX(fk:ME)(t:D):xv i fk Qs (t,en)=W (gv en i) (zw i t fk en Qs):=by unfold xv gv;cases h:(en[i]?).join with|none=>simp only[h,bw]|some x=>simp only[h,ay];exact ar _ _ _
theorem HW(t:D)(fk:ME)(x:D):zw i t fk en Qs x=W (fk en) (oS i t Qs):=rfl
def HV(t:D)(n:Int):oS i t Qs (.int n,en)=W (gv en i) (tW i t n en Qs):=by unfold oS gv;cases h:(en[i]?).join with|none=>simp only[h,bw]|some x=>simp only[h,ay];cases x<;>first|rfl|exact(ay _ _).symm | (rw[ay];rfl) | (rw[ay];exact bw _)
def HU(t:D)(n:Int):tW i t n en Qs (.list ts)=W (qf ts n t) (Bv i en Qs):=by unfold tW qf Bv;dsimp only;rw[bD,bD]
theorem HS:Bv i en Qs ts=Qs (.nx (en.set i (some (.list ts)))):=rfl
def HR(x0 t:D)(l:List D):qf (x0::l) 0 t=some (t::l):=sR 0 (by simp only[zac];omega)
def HQ(x0 x1 x2 t:D)(l:List D):qf (x0::x1::x2::l) 2 t=some (x0::x1::t::l):=sR 2 (by simp only[zac];omega)
def HP:W (ac i en) Qe=W (gv en i) (eo en Qe):=bD _ _ _
theorem HN(t:D):eo en Qe t=Qe (t,en):=rfl
def HM(t:D):W (eC t en) Qe=Qe (t,en):=ay _ _
def HL(g:D->Option D):W (e1 g f en) Qe=W (f en) (k1 g Qe):=(ar _ _ _).trans (congrArg _ (funext λz=>bD _ _ _))
theorem HK(g:D->Option D)(t:D):k1 g Qe (t,en)=W (g t) (eo en Qe):=rfl
def HJ(g:D->D->Option D)(f1 f2:ME):W (e2 g f1 f2 en) Qe=W (f1 en) (k2 g f2 Qe):=(ar _ _ _).trans (congrArg _ (funext λz=>(ar _ _ _).trans (congrArg _ (funext λy=>bD _ _ _))))
theorem HI(g:D->D->Option D)(f2:ME)(t:D):k2 g f2 Qe (t,en)=W (f2 en) (k2b g t Qe):=rfl
theorem HH(g:D->D->Option D)(t u:D):k2b g t Qe (u,en)=W (g t u) (eo en Qe):=rfl
def HG(f g:ME):W (kE f g en) Qe=W (f en) (Bz g Qe):=ar _ _ _
theorem HF(g:ME):Bz g Qe (.bool true,en)=W (g en) Qe:=rfl
def HE(g:ME):Bz g Qe (.bool false,en)=Qe (.bool false,en):=ay _ _
def HD:W (nV f en) Qe=W (f en) (JZ Qe):=ar _ _ _
def HC(x:Bool):JZ Qe (.bool x,en)=Qe (.bool (!x),en):=ay _ _
def HB(f g:ME):W (eIf c f g en) Qe=W (c en) (kIf f g Qe):=ar _ _ _
def HA:W (tV f en) Qb=W (f en) (kTV Qb):=ar _ _ _
def Hz(x:Bool):kTV Qb (.bool x,en)=Qb (x,en):=ay _ _
def Hy(f g:MT):W (fX f g en) Qb=W (f en) (xz g Qb):=ar _ _ _
theorem Hx(g:MT):xz g Qb (true,en)=W (g en) Qb:=rfl
def Hw(g:MT):xz g Qb (false,en)=Qb (false,en):=ay _ _
def Hv(f g:MT):W (bOr f g en) Qb=W (f en) (Bx g Qb):=ar _ _ _
def Hu(g:MT):Bx g Qb (true,en)=Qb (true,en):=ay _ _
theorem Ht(g:MT):Bx g Qb (false,en)=W (g en) Qb:=rfl
def Hs(f:MT):W (jC f en) Qb=W (f en) (EJ Qb):=bD _ _ _
theorem Hr(x:Bool):EJ Qb (x,en)=Qb (!x,en):=rfl
def Hq:W (cY en) Qb=Qb (true,en):=ay _ _
def Ho:W (ai en) Qa=Qa ([],en):=ay _ _
def Hn(r:MA):W (ae f r en) Qa=W (f en) (kAC r Qa):=(ar _ _ _).trans (congrArg _ (funext λz=>bD _ _ _))
theorem Hm(r:MA)(t:D):kAC r Qa (t,en)=W (r en) (BB t Qa):=rfl
theorem Hl(t:D)(as:List (D ⊕ Nat)):BB t Qa (as,en)=Qa (.inl t::as,en):=rfl
def Hk(r:MA):W (aY i r en) Qa=W (gv en i) (kAS i r en Qa):=(ar _ _ _).trans (congrArg _ (funext λz=>bD _ _ _))
theorem Hj(r:MA)(t:D):kAS i r en Qa t=W (r en) (BA i Qa):=rfl
theorem Hi(as:List (D ⊕ Nat)):BA i Qa (as,en)=Qa (.inr i::as,en):=rfl
theorem Hh:vals []=some []:=rfl
def Hg(t:D)(r:List (D ⊕ Nat)):W (vals (.inl t::r)) Qt=W (vals r) (oW t Qt):=bD _ _ _
theorem Hf(t:D):oW t Qt ts=Qt (t::ts):=rfl
theorem He:fB [] en=some []:=rfl
def Hd(t:D)(r:List (D ⊕ Nat)):W (fB (.inl t::r) en) Qt=W (fB r en) (oW t Qt):=bD _ _ _
def Hc(r:List (D ⊕ Nat)):W (fB (.inr i::r) en) Qt=W (gv en i) (J7 r en Qt):=(ar _ _ _).trans (congrArg _ (funext λz=>bD _ _ _))
theorem Hb(t:D)(r:List (D ⊕ Nat)):J7 r en Qt t=W (fB r en) (oW t Qt):=rfl
theorem Ha(r:List (D ⊕ Nat))(o:Option D)(ψ:En):wb (.inr i::r) (o::ψ) en=wb r ψ (en.set i o):=rfl
theorem G9(t:D)(r:List (D ⊕ Nat))(o:Option D)(ψ:En):wb (.inl t::r) (o::ψ) en=wb r ψ en:=rfl
theorem G8(ψ:En):wb [] ψ en=en:=rfl
def G7(g:List D->Option D):W (eN g fa en) Qe=W (fa en) (kN g Qe):=(ar _ _ _).trans (congrArg _ (funext λz=>(ar _ _ _).trans (congrArg _ (funext λy=>bD _ _ _))))
theorem G6(g:List D->Option D)(as:List (D ⊕ Nat)):kN g Qe (as,en)=W (vals as) (kN2 g en Qe):=rfl
theorem G5(g:List D->Option D):kN2 g en Qe ts=W (g ts) (eo en Qe):=rfl
def G4:W (bt fa en) Qe=W (fa en) (J2 Qe):=(ar _ _ _).trans (congrArg _ (funext λz=>ar _ _ _))
theorem G3(as:List (D ⊕ Nat)):J2 Qe (as,en)=W (vals as) (xw en Qe):=rfl
def G0:xw en Qe ts=(ts.length<=sizeLine/\Qe (.list ts,en)):=ij _ _ _
def GZ:W (eF fa en) Qe=W (fa en) (JW Qe):=(ar _ _ _).trans (congrArg _ (funext λz=>ar _ _ _))
theorem GY(as:List (D ⊕ Nat)):JW Qe (as,en)=W (vals as) (xu en Qe):=rfl
def GX:xu en Qe ts=(ts.length<=sizeLine/\Qe (.tuple ts,en)):=ij _ _ _
def GV:(([]:List D).length<=sizeLine)=True:=eq_true (zau (by show 0<=100;decide) oB)
def GU(x0:D):(([x0]:List D).length<=sizeLine)=True:=eq_true (zau (by show 1<=100;decide) oB)
def GR(x0 x1:D):(([x0,x1]:List D).length<=sizeLine)=True:=eq_true (zau (by show 2<=100;decide) oB)
def GQ(x0 x1 x2:D):(([x0,x1,x2]:List D).length<=sizeLine)=True:=eq_true (zau (by show 3<=100;decide) oB)
def GO(x0 x1 x2 x3:D):(([x0,x1,x2,x3]:List D).length<=sizeLine)=True:=eq_true (zau (by show 4<=100;decide) oB)
def GN(F:List D->Option (D×En)):W (aw F fa en) Qe=W (fa en) (EH F Qe):=(ar _ _ _).trans (congrArg _ (funext λz=>(ar _ _ _).trans (congrArg _ (funext λy=>bD _ _ _))))
theorem GM(F:List D->Option (D×En))(as:List (D ⊕ Nat)):EH F Qe (as,en)=W (fB as en) (tZ F as en Qe):=rfl
theorem GL(F:List D->Option (D×En))(as:List (D ⊕ Nat)):tZ F as en Qe ts=W (F ts) (tY as en Qe):=rfl
theorem GK(as:List (D ⊕ Nat))(t:D)(ψ:En):tY as en Qe (t,ψ)=Qe (t,wb as ψ en):=rfl
def GJ(q:Bool)(fi:MI)(js:List (Option Nat)):W (eLC q fi g c f js en) Qe=W (fi en) (kLC q g c f js Qe):=(ar _ _ _).trans (congrArg _ (funext λz=>bD _ _ _))
theorem Eg(q:Bool)(js:List (Option Nat)):kLC q g c f js Qe (ts,en)=W (lcF g c f ts [] (eR js en)) (xy q js en Qe):=rfl
theorem Ef(js:List (Option Nat))(us:List D)(ex:En):xy true js en Qe (us,ex)=Qe (.list us,en):=rfl
theorem Ee(js:List (Option Nat))(us:List D)(ex:En):xy false js en Qe (us,ex)=Qe (.list us,wbB js ex en):=rfl
theorem Ed:eR [] en=[]:=rfl
theorem Ec(j:Nat)(js:List (Option Nat)):eR (some j::js) en=gv en j::eR js en:=rfl
theorem Eb(js:List (Option Nat)):eR (none::js) en=none::eR js en:=rfl
theorem Ea(j:Nat)(js:List (Option Nat))(o:Option D)(ex:En):wbB (some j::js) (o::ex) en=wbB js ex (en.set j o):=rfl
theorem D9(js:List (Option Nat))(o:Option D)(ex:En):wbB (none::js) (o::ex) en=wbB js ex en:=rfl
theorem D8(ex:En):wbB [] ex en=en:=rfl
def D7:W (lcF g c f [] acc en) Ql=Ql (acc,en):=ay _ _
def D6:W (ci f en) Ql=W (f en) (By Ql):=ar _ _ _
def D5:By Ql (.list ts,en)=Ql (ts,en):=ay _ _
def D4:By Ql (.tuple ts,en)=Ql (ts,en):=ay _ _
def D3:W (dE fa en) Ql=W (fa en) (kR1 Ql):=ar _ _ _
def D2(j:Int):kR1 Ql ([.inl (.int j)],en)=((-(2 ^ 62)<=j/\j<2 ^ 62)/\Ql (kb 0 j.toNat,en)):=ij _ _ _
def D1:W (jR fa en) Ql=W (fa en) (kEn Ql):=ar _ _ _
def D0:kEn Ql ([.inl (.list ts)],en)=Ql (cy ts,en):=ay _ _
def DZ:kEn Ql ([.inl (.tuple ts)],en)=Ql (cy ts,en):=ay _ _
def DY:W (lE fa en) Ql=W (fa en) (EE Ql):=ar _ _ _
def DX:W (lF fa en) Ql=W (fa en) (EF Ql):=ar _ _ _
def DW(ts us:List D):EE Ql ([.inl (.tuple ts),.inl (.tuple us)],en)=Ql (dW ts us,en):=by first|rfl|exact ay _ _|exact bw _
def DU(ts us:List D):EF Ql ([.inl (.tuple ts),.inl (.list us)],en)=Ql (dW ts us,en):=by first|rfl|exact ay _ _|exact bw _
def DT:W (dA i f en) Qe=W (gv en i) (EC i f en Qe):=(ar _ _ _).trans (congrArg _ (funext λz=>ar _ _ _))
theorem DS(x:D):EC i f en Qe x=W (f en) (oR i Qe):=rfl
def DR(n:Int):oR i Qe (.int n,en)=W (gv en i) (zm n en Qe):=by unfold oR gv;cases h:(en[i]?).join with|none=>simp only[h,bw]|some x=>simp only[h,ay];cases x<;>first|rfl|exact(ay _ _).symm | (rw[ay];rfl) | (rw[ay];exact bw _)
def DQ(n:Int):zm n en Qe (.list ts)=W (atI ts n) (eo en Qe):=bD _ _ _
def DP:W (gD i f en) Qe=W (gv en i) (J8 i f en Qe):=by unfold gv gD;cases(en[i]?).join with|none=>rw[bw,bw]|some x=>cases x<;>first|rfl|exact(ay _ _).symm | (rw[ay];rfl) | (rw[ay];exact bw _)
def DN:J8 i f en Qe (.list ts)=W (f en) (xA i Qe):=ar _ _ _
def DM(t:D):xA i Qe (t,en)=W (gv en i) (EK i t en Qe):=by unfold xA gv;cases h:(en[i]?).join with|none=>simp only[h,bw]|some x=>simp only[h,ay];cases x<;>first|rfl|exact(ay _ _).symm | (rw[ay];rfl) | (rw[ay];exact bw _)
def DL(t:D):EK i t en Qe (.list ts)=(ts.length<sizeLine/\Qe (.none,en.set i (some (.list (ts++[t]))))):=ij _ _ _
def DK(Q:Option Int×En->Prop):W (cx en) Q=Q (none,en):=ay _ _
def DJ(Q:Option Int×En->Prop):W (bM f en) Q=W (f en) (kOS Q):=ar _ _ _
def DI(n:Int)(Q:Option Int×En->Prop):kOS Q (.int n,en)=Q (some n,en):=ay _ _
def DH(g:D->Option Int->Option Int->Option D)(lo hi:MO):W (eSl g f lo hi en) Qe=W (f en) (kSl g lo hi Qe):=(ar _ _ _).trans (congrArg _ (funext λz=>(ar _ _ _).trans (congrArg _ (funext λy=>(ar _ _ _).trans (congrArg _ (funext λy=>bD _ _ _))))))
theorem DG(g:D->Option Int->Option Int->Option D)(lo hi:MO)(t:D):kSl g lo hi Qe (t,en)=W (lo en) (Bu g t hi Qe):=rfl
theorem DF(g:D->Option Int->Option Int->Option D)(hi:MO)(t:D)(a:Option Int):Bu g t hi Qe (a,en)=W (hi en) (Bt g t a Qe):=rfl
theorem DE(g:D->Option Int->Option Int->Option D)(t:D)(a b:Option Int):Bt g t a Qe (b,en)=W (g t a b) (eo en Qe):=rfl
def DD(g:Str->List D->Option D):W (eM g f fa en) Qe=W (f en) (kM g fa Qe):=ar _ _ _
def DC(g:Str->List D->Option D)(z:Str):kM g fa Qe (.str z,en)=W (fa en) (kM1 g z Qe):=(ar _ _ _).trans (congrArg _ (funext λz=>(ar _ _ _).trans (congrArg _ (funext λy=>bD _ _ _))))
theorem DB(g:Str->List D->Option D)(z:Str)(as:List (D ⊕ Nat)):kM1 g z Qe (as,en)=W (vals as) (kM2 g z en Qe):=rfl
theorem DA(g:Str->List D->Option D)(z:Str):kM2 g z en Qe ts=W (g z ts) (eo en Qe):=rfl
theorem Dz(J:En->Prop):kIt J Qs (.nx en)=J en:=rfl
theorem Dy(J:En->Prop):kIt J Qs (.ct en)=J en:=rfl
theorem Dx(J:En->Prop)(t:D):kIt J Qs (.rt t en)=Qs (.rt t en):=rfl
theorem Dw(b:MS)(J:En->Prop):kFg b J Qs en=W (b en) (kIt J Qs):=rfl
theorem Dv(b:MS)(J:En->Prop):kWh b J Qs (true,en)=W (b en) (kIt J Qs):=rfl
theorem Du(b:MS)(J:En->Prop):kWh b J Qs (false,en)=Qs (.nx en):=rfl
theorem Dt(us:List D)(J:List D->En->Prop):J3 c f us J en=W (c en) (xx f us J):=rfl
theorem Ds(us:List D)(J:List D->En->Prop):xx f us J (true,en)=W (f en) (Bw us J):=rfl
theorem Dr(us:List D)(J:List D->En->Prop):xx f us J (false,en)=J us en:=rfl
theorem Dq(us:List D)(J:List D->En->Prop)(t:D):Bw us J (t,en)=J (us++[t]) en:=rfl
def Dp(n:Nat)(dps:List Nat)(b:MS):W (fnF n dps b ts) Qe=W (b (ts.map some++List.replicate n none)) (kFn dps Qe):=ar _ _ _
def Do(dps:List Nat)(t:D):kFn dps Qe (.rt t en)=Qe (t,msk dps en):=ay _ _
theorem Dm(d:Nat)(ds:List Nat)(o:Option D):msk ((d+1)::ds) (o::en)=o::msk ds en:=rfl
theorem Dl(ds:List Nat)(o:Option D):msk (0::ds) (o::en)=none::msk ds en:=rfl
theorem Dk:msk [] en=[]:=rfl
theorem Dj(t:D):List.map some (t::ts)=some t::List.map some ts:=rfl
theorem Di:List.map (some:D->Option D) []=[]:=rfl
theorem Dh(a:Option D)(l m:En):(a::l)++m=a::(l++m):=rfl
theorem Dg(m:En):([]:En)++m=m:=rfl
theorem De(a:Option D):List.replicate 0 a=[]:=rfl
theorem Dd(a:Option D)(n:Nat):List.replicate (n+1) a=a::List.replicate n a:=rfl
theorem Dc(a b:Int):ba (.int a) (.int b)=some (.int (a+b)):=rfl
def Db(a b:Str):W (ba (.str a) (.str b)) Qd=(a.length+b.length<=sizeLine/\Qd (.str (a++b))):=ij _ _ _
theorem Da(a b:Int):fN (.int a) (.int b)=some (.int (a-b)):=rfl
def C9(a b:Int):W (dM (.int a) (.int b)) Qd=(CMul a b/\Qd (.int (a*b))):=ij _ _ _
def C8(a b:Int):W (iE (.int a) (.int b)) Qd=(kX a b/\Qd (.int (a / b))):=ij _ _ _
def C7(a b:Int):W (cB (.int a) (.int b)) Qd=(0<b/\Qd (.int (a % b))):=ij _ _ _
def C6(a b:Int):W (qj (.int a) (.int b)) Qd=(jL a b/\Qd (.int (a ^ b.toNat))):=ij _ _ _
theorem C5(a b:Int):ltI (.int a) (.int b)=some (.bool (decide (a<b))):=rfl
theorem C4(a b:Int):leI (.int a) (.int b)=some (.bool (decide (a<=b))):=rfl
theorem C3(a b:Int):gtI (.int a) (.int b)=some (.bool (decide (b<a))):=rfl
theorem C2(a b:Int):geI (.int a) (.int b)=some (.bool (decide (b<=a))):=rfl
def C1(a b:Int):eqD (.int a) (.int b)=some (.bool (decide (a=b))):=(KD a b).trans (congrArg (λq=>some (PyData.bool q)) (FT a b))
theorem C0:isN .none .none=some (.bool true):=rfl
theorem CZ:nN .none .none=some (.bool false):=rfl
theorem CY(x:List D):nN (.list x) .none=some (.bool true):=rfl
theorem CW(x:List D):isN (.tuple x) .none=some (.bool false):=rfl
theorem CV(x:List D):nN (.tuple x) .none=some (.bool true):=rfl
def CU(x:Int):iQ "int" (.int x)=some (.bool true):=(if_neg (λz=>nomatch z)).trans (congrArg (λb=>some (PyData.bool b)) (show nP "int" "int"=true by decide))
def CT(x:Int):iQ "bool" (.int x)=some (.bool false):=(if_neg (λz=>nomatch z)).trans (congrArg (λb=>some (PyData.bool b)) (show nP "int" "bool"=false by decide))
def CQ(x:Str):iQ "str" (.str x)=some (.bool true):=(if_neg (λz=>nomatch z)).trans (congrArg (λb=>some (PyData.bool b)) (show nP "str" "str"=true by decide))
def CP(α β:Type)(f:α->β)(l:List α):(l.map f).length=l.length:=zad f
theorem CO:be [.list ts]=some (.int ts.length):=rfl
theorem CN:be [.tuple ts]=some (.int ts.length):=rfl
def CM(z:Str):W (be [.str z]) Qd=(z.length<=sizeLine/\Qd (.int z.length)):=sB _ _ _
theorem CL(a b:Int):xk [.int a,.int b]=some (.int (if b>a then b else a)):=rfl
theorem CK(a:Int):ic (.int a)=some (.int (-a)):=rfl
theorem CJ:jx [.list ts]=some (.tuple ts):=rfl
theorem CI(n:Int):ixA (.list ts) (.int n)=atI ts n:=rfl
theorem CH(n:Int):ixA (.tuple ts) (.int n)=atI ts n:=rfl
def CG(ts us:List D):W (qK (.list ts) (.list us)) Qd=(ts.length+us.length<=sizeLine/\Qd (.list (ts++us))):=ij _ _ _
def CF(ts us:List D):W (lP (.tuple ts) (.tuple us)) Qd=(ts.length+us.length<=sizeLine/\Qd (.tuple (ts++us))):=ij _ _ _
def CD:atI ts 0=ts[0]?:=fY ts _
def CC:atI ts 1=ts[1]?:=fY ts _
def CB:atI ts 2=ts[2]?:=fY ts _
theorem CA(t:D):(t::ts)[0]?=some t:=rfl
def Cz(t:D):(t::ts)[i+1]?=ts[i]?:=List.getElem?_cons_succ
def Cy(z:Str)(n:Int):W (ixT (.str z) (.int n)) Qd=(z.length<=sizeLine/\W (atI (li z) n) (kS1 Qd)):=by show W (if _ then _ else _) _=_;rw[EW,bD];rfl
theorem Cw(c:Nat):kS1 Qd c=Qd (.str (mk1 c)):=rfl
def Cv(z:Str)(lo hi:Option Int):W (iU (.str z) lo hi) Qd=(z.length<=sizeLine/\Qd (.str ⟨(bY z.cps.toList lo hi).toArray⟩)):=sB _ _ _
def Cu(lo hi:Option Int):gU (.tuple ts) lo hi=some (.tuple (cq ts lo hi)):=by first|rfl|exact ay _ _|exact bw _
theorem Ct(z y:Str):gq z [.str y]=some (.bool (Txt.startswith z y)):=rfl
theorem Cs:oG (.tuple ts) (.int (-1))=some (.tuple ts.reverse):=rfl
def Cr(z:Str):W (sk (.str z) (.int (-1))) Qd=(z.length<=sizeLine/\Qd (.str ⟨z.cps.toList.reverse.toArray⟩)):=sB _ _ _
def Cq(a b:Str):neD (.str a) (.str b)=some (.bool (!decide (a=b))):=JO a b
theorem Cp(m:List D):([]++m:List D)=m:=rfl
theorem Co(x:D)(l m:List D):((x::l)++m:List D)=x::(l++m):=rfl
theorem Cn:(!true)=false:=rfl
theorem Cm:(!false)=true:=rfl
def Cl(p:Prop):(True/\p)=p:=true_and p
def Ck(p:Prop):(p/\True)=p:=and_true p
def Cj(_:Decidable True):decide True=true:=zaB trivial
def Ci(_:Decidable False):decide False=false:=zaA (λz=>z)
end
def zzI{a b:Prop}(x:a)(y:b):a/\b:=⟨x,y⟩
def GI:=zzI @ws0 (zzI @ws1 (zzI @ws2 (zzI @ws3 (zzI @ws4 (zzI @ws5 (zzI @ws6 (zzI @ws7 (zzI @ws8 (zzI @ws9 (zzI @Iy (zzI @Ix (zzI @Iw (zzI @Iv (zzI @Iu (zzI @Ir (zzI @Iq (zzI @Ip (zzI @Io (zzI @Im (zzI @Il (zzI @Ik (zzI @Ij (zzI @Ii (zzI @Ih (zzI @Ig (zzI @Ie (zzI @Ic (zzI @Ib (zzI @Ia (zzI @HZ (zzI @HY (zzI @HX (zzI @HW (zzI @HV (zzI @HU (zzI @HS (zzI @HR (zzI @HQ @HP))))))))))))))))))))))))))))))))))))))
def GH:=zzI @HN (zzI @HM (zzI @HL (zzI @HK (zzI @HJ (zzI @HI (zzI @HH (zzI @HG (zzI @HF (zzI @HE (zzI @HD (zzI @HC (zzI @HB (zzI @HA (zzI @Hz (zzI @Hy (zzI @Hx (zzI @Hw (zzI @Hv (zzI @Hu (zzI @Ht (zzI @Hs (zzI @Hr (zzI @Hq (zzI @Ho (zzI @Hn (zzI @Hm (zzI @Hl (zzI @Hk (zzI @Hj (zzI @Hi (zzI @Hh (zzI @Hg (zzI @Hf (zzI @He (zzI @Hd (zzI @Hc (zzI @Hb (zzI @Ha @G9))))))))))))))))))))))))))))))))))))))
def GG:=zzI @G8 (zzI @G7 (zzI @G6 (zzI @G5 (zzI @G4 (zzI @G3 (zzI @G0 (zzI @GZ (zzI @GY (zzI @GX (zzI @GV (zzI @GU (zzI @GR (zzI @GQ (zzI @GO (zzI @GN (zzI @GM (zzI @GL (zzI @GK (zzI @GJ (zzI @Eg (zzI @Ef (zzI @Ee (zzI @Ed (zzI @Ec (zzI @Eb (zzI @Ea (zzI @D9 (zzI @D8 (zzI @D7 (zzI @D6 (zzI @D5 (zzI @D4 (zzI @D3 (zzI @D2 (zzI @D1 (zzI @D0 (zzI @DZ (zzI @DY @DX))))))))))))))))))))))))))))))))))))))
def GF:=zzI @DW (zzI @DU (zzI @DT (zzI @DS (zzI @DR (zzI @DQ (zzI @DP (zzI @DN (zzI @DM (zzI @DL (zzI @DK (zzI @DJ (zzI @DI (zzI @DH (zzI @DG (zzI @DF (zzI @DE (zzI @DD (zzI @DC (zzI @DB (zzI @DA (zzI @Dz (zzI @Dy (zzI @Dx (zzI @Dw (zzI @Dv (zzI @Du (zzI @Dt (zzI @Ds (zzI @Dr (zzI @Dq (zzI @Dp (zzI @Do (zzI @Dm (zzI @Dl (zzI @Dk (zzI @Dj (zzI @Di (zzI @Dh @Dg))))))))))))))))))))))))))))))))))))))
def GE:=zzI @De (zzI @Dd (zzI @Dc (zzI @Db (zzI @Da (zzI @C9 (zzI @C8 (zzI @C7 (zzI @C6 (zzI @C5 (zzI @C4 (zzI @C3 (zzI @C2 (zzI @C1 (zzI @C0 (zzI @CZ (zzI @CY (zzI @CW (zzI @CV (zzI @CU (zzI @CT (zzI @CQ (zzI @CP (zzI @CO (zzI @CN (zzI @CM (zzI @CL (zzI @CK (zzI @CJ (zzI @CI (zzI @CH (zzI @CG (zzI @CF (zzI @CD (zzI @CC (zzI @CB (zzI @CA (zzI @Cz (zzI @Cy @Cw))))))))))))))))))))))))))))))))))))))
def GD:=zzI @Cv (zzI @Cu (zzI @Ct (zzI @Cs (zzI @Cr (zzI @Cq (zzI @Cp (zzI @Co (zzI @Cn (zzI @Cm (zzI @Cl (zzI @Ck (zzI @Cj @Ci))))))))))))
def ws:=zzI @GI (zzI @GH (zzI @GG (zzI @GF (zzI @GE @GD))))
end L2
namespace L2
namespace Pen3
open PySem L2
def sl1000:1000<=sizeLine:=by rw[sizeLine_eq];decide
end Pen3
end L2
namespace L2
variable{g:MG}{b:MS}{ts:List D}{en:En}{Q:List D×En->Prop}{c:MT}{f:ME}{n:Nat}{o:Option D}{i:Int}
open PySem PySem.Spec PyProof.Rows
def bS{Q:Fl->Prop}(I:Nat->En->Prop)(h0:I 0 en)
  (hs:∀i t en,ts[i]?=some t->I i en->W (g t en) (kFg b (I (i+1)) Q)) (hq:∀en,I ts.length en->Q (.nx en)):W (c9 g b ts en) Q:=by
 suffices ∀(us:List D) (i:Nat) (en:En),ts.drop i=us->i<=ts.length->I i en->W (c9 g b us en) Q from this ts 0 en rfl (zbj _) h0
 intro us
 induction us with
 |nil=>
  intro i en hu hi h
  have:ts.length-i=0:=by rw[<-zaF,hu];rfl
  simp only[ws];exact hq en (by rw[show ts.length=i by lia];exact h)
 |cons t us ih=>
  intro i en hu hi h;have ht:ts[i]?=some t:=by
   have:(ts.drop i)[0]?=some t:=by rw[hu];rfl
   rw[zbD]at this;exact this
  have hl:i<ts.length:=(zah.mp ht).1;have hd:ts.drop (i+1)=us:=by rw[<-List.drop_drop,hu];rfl
  simp only[ws];refine(hs i t en ht h).use λen1 h1=>?_;simp only[ws]at h1 ⊢;refine h1.use λfl h2=>?_;cases fl with
  |nx e=>simp only[ws]at h2 ⊢;exact ih (i+1) e hd hl h2
  |ct e=>simp only[ws]at h2 ⊢;exact ih (i+1) e hd hl h2
  |rt t e=>simp only[ws]at h2 ⊢;exact h2
def lQ(I:Nat->List D->En->Prop)(hz:ts.length<=sizeLine)(h0:I 0 [] en)
  (hs:∀i t us en,ts[i]?=some t->us.length<=i->I i us en->W (g t en) (J3 c f us (I (i+1)))) (hq:∀us en,us.length<=ts.length->I ts.length us en->Q (us,en)):W (lcF g c f ts [] en) Q:=by
 suffices ∀(vs:List D) (i:Nat) (us:List D) (en:En),ts.drop i=vs->i<=ts.length->us.length<=i->I i us en->W (lcF g c f vs us en) Q from this ts 0 [] en rfl (zbj _) (zbj _) h0
 intro vs
 induction vs with
 |nil=>
  intro i us en hu hi hl h
  have:ts.length-i=0:=by rw[<-zaF,hu];rfl
  simp only[ws];exact hq us en (by lia) (by rw[show ts.length=i by lia];exact h)
 |cons t vs ih=>
  intro i us en hu hi hl h;have ht:ts[i]?=some t:=by
   have:(ts.drop i)[0]?=some t:=by rw[hu];rfl
   rw[zbD]at this;exact this
  have hlt:i<ts.length:=(zah.mp ht).1;have hd:ts.drop (i+1)=vs:=by rw[<-List.drop_drop,hu];rfl
  unfold lcF;rw[ar];refine(hs i t us en ht hl h).use λen1 h1=>?_;simp only[ws]at h1;rw[ar];refine h1.use λr h2=>?_;obtain⟨x,en2⟩:=r;cases x with
  |true=>
   simp only[ws]at h2;show W ((f en2).bind _) Q;rw[ar];refine h2.use λq h3=>?_;obtain⟨u,en3⟩:=q;simp only[ws]at h3;show W (if us.length<sizeLine then _ else _) Q;rw[if_pos (by lia)];exact ih (i+1) _ _ hd hlt (by rw[zae];show _+1<=_;lia) h3
  |false=>
   simp only[ws]at h2;exact ih (i+1) _ _ hd hlt (by lia) h2
def wv{Q:Fl->Prop}(I:Nat->En->Prop)(hs:∀n en,I n en->W (c en) (kWh b (λe=>∃m,m<n/\I m e) Q))(h0:I n en):W (dC c b en) Q:=by
 induction n using Nat.strongRecOn generalizing en with
 |_ n ih=>
  obtain⟨⟨x,en1⟩,e1,h1⟩:=(hs n en h0).ex;cases x with
  |false=>simp only[ws]at h1;exact W.of (u3 e1) h1
  |true=>
   simp only[ws]at h1;obtain⟨fl,e2,h2⟩:=h1.ex;cases fl with
   |nx e=>
    obtain⟨m,hm,hi⟩:∃m,m<n/\I m e:=h2;obtain⟨fl,e3,h3⟩:=(ih m hm hi).ex;exact W.of (u4 e1 e2 e3) h3
   |ct e=>
    obtain⟨m,hm,hi⟩:∃m,m<n/\I m e:=h2;obtain⟨fl,e3,h3⟩:=(ih m hm hi).ex;obtain⟨k,h4⟩:=jy e3;refine W.of (jc (n:=k+1) ?_) h3;unfold whN;rw[e1];show(b en1).bind _=_;rw[e2];exact h4
   |rt t e=>
    refine W.of (jc (n:=1) ?_) (show Q (.rt t e)from h2);unfold whN;rw[e1];show(b en1).bind _=_;rw[e2];rfl
def pG{rest:En}(F:D->D)(hz:ts.length<=sizeLine)(hf:∀t∈ts,W (f (some t::rest)) (λr=>r=(F t,some t::rest)))(hq:∀o',Q (ts.map F,o'::rest)):W (lcF (gN 0) cY f ts [] (o::rest)) Q:=by
 obtain⟨o',e⟩:=FP (f:=f) (F:=F) (rest:=rest) ts [] o (λt ht=>by
  obtain⟨r,e,h⟩:=(hf t ht).ex;rw[e,h]) (by simpa using hz)
 exact W.of e (hq o')
def lR{rest:En}(p:D->Bool)(F:D->D)(hz:ts.length<=sizeLine)(hc:∀t∈ts,W (c (some t::rest)) (λr=>r=(p t,some t::rest)))(hf:∀t∈ts,p t=true->W (f (some t::rest)) (λr=>r=(F t,some t::rest)))(hq:∀o',Q ((ts.filter p).map F,o'::rest)):W (lcF (gN 0) c f ts [] (o::rest)) Q:=by
 obtain⟨o',e⟩:=iB (c:=c) (f:=f) (p:=p) (F:=F) (rest:=rest) ts [] o (λt ht=>by
  obtain⟨r,e,h⟩:=(hc t ht).ex;rw[e,h]) (λt ht hp=>by
  obtain⟨r,e,h⟩:=(hf t ht hp).ex;rw[e,h]) (by simpa using hz)
 exact W.of e (hq o')
def dg{α:Type}{ts:List α}{i:Nat}{t:α}(h:ts[i]?=some t):ts.take (i+1)=ts.take i++[t]:=by
 rw[List.take_add_one,h];rfl
def eJ{k:Nat}{t:D}(h:(kb i n)[k]?=some t):k<n/\t=.int (i+(k:Nat)):=by
 unfold kb at h;rw[zao]at h;obtain⟨j,hj,rfl⟩:=zab.mp h;obtain⟨hl,e⟩:=zah.mp hj;rw[List.getElem_range]at e;rw[zbe]at hl;exact⟨hl,by rw[e]⟩
def dG(i:Int)(n:Nat):(kb i n).length=n:=by unfold kb;rw[zad,zbe]
def sz(h:n<=1000):n<=sizeLine:=zau h Pen3.sl1000
def szl(h:n<1000):n<sizeLine:=zag h Pen3.sl1000
def fm{α:Type}{ts:List α}{x:α}(h0:0<=i)(h:ts[i.toNat]?=some x):atI ts i=some x:=by
 obtain⟨n,rfl⟩:=zaL h0;rw[fY];exact h
end L2
set_option maxHeartbeats 1000000
namespace L2
open PySem PySem.Spec PyProof.Rows
end L2
namespace L2
namespace Tg
open PySem L2 Pen3
abbrev s1(c:Nat):D:=.str (mk1 c)
noncomputable def ev:Str:=("!\"#$&'()*+,-./0123456789:;<=>?@ABCDEFGHIJKLMNOPQRSTUVWXYZ":Str)++("[\\]^_`abcdefghijklmnopqrstuvwxyz{|}~":Str)
theorem nu:∀ks:List Str,joinD.strsOf (ks.map .str)=some ks
 |[]=>rfl
 |c::cs=>by
  show(joinD.strsOf (cs.map .str)).map (c::·)=_;rw[nu cs];rfl
def jg{ks:List Str}(h:(aQ ks).length<=1000)(h2:ks.length<=1000):joinD "" [.tuple (ks.map .str)]=some (.str (ofL (aQ ks)))/\joinD "" [.list (ks.map .str)]=some (.str (ofL (aQ ks))):=by
 have e:ofL (aQ ks)=Txt.join "" ks:=(dD (KH ks)).symm;constructor
 .show(joinD.strsOf (ks.map .str)).bind _=_;rw[nu];show(if _ then _ else _)=_;rw[if_pos ⟨by decide,by rw[uG];omega⟩,e]
 .show(joinD.strsOf (ks.map .str)).bind _=_;rw[nu];show(if _ then _ else _)=_;rw[if_pos ⟨by decide,by rw[uG];omega⟩,e]
noncomputable def tD(ks:List Str):D:=.tuple (ks.map .str)
abbrev sgs(ks:List Str):Str:=ofL (aQ ks)
def qu(cs:List Nat):(ofL cs).length=cs.length:=by show cs.toArray.size=_;rw[zai]
end Tg
end L2
namespace L2
namespace Tg
open PySem L2 Pen3
def Jf(z y:Str)(i:Nat):Builtin.Str.subAt z y i=((((li z).drop i).take (li y).length)==li y):=StrLaws.subAt_eq z y i
def tQ(z:Str):(li z).length=z.length:=zaX
def iz(z y:Str):Txt.startswith z y=true↔li y <+: li z:=by
 show(decide (0+y.length<=z.length)&&Builtin.Str.subAt z y 0)=true↔_;rw[Jf,zbm,decide_eq_true_eq,beq_iff_eq,za2];have a:=tQ z;have b:=tQ y;constructor
 .rintro⟨_,h⟩;exact List.prefix_iff_eq_take.mpr h.symm
 .intro h;exact⟨by have:=h.length_le;omega,(List.prefix_iff_eq_take.mp h).symm⟩
abbrev rv(z:Str):Str:=⟨z.cps.toList.reverse.toArray⟩
end Tg
end L2
set_option maxHeartbeats 4000000
namespace W45
noncomputable section
variable{k:Nat}{c:Addr}{self:List D->Option (D×En)}
open PySem L2
noncomputable def top(i:Nat):Stmt:=PySem.Challenge.pw_wordrules_k45_places_in_small_plans.main.body.getD i (.Pass ⟨0,0,0,0⟩)
structure Bl(mg:Str->Option Value):Prop where
 any0:mg "any"=none
 bool0:mg "bool"=none
 enumerate0:mg "enumerate"=none
 int0:mg "int"=none
 isinstance0:mg "isinstance"=none
 len0:mg "len"=none
 max0:mg "max"=none
 range0:mg "range"=none
 str0:mg "str"=none
 sum0:mg "sum"=none
 tuple0:mg "tuple"=none
 zip0:mg "zip"=none
section
variable{P:Program}{w:World}{K:zbU}{mg:Str->Option Value}{base:Heap}{f:Addr}{fd:FuncData}
abbrev kT:Stmt:=cE (top 16) 0
def u0:FnScope ["self","elder"] ["self","elder"] (am kT):=fsc
abbrev kS:Stmt:=cE (top 17) 0
def uZ:FnScope ["self","step","sieve"] ["self","step","sieve"] (am kS):=fsc
abbrev lV:Stmt:=top 4
abbrev Am:List Str:=["thing"]
def wM:FnScope Am ["thing"] (am lV):=fsc
def rM:MS:=(aG (kE (e1 (iQ "int") (ac 0)) (nV (e1 (iQ "bool") (ac 0)))))
def jr:List D->Option (D×En):=fnF 0 [0] rM
abbrev eZ:Stmt:=top 6
abbrev mO:List Str:=["part","text"]
def lg:FnScope mO ["part","text"] (am eZ):=fsc
def gi:MT:=(tV (eM gq (ac 1) (ae (ac 0) ai)))
def gj:ME:=(ac 0)
def iw:MS:=(aG (eLC true (ci (ac 0)) (gN 0) gi gj [none,some 1]))
def b6:List D->Option (D×En):=fnF 0 [0,0] iw
abbrev jD:Stmt:=top 13
abbrev vq:List Str:=["parts","text","words","rest","part","fit"]
def sS:FnScope vq ["parts","text"] (am jD):=fsc
def k5:MS:=(av 5 (aw b6 (ae (ac 4) (ae (ac 3) ai))))
def k4:MS:=(ao (fP (gD 2 (e2 ixA (ac 5) (eC (.int 0)))))
 (av 3 (eSl iU (ac 3) (bM (eN be (ae (e2 ixA (ac 5) (eC (.int 0))) ai))) cx)))
def ik:MT:=(tV (e2 eqD (eN be (ae (ac 5) ai)) (eC (.int 0))))
def ng:MS:=(ao (av 2 (bt ai))
 (ao (av 3 (ac 1))
 (ao (oF (ci (ac 0)) (gN 4) k5 ik k4)
 (aG (ac 2)))))
def dL:List D->Option (D×En):=fnF 4 [0,0] ng
abbrev n8:Stmt:=top 14
abbrev Ca:List Str:=["step","far","text","rest","words","number"]
def yA:FnScope Ca ["step","far","text"] (am n8):=fsc
def pR:ME:=(eM gq (ac 0) (ae (ac 1) ai))
def oo:MS:=(ao (sIf (tV (e2 isN (ac 1) (eC .none))) (aG (eC .none)) bj)
 (ao (av 3 (e2 ba (e2 ixA (ac 1) (eC (.int 1))) (ac 2)))
 (ao (av 4 (aw dL (ae (eSl gU (ac 0) (bM (e2 ixA (ac 1) (eC (.int 0)))) (bM (e1 ic (eC (.int 1))))) (ae (ac 3) ai))))
 (ao (av 5 (e2 ba (e2 ixA (ac 1) (eC (.int 0))) (eN be (ae (ac 4) ai))))
 (ao (av 3 (eSl iU (ac 3) (bM (eN be (ae (eM joinD (eC (.str "")) (ae (ac 4) ai)) ai))) cx))
 (aG (eIf (tV (eN xU (ae (eLC true (ci (e2 ixA (ac 0) (ac 5))) (gN 0) cY pR [none,some 3]) ai))) (eF (ae (ac 5) (ae (ac 3) ai))) (eC .none))))))))
def gO:List D->Option (D×En):=fnF 3 [0,0,0] oo
abbrev gK:Stmt:=cE (top 16) 2
abbrev qM:List Str:=["self","mind","word"]
def oC:FnScope qM ["self","mind","word"] (am gK):=fsc
def i9:ME:=(aw gO (ae (ac 0) (ae (ac 1) (ae (ac 2) ai))))
def j7:MS:=(aG (eN jx (ae (eLC true (lE (ae (b9 0 "Fresh" "elder") (ae (ac 1) ai))) (gT (gsC (gN 0) (gsC (gN 1) gs0))) cY i9 [none,none,some 2]) ai)))
def bh:List D->Option (D×En):=fnF 0 [0,0,0] j7
abbrev lY:Stmt:=cE (top 17) 3
abbrev Ap:List Str:=["self","number","mind","word"]
def wQ:FnScope Ap ["self","number","mind","word"] (am lY):=fsc
def mo(self:List D->Option (D×En)):MS:=(aG (eG 0 "Tally" "many_from" self (ae (e2 ba (ac 1) (eC (.int 1))) (ae (aw bh (ae (e1 (bZ "Fresh" "further") (b9 0 "Tally" "sieve")) (ae (ac 2) (ae (ac 3) ai)))) ai))))
def bQ(self:List D->Option (D×En)):List D->Option (D×En):=fnF 0 [5,0,0,0] (mo self)
abbrev dU:Stmt:=cE (top 17) 4
abbrev jo:List Str:=["self","number","mind","many"]
def nv:FnScope jo ["self","number","mind","many"] (am dU):=fsc
def ir(self:List D->Option (D×En)):ME:=(eG 1 "Tally" "by" (bQ self) (ae (ac 2) (ae (ac 3) (ae (ac 0) ai))))
def gh(self:List D->Option (D×En)):MS:=(aG (eN sN (ae (eLC false (ci (eSl gU (e2 ixA (b9 0 "Tally" "step") (ac 1)) cx (bM (ac 3)))) (gN 0) cY (ir self) [none,some 0,some 1,some 2]) ai)))
def aD(self:List D->Option (D×En)):List D->Option (D×En):=fnF 0 [5,0,0,0] (gh self)
abbrev n9:Stmt:=top 15
abbrev Cc:List Str:=["step","far"]
def yB:FnScope Cc ["step","far"] (am n9):=fsc
def oq:MS:=(aG (kE (e2 nN (ac 1) (eC .none)) (kE (e2 eqD (e2 ixA (ac 1) (eC (.int 0))) (e2 fN (eN be (ae (ac 0) ai)) (eC (.int 1)))) (e2 inL (e2 ixA (ac 1) (eC (.int 1))) (e2 ixA (ac 0) (e1 ic (eC (.int 1))))))))
def gQ:List D->Option (D×En):=fnF 0 [0,0] oq
abbrev io:Stmt:=cE (top 16) 3
abbrev sd:List Str:=["self","mind"]
def qh:FnScope sd ["self","mind"] (am io):=fsc
def ju:ME:=(aw gQ (ae (ac 0) (ae (ac 1) ai)))
def k7:MS:=(aG (nV (eN xU (ae (eLC true (lE (ae (b9 0 "Fresh" "elder") (ae (ac 1) ai))) (gT (gsC (gN 0) (gsC (gN 1) gs0))) cY ju [none,none]) ai))))
def cF:List D->Option (D×En):=fnF 0 [0,0] k7
abbrev fF:Stmt:=cE (top 17) 2
abbrev oh:List Str:=["self","number","mind"]
def mK:FnScope oh ["self","number","mind"] (am fF):=fsc
def cw(self:List D->Option (D×En)):MS:=(ao (sIf (tV (e2 isN (ac 2) (eC .none))) (aG (eC (.int 0))) bj)
 (ao (sIf (tV (e2 eqD (ac 1) (eN be (ae (b9 0 "Tally" "step") ai)))) (aG (eIf (tV (aw cF (ae (e1 (bZ "Fresh" "passes") (b9 0 "Tally" "sieve")) (ae (ac 2) ai)))) (eC (.int 1)) (eC (.int 0)))) bj)
 (ao (sIf (tV (ux 0 "Tally" (eF (ae (ac 1) (ae (ac 2) ai))))) (sU 0 "Tally" (eF (ae (ac 1) (ae (ac 2) ai))) (eG 0 "Tally" "by_first" (aD self) (ae (ac 1) (ae (ac 2) (ae (eN be (ae (e2 ixA (b9 0 "Tally" "step") (ac 1)) ai)) ai))))) bj)
 (aG (uy 0 "Tally" (eF (ae (ac 1) (ae (ac 2) ai))))))))
def aj:Nat->List D->Option (D×En)
 |0=>λ_=>none
 |j+1=>fnF 0 [5,0,0] (cw (aj j))
abbrev gb:Stmt:=cE (top 16) 1
abbrev pN:List Str:=["self"]
def ny:FnScope pN ["self"] (am gb):=fsc
def iu:ME:=(eF (ae (eC (.int 0)) (ae (eC (.str "")) ai)))
def jw:MS:=(aG (eN jx (ae (eLC true (ci (b9 0 "Fresh" "elder")) (gN 0) cY iu [none]) ai)))
def bc:List D->Option (D×En):=fnF 0 [0] jw
abbrev iY:Stmt:=cE (top 17) 1
abbrev uL:List Str:=["self"]
def rT:FnScope uL ["self"] (am iY):=fsc
def mn:MS:=(aG (eG 0 "Tally" "many_from" (aj 6) (ae (eC (.int 0)) (ae (aw bc (ae (e1 (bZ "Fresh" "at_first") (b9 0 "Tally" "sieve")) ai)) ai))))
def bq:List D->Option (D×En):=fnF 0 [5] mn
abbrev iW:Stmt:=top 11
abbrev uJ:List Str:=["plan","number"]
def rQ:FnScope uJ ["plan","number"] (am iW):=fsc
def mi:MS:=(aG (eN (kg "Tally" ["step","sieve"] true) (ae (e2 ixA (ac 0) (ac 1)) (ae (eN (kg "Fresh" ["elder"] false) (ae (eSl gU (ac 0) cx (bM (ac 1))) ai)) ai))))
def bP:List D->Option (D×En):=fnF 0 [0,0] mi
abbrev jn:Stmt:=top 8
abbrev rJ:List Str:=["plan"]
def wN:FnScope rJ ["plan"] (am jn):=fsc
def nc:ME:=(aw bq (ae (e1 (bZ "Tally" "whole") (aw bP (ae (ac 1) (ae (ac 0) ai)))) ai))
def rN:MS:=(aG (eN sN (ae (eLC false (dE (ae (eN be (ae (ac 0) ai)) ai)) (gN 0) cY nc [none,some 0]) ai)))
def fM:List D->Option (D×En):=fnF 0 [0] rN
abbrev kJ:Stmt:=top 12
abbrev xX:List Str:=["step","word","words","rest"]
def uS:FnScope xX ["step","word"] (am kJ):=fsc
def me:ME:=(e2 iH (ac 0) (ac 1))
def pS:MS:=(ao (av 2 (aw dL (ae (eSl gU (ac 0) cx (bM (e1 ic (eC (.int 1))))) (ae (ac 1) ai))))
 (ao (av 3 (eSl iU (ac 1) (bM (eN be (ae (eM joinD (eC (.str "")) (ae (ac 2) ai)) ai))) cx))
 (ao (sIf (bOr (tV (e2 ltI (eN be (ae (ac 2) ai)) (e2 fN (eN be (ae (ac 0) ai)) (eC (.int 1))))) (tV (e2 lu (ac 3) (e2 ixA (ac 0) (e1 ic (eC (.int 1))))))) (aG (eC .none)) bj)
 (aG (eLC true (lF (ae (ac 0) (ae (e2 qK (ac 2) (bt (ae (ac 3) ai))) ai))) (gT (gsC (gN 0) (gsC (gN 1) gs0))) cY me [none,none])))))
def eT:List D->Option (D×En):=fnF 2 [0,0] pS
abbrev ga:Stmt:=cE (top 17) 5
abbrev pM:List Str:=["self","places","many","mind","number","there"]
def nw:FnScope pM ["self","places"] (am ga):=fsc
def iq:MS:=(ao (av 2 (e2 ba (ac 2) (eG 0 "Tally" "by_first" (aD (aj 6)) (ae (ac 4) (ae (ac 3) (ae (ac 5) ai))))))
 (av 3 (aw bh (ae (e1 (bZ "Fresh" "further") (b9 0 "Tally" "sieve")) (ae (ac 3) (ae (e2 ixA (e2 ixA (b9 0 "Tally" "step") (ac 4)) (ac 5)) ai))))))
def jv:MS:=(ao (av 2 (eC (.int 0)))
 (ao (av 3 (aw bc (ae (e1 (bZ "Fresh" "at_first") (b9 0 "Tally" "sieve")) ai)))
 (ao (b7 (jR (ae (ac 1) ai)) (gT (gsC (gN 4) (gsC (gN 5) gs0))) iq)
 (aG (ac 2)))))
def bT:List D->Option (D×En):=fnF 4 [5,0] jv
abbrev uH:Stmt:=top 9
abbrev KP:List Str:=["plan","word","ahead","number","step","places"]
def Fc:FnScope KP ["plan","word"] (am uH):=fsc
def uN:MS:=(ao (av 5 (aw eT (ae (ac 4) (ae (ac 1) ai))))
 (ao (sIf (tV (e2 nN (ac 5) (eC .none))) (aG (e2 ba (ac 2) (aw bT (ae (e1 (bZ "Tally" "ahead_of") (aw bP (ae (ac 0) (ae (ac 3) ai)))) (ae (ac 5) ai))))) bj)
 (av 2 (e2 ba (ac 2) (aw bq (ae (e1 (bZ "Tally" "whole") (aw bP (ae (ac 0) (ae (ac 3) ai)))) ai))))))
def Ax:MS:=(ao (av 2 (eC (.int 0)))
 (ao (b7 (jR (ae (ac 0) ai)) (gT (gsC (gN 3) (gsC (gN 4) gs0))) uN)
 (aG (eC .none))))
def i8:List D->Option (D×En):=fnF 4 [0,0] Ax
abbrev dP:Stmt:=cE (top 17) 7
abbrev k8:List Str:=["self","number","mind","left","there"]
def ka:FnScope k8 ["self","number","mind","left"] (am dP):=fsc
def da:MS:=(av 4 (e2 ba (ac 4) (eC (.int 1))))
def fL:MT:=(tV (e2 geI (ac 3) (eG 0 "Tally" "by_first" (aD (aj 6)) (ae (ac 1) (ae (ac 2) (ae (e2 ba (ac 4) (eC (.int 1))) ai))))))
noncomputable def gn:MS:=(ao (av 4 (eC (.int 0)))
 (ao (dC fL da)
 (aG (ac 4))))
noncomputable def bv:List D->Option (D×En):=fnF 1 [5,0,0,0] gn
abbrev fE:Stmt:=cE (top 17) 6
abbrev og:List Str:=["self","number","places","mind","left","part","there"]
def mJ:FnScope og ["self","number"] (am fE):=fsc
noncomputable def ia:MS:=(ao (av 6 (eG 0 "Tally" "place_within" bv (ae (eN be (ae (ac 2) ai)) (ae (ac 3) (ae (ac 4) ai)))))
 (ao (av 4 (e2 fN (ac 4) (eG 0 "Tally" "by_first" (aD (aj 6)) (ae (eN be (ae (ac 2) ai)) (ae (ac 3) (ae (ac 6) ai))))))
 (ao (av 3 (aw bh (ae (e1 (bZ "Fresh" "further") (b9 0 "Tally" "sieve")) (ae (ac 3) (ae (e2 ixA (ac 5) (ac 6)) ai)))))
 (fP (gD 2 (ac 6))))))
noncomputable def ja:MS:=(ao (av 2 (bt ai))
 (ao (av 3 (aw bc (ae (e1 (bZ "Fresh" "at_first") (b9 0 "Tally" "sieve")) ai)))
 (ao (av 4 (ac 1))
 (ao (b7 (ci (b9 0 "Tally" "step")) (gN 5) ia)
 (aG (ac 2))))))
noncomputable def bK:List D->Option (D×En):=fnF 5 [5,0] ja
abbrev qL:Stmt:=top 10
abbrev GB:List Str:=["plan","number","left","step_number","step","words"]
def AK:FnScope GB ["plan","number"] (am qL):=fsc
noncomputable def rL:ME:=(e2 ixA (ac 0) (ac 1))
noncomputable def rK:MS:=(ao (av 5 (aw bP (ae (ac 0) (ae (ac 3) ai))))
 (ao (sIf (tV (e2 ltI (ac 2) (eG 5 "Tally" "whole" bq ai))) (aG (eM joinD (eC (.str "")) (ae (eLC true (lF (ae (ac 4) (ae (eG 5 "Tally" "places_at" bK (ae (ac 2) ai)) ai))) (gT (gsC (gN 0) (gsC (gN 1) gs0))) cY rL [none,none]) ai))) bj)
 (av 2 (e2 fN (ac 2) (eG 5 "Tally" "whole" bq ai)))))
noncomputable def wx:MS:=(ao (sIf (bOr (jC (tV (aw jr (ae (ac 1) ai)))) (tV (e2 ltI (ac 1) (eC (.int 0))))) oE bj)
 (ao (av 2 (ac 1))
 (ao (b7 (jR (ae (ac 0) ai)) (gT (gsC (gN 3) (gsC (gN 4) gs0))) rK)
 oE)))
noncomputable def j5:List D->Option (D×En):=fnF 4 [0,0] wx
abbrev lX:Stmt:=top 19
abbrev Ao:List Str:=["_law_script","_law_k","_law_cell"]
def wP:FnScope Ao ["_law_script","_law_k"] (am lX):=fsc
def dh:MS:=(ao (av 2 (e2 ba (e2 dM (eC (.int 6151)) (ac 1)) (eC (.int 3))))
 (ao (sIf (tV (e2 ltI (ac 1) (eN be (ae (ac 0) ai)))) (av 2 (e2 ixA (ac 0) (ac 1))) (sIf (tV (e2 gtI (eN be (ae (ac 0) ai)) (eC (.int 0)))) (av 2 (e2 ba (e2 cB (e2 ixA (ac 0) (e2 cB (ac 1) (eN be (ae (ac 0) ai)))) (eC (.int 2147483629))) (e2 dM (eC (.int 40503)) (ac 1)))) bj))
 (ao (sIf (tV (e2 geI (ac 2) (e2 qj (eC (.int 10)) (eC (.int 18))))) (aG (bt (ae (e2 fN (ac 2) (e2 qj (eC (.int 10)) (eC (.int 18)))) (ae (e2 cB (ac 2) (eC (.int 2147483587))) (ae (eC (.int 0)) ai))))) bj)
 (aG (bt (ae (eC (.int 0)) (ae (e2 cB (ac 2) (eC (.int 2147483587))) (ae (eC (.int 0)) ai))))))))
def F_law_pen:List D->Option (D×En):=fnF 1 [0,0] dh
abbrev kR:Stmt:=top 20
abbrev yd:List Str:=["_law_pen_here","_law_many","_law_drawn","_law_number"]
def uY:FnScope yd ["_law_pen_here","_law_many"] (am kR):=fsc
def dB:MS:=(ao (fO 0 (eC (.int 2)) (e2 ba (dA 0 (eC (.int 2))) (eC (.int 1))))
 (ao (sIf (tV (e2 gtI (dA 0 (eC (.int 0))) (eC (.int 0)))) (ao (av 2 (e2 cB (dA 0 (eC (.int 0))) (ac 1)))
 (ao (fO 0 (eC (.int 0)) (e2 iE (dA 0 (eC (.int 0))) (ac 1)))
 (aG (ac 2)))) bj)
 (ao (av 3 (e2 cB (e2 ba (e2 ba (dA 0 (eC (.int 1))) (e2 dM (eC (.int 69621)) (dA 0 (eC (.int 2))))) (eC (.int 13))) (eC (.int 2147483629))))
 (ao (av 3 (e2 ba (e2 cB (e2 dM (ac 3) (ac 3)) (eC (.int 2147483587))) (e2 dM (eC (.int 6151)) (dA 0 (eC (.int 2))))))
 (ao (av 3 (e2 cB (e2 dM (ac 3) (ac 3)) (eC (.int 2147483629))))
 (aG (e2 cB (e2 iE (ac 3) (eC (.int 64))) (ac 1))))))))
def F_law_draw:List D->Option (D×En):=fnF 2 [1,0] dB
abbrev fZ:Stmt:=top 21
abbrev l7:List Str:=["_law_pen_here","_law_most","_law_signs","_law_amount","_law_sizes","_law_kinds","_law_size","_law_kind","_law_k","_law_at"]
def rR:FnScope l7 ["_law_pen_here","_law_most"] (am fZ):=fsc
def gR:ME:=(e2 ba (eC (.int 1)) (aw F_law_draw (aY 1 (ae (ac 2) ai))))
def qN:MS:=(fO 4 (e2 lD (ac 4) (eN xj (ae (ac 4) ai))) (e2 fN (eN xj (ae (ac 4) ai)) (eC (.int 1))))
def jX:MT:=(tV (e2 gtI (eN sN (ae (ac 4) ai)) (eC (.int 12))))
def gM:MS:=(ao (av 9 (aw F_law_draw (aY 0 (ae (eN be (ae (ac 2) ai)) ai))))
 (ao (av 7 (e2 ba (ac 7) (e2 ixT (ac 2) (ac 9))))
 (av 2 (e2 ba (eSl iU (ac 2) cx (bM (ac 9))) (eSl iU (ac 2) (bM (e2 ba (ac 9) (eC (.int 1)))) cx)))))
def gL:MS:=(ao (av 7 (eC (.str "")))
 (ao (b7 (dE (ae (ac 6) ai)) (gN 8) gM)
 (fP (gD 5 (ac 7)))))
noncomputable def mj:MS:=(ao (av 2 (eC (.str "!\"#$&'()*+,-./0123456789:;<=>?@ABCDEFGHIJKLMNOPQRSTUVWXYZ[\\]^_`abcdefghijklmnopqrstuvwxyz{|}~")))
 (ao (av 3 (e2 ba (eC (.int 1)) (aw F_law_draw (aY 0 (ae (eC (.int 4)) ai)))))
 (ao (av 4 (eLC false (dE (ae (ac 3) ai)) (gN 0) cY gR [none,some 0,some 1]))
 (ao (sIf (fX (tV (e2 eqD (ac 1) (eC (.int 6)))) (tV (e2 eqD (aw F_law_draw (aY 0 (ae (eC (.int 6)) ai))) (eC (.int 0))))) (av 4 (e2 ixA (bt (ae (bt (ae (eC (.int 6)) (ae (eC (.int 6)) ai))) (ae (bt (ae (eC (.int 4)) (ae (eC (.int 4)) (ae (eC (.int 4)) ai)))) (ae (bt (ae (eC (.int 3)) (ae (eC (.int 3)) (ae (eC (.int 3)) (ae (eC (.int 3)) ai))))) (ae (bt (ae (eC (.int 6)) (ae (eC (.int 1)) (ae (eC (.int 5)) ai)))) ai))))) (aw F_law_draw (aY 0 (ae (eC (.int 4)) ai))))) bj)
 (ao (dC jX qN)
 (ao (av 5 (bt ai))
 (ao (b7 (ci (ac 4)) (gN 6) gL)
 (aG (eN jx (ae (ac 5) ai))))))))))
noncomputable def eI:List D->Option (D×En):=fnF 8 [1,0] mj
abbrev kK:Stmt:=top 22
abbrev xY:List Str:=["_law_pen_here","_law_tongue_here","_law_most","_law_signs","_law_word","_law_alike","_law_k","_law_sign"]
def uT:FnScope xY ["_law_pen_here","_law_tongue_here","_law_most"] (am kK):=fsc
def l8:MS:=(ao (av 7 (e2 ixT (ac 3) (aw F_law_draw (aY 0 (ae (eN be (ae (ac 3) ai)) ai)))))
 (ao (sIf (tV (ac 5)) (av 7 (e2 ixT (ac 4) (eC (.int 0)))) bj)
 (av 4 (e2 ba (ac 4) (ac 7)))))
def pT:MS:=(ao (av 3 (eM joinD (eC (.str "")) (ae (ac 1) ai)))
 (ao (av 4 (e2 ixT (ac 3) (aw F_law_draw (aY 0 (ae (eN be (ae (ac 3) ai)) ai)))))
 (ao (av 5 (e2 eqD (aw F_law_draw (aY 0 (ae (eC (.int 3)) ai))) (eC (.int 0))))
 (ao (b7 (dE (ae (aw F_law_draw (aY 0 (ae (ac 2) ai))) ai)) (gN 6) l8)
 (aG (ac 4))))))
def eU:List D->Option (D×En):=fnF 5 [1,0,0] pT
abbrev kP:Stmt:=top 23
abbrev yb:List Str:=["_law_pen_here","_law_tongue_here","_law_most","_law_size","_law_free","_law_part_here","_law_k","_law_word","_law_good"]
def uW:FnScope yb ["_law_pen_here","_law_tongue_here","_law_most","_law_size","_law_free"] (am kP):=fsc
def lT:MT:=(bOr (tV (eM gq (ac 0) (ae (ac 1) ai))) (tV (eM gq (ac 1) (ae (ac 0) ai))))
def mh:ME:=(ac 0)
def ma:MS:=(ao (av 7 (aw eU (aY 0 (ae (ac 1) (ae (ac 3) ai)))))
 (ao (av 8 (e2 lu (ac 7) (ac 5)))
 (ao (sIf (jC (tV (ac 4))) (av 8 (e2 eqD (eLC true (ci (ac 5)) (gN 0) lT mh [none,some 7]) (bt ai))) bj)
 (sIf (tV (ac 8)) (fP (gD 5 (ac 7))) bj))))
def pW:MS:=(ao (av 5 (bt ai))
 (ao (b7 (dE (ae (ac 2) ai)) (gN 6) ma)
 (aG (eN jx (ae (ac 5) ai)))))
def eV:List D->Option (D×En):=fnF 4 [1,0,0,0,0] pW
abbrev kL:Stmt:=top 24
abbrev xZ:List Str:=["_law_pen_here","_law_tongue_here","_law_parts","_law_most","_law_size","_law_many","_law_step_here","_law_k","_law_tall"]
def uU:FnScope xZ ["_law_pen_here","_law_tongue_here","_law_parts","_law_most","_law_size"] (am kL):=fsc
def l9:MS:=(ao (av 8 (e2 ba (eC (.int 1)) (aw F_law_draw (aY 0 (ae (ac 4) ai)))))
 (fP (gD 6 (aw eV (aY 0 (ae (ac 1) (ae (aw F_law_draw (aY 0 (ae (e2 ba (ac 3) (eC (.int 1))) ai))) (ae (ac 8) (ae (e2 eqD (ac 7) (e2 fN (ac 5) (eC (.int 1)))) ai)))))))))
def pU:MS:=(ao (av 5 (e2 ba (eC (.int 1)) (aw F_law_draw (aY 0 (ae (ac 2) ai)))))
 (ao (av 6 (bt ai))
 (ao (b7 (dE (ae (ac 5) ai)) (gN 7) l9)
 (aG (eN jx (ae (ac 6) ai))))))
def gc:List D->Option (D×En):=fnF 4 [1,0,0,0,0] pU
abbrev iX:Stmt:=top 25
abbrev uK:List Str:=["_law_step_here","_law_words","_law_one"]
def rS:FnScope uK ["_law_step_here"] (am iX):=fsc
def jY:MT:=(tV (e2 leI (eN be (ae (e2 ba (ac 1) (ac 0)) ai)) (eC (.int 6))))
def j6:ME:=(e2 ba (ac 1) (ac 0))
def j4:MS:=(fP (nW 1 (eLC true (ci (e2 ixA (ac 0) (eC (.int 1)))) (gN 0) jY j6 [none,some 2])))
def gg:MS:=(ao (sIf (bOr (tV (e2 ltI (eN be (ae (ac 0) ai)) (eC (.int 2)))) (tV (e2 gtI (e2 dM (eN be (ae (e2 ixA (ac 0) (eC (.int 0))) ai)) (eN be (ae (e2 ixA (ac 0) (eC (.int 1))) ai))) (eC (.int 12))))) (aG (ac 0)) bj)
 (ao (av 1 (bt ai))
 (ao (b7 (ci (e2 ixA (ac 0) (eC (.int 0)))) (gN 2) j4)
 (aG (e2 lP (eF (ae (eN jx (ae (ac 1) ai)) ai)) (eSl gU (ac 0) (bM (eC (.int 2))) cx))))))
def cu:List D->Option (D×En):=fnF 2 [0] gg
abbrev kQ:Stmt:=top 27
abbrev yc:List Str:=["_law_pen_here","_law_tongue_here","_law_part_here","_law_word"]
def uX:FnScope yc ["_law_pen_here","_law_tongue_here","_law_part_here"] (am kQ):=fsc
def pX:MS:=(ao (av 3 (aw eU (aY 0 (ae (ac 1) (ae (eC (.int 3)) ai)))))
 (ao (sIf (bOr (tV (e2 inL (ac 3) (ac 2))) (tV (e2 gtI (eN be (ae (ac 2) ai)) (eC (.int 11))))) (aG (eF ai)) bj)
 (aG (eF (ae (ac 3) ai)))))
def gf:List D->Option (D×En):=fnF 1 [1,0,0] pX
abbrev kO:Stmt:=top 26
abbrev ya:List Str:=["_law_pen_here","_law_tongue_here","_law_parts","_law_most","_law_size","_law_plan_here","_law_k","_law_step_here","_law_way","_law_last"]
def uV:FnScope ya ["_law_pen_here","_law_tongue_here","_law_parts","_law_most","_law_size"] (am kO):=fsc
def mf:ME:=(e2 oG (ac 0) (e1 ic (eC (.int 1))))
def i7:MS:=(ao (av 7 (aw gc (aY 0 (ae (ac 1) (ae (ac 2) (ae (ac 3) (ae (ac 4) ai)))))))
 (ao (av 8 (aw F_law_draw (aY 0 (ae (eC (.int 6)) ai))))
 (ao (sIf (fX (tV (e2 gtI (ac 6) (eC (.int 0)))) (tV (e2 eqD (ac 8) (eC (.int 0))))) (av 7 (aw cu (ae (e2 ixA (ac 5) (eC (.int 0))) ai))) bj)
 (ao (sIf (fX (tV (e2 gtI (ac 6) (eC (.int 0)))) (tV (e2 eqD (ac 8) (eC (.int 1))))) (ao (av 9 (e2 ixA (e2 ixA (ac 5) (eC (.int 0))) (e1 ic (eC (.int 1)))))
 (av 7 (e2 lP (eSl gU (e2 ixA (ac 5) (eC (.int 0))) cx (bM (e1 ic (eC (.int 1))))) (eF (ae (e2 lP (e2 oG (ac 9) (e1 ic (eC (.int 1)))) (aw gf (aY 0 (ae (ac 1) (ae (ac 9) ai))))) ai))))) bj)
 (ao (sIf (fX (tV (e2 gtI (ac 6) (eC (.int 0)))) (tV (e2 eqD (ac 8) (eC (.int 2))))) (av 7 (eN jx (ae (eLC true (ci (e2 ixA (ac 5) (e2 fN (ac 6) (eC (.int 1))))) (gN 0) cY mf [none]) ai))) bj)
 (ao (sIf (fX (tV (e2 gtI (ac 6) (eC (.int 0)))) (tV (e2 eqD (ac 8) (eC (.int 3))))) (av 7 (e2 lP (eF (ae (aw eV (aY 0 (ae (ac 1) (ae (eC (.int 1)) (ae (eC (.int 3)) (ae (eC (.bool false)) ai)))))) ai)) (eSl gU (e2 ixA (ac 5) (eC (.int 0))) (bM (eC (.int 1))) cx))) bj)
 (av 5 (e2 lP (ac 5) (eF (ae (ac 7) ai))))))))))
def pV:MS:=(ao (av 5 (eF ai))
 (ao (b7 (dE (ae (aw F_law_draw (aY 0 (ae (eC (.int 4)) ai))) ai)) (gN 6) i7)
 (aG (ac 5))))
def ge:List D->Option (D×En):=fnF 5 [1,0,0,0,0] pV
abbrev lW:Stmt:=top 28
abbrev An:List Str:=["_law_plan_here","_law_row_here","_law_seen","_law_step_here","_law_words","_law_part_here","_law_longer","_law_word"]
def wO:FnScope An ["_law_plan_here"] (am lW):=fsc
def vv:ME:=(e2 ba (ac 1) (ac 0))
def jI:MS:=(fP (nW 6 (eLC true (ci (ac 5)) (gN 0) cY vv [none,some 7])))
def jH:MS:=(ao (av 6 (bt ai))
 (ao (b7 (ci (ac 4)) (gN 7) jI)
 (av 4 (ac 6))))
def gW:MS:=(sIf (tV (e2 pv (ac 7) (ac 2))) (ao (mx 2 (ac 7) (eC (.bool true)))
 (fP (gD 1 (ac 7)))) bj)
def nb:MS:=(ao (av 4 (bt (ae (eC (.str "")) ai)))
 (ao (b7 (ci (ac 3)) (gN 5) jH)
 (b7 (ci (ac 4)) (gN 7) gW)))
def rO:MS:=(ao (av 1 (bt ai))
 (ao (av 2 xQ)
 (ao (b7 (ci (ac 0)) (gN 3) nb)
 (aG (ac 1)))))
def ib:List D->Option (D×En):=fnF 7 [0] rO
abbrev jE:Stmt:=top 29
abbrev vt:List Str:=["_law_thing","_law_due"]
def sT:FnScope vt ["_law_thing","_law_due"] (am jE):=fsc
def nh:MS:=(aG (kE (e1 (iQ "int") (ac 0)) (kE (nV (e1 (iQ "bool") (ac 0))) (e2 eqD (ac 0) (ac 1)))))
def cQ:List D->Option (D×En):=fnF 0 [0,0] nh
abbrev im:Stmt:=top 30
abbrev r9:List Str:=["_law_pen_here","_law_plan_here","_law_row_here","_law_some","_law_step_here","_law_part_here","_law_word"]
def qg:FnScope r9 ["_law_pen_here","_law_plan_here","_law_row_here"] (am im):=fsc
def jq:MS:=(fP (mH 3 (eSl gU (ac 5) cx (bM (eC (.int 2))))))
def jp:MS:=(b7 (ci (ac 4)) (gN 5) jq)
def k6:MS:=(ao (av 3 (bt (ae (eC (.str "")) (ae (eC (.str "a b")) (ae (eC (.str "\n")) (ae (eC (.str "0")) ai))))))
 (ao (b7 (ci (ac 1)) (gN 4) jp)
 (ao (sIf (tV (e2 neD (ac 2) (bt ai))) (ao (av 6 (e2 ixA (ac 2) (aw F_law_draw (aY 0 (ae (eN be (ae (ac 2) ai)) ai)))))
 (av 3 (e2 qK (ac 3) (bt (ae (e2 ba (ac 6) (eSl iU (ac 6) cx (bM (eC (.int 1))))) (ae (eSl iU (ac 6) cx (bM (e1 ic (eC (.int 1))))) (ae (eSl iU (ac 6) (bM (eC (.int 1))) cx) (ae (e2 sk (ac 6) (e1 ic (eC (.int 1)))) (ae (e2 ba (ac 6) (eC (.str "\n"))) (ae (e2 ba (eC (.str " ")) (ac 6)) (ae (e2 ba (ac 6) (ac 6)) (ae (eSl iU (ac 6) cx (bM (eC (.int 2)))) ai)))))))))))) bj)
 (aG (ac 3)))))
def dF:List D->Option (D×En):=fnF 4 [1,0,0] k6
abbrev lU:Stmt:=top 31
abbrev KQ:List Str:=["_law_script","_law_k","_law_pen_here","_law_tongue_here","_law_plan_here","_law_row_here","_law_numbers","_law_number","_law_told","_law_word"]
def K4:FnScope KQ ["_law_script"] (am lU):=fsc
noncomputable def Aw:ME:=(aw F_law_draw (aY 1 (ae (eN xk (ae (eC (.int 1)) (ae (eN be (ae (ac 2) ai)) ai))) ai)))
noncomputable def pP:MS:=(sIf (tV (e2 neD (ac 5) (bt ai))) (ao (av 8 (aw j5 (ae (ac 4) (ae (ac 7) ai))))
 (sIf (bOr (jC (tV (e1 (iQ "str") (ac 8)))) (bOr (tV (e2 neD (ac 8) (e2 ixA (ac 5) (ac 7)))) (jC (tV (aw cQ (ae (aw i8 (ae (ac 4) (ae (ac 8) ai))) (ae (ac 7) ai))))))) (aG (eC (.bool false))) bj)) bj)
noncomputable def pO:MS:=(sIf (tV (e2 inL (ac 9) (ac 5))) (sIf (jC (tV (aw cQ (ae (aw i8 (ae (ac 4) (ae (ac 9) ai))) (ae (e2 iI (ac 5) (ac 9)) ai))))) (aG (eC (.bool false))) bj) (sIf (tV (e2 nN (aw i8 (ae (ac 4) (ae (ac 9) ai))) (eC .none))) (aG (eC (.bool false))) bj))
noncomputable def Aq:MS:=(ao (av 2 (aw F_law_pen (ae (ac 0) (ae (ac 1) ai))))
 (ao (av 3 (aw eI (aY 2 (ae (eC (.int 3)) ai))))
 (ao (av 4 (aw ge (aY 2 (ae (ac 3) (ae (eC (.int 3)) (ae (eC (.int 5)) (ae (eC (.int 3)) ai)))))))
 (ao (av 5 (aw ib (ae (ac 4) ai)))
 (ao (sIf (jC (tV (aw cQ (ae (aw fM (ae (ac 4) ai)) (ae (eN be (ae (ac 5) ai)) ai))))) (aG (eC (.bool false))) bj)
 (ao (av 6 (e2 qK (eLC false (dE (ae (eC (.int 8)) ai)) (gN 0) cY Aw [none,some 2,some 5]) (bt (ae (eC (.int 0)) (ae (e2 fN (eN be (ae (ac 5) ai)) (eC (.int 1))) ai)))))
 (ao (b7 (ci (ac 6)) (gN 7) pP)
 (b7 (ci (aw dF (aY 2 (ae (ac 4) (ae (ac 5) ai))))) (gN 9) pO))))))))
noncomputable def KW:MS:=(ao (b7 (dE (ae (eC (.int 2)) ai)) (gN 1) Aq)
 (aG (eC (.bool true))))
noncomputable def yi:List D->Option (D×En):=fnF 9 [0] KW
section
variable(P:Program)(w:World)(K:zbU)(mg:Str->Option Value)(base:Heap)(k:Nat)
abbrev hW:Prop:=Kn P w K mg base k "words_that_begin" ["part","text"] (spF K [0,0] 1 b6)
abbrev iZ:Prop:=Kn P w K mg base k "words_read" ["parts","text"] (spF K [0,0] 0 dL)
abbrev rG:Prop:=Kn P w K mg base k "read_on" ["step","far","text"] (spF K [0,0,0] 0 gO)
abbrev rH:Prop:=Kn P w K mg base k "is_read" ["step","far"] (spF K [0,0] 3 gQ)
abbrev fq:Prop:=Kn P w K mg base k "fresh_words" ["plan","number"] (spF K [0,0] 5 bP)
abbrev m6:Prop:=Kn P w K mg base k "places_in" ["step","word"] (spF K [0,0] 3 eT)
abbrev pH:Prop:=Kn P w K mg base k "is_whole" ["thing"] (spF K [0] 3 jr)
abbrev cP:Prop:=Kn P w K mg base k "_law_draw" ["_law_pen_here","_law_many"] (spF K [1,0] 0 F_law_draw)
abbrev jF:Prop:=Kn P w K mg base k "_law_text" ["_law_pen_here","_law_tongue_here","_law_most"] (spF K [1,0,0] 0 eU)
abbrev jG:Prop:=Kn P w K mg base k "_law_part" ["_law_pen_here","_law_tongue_here","_law_most","_law_size","_law_free"] (spF K [1,0,0,0,0] 0 eV)
abbrev m7:Prop:=Kn P w K mg base k "_law_step" ["_law_pen_here","_law_tongue_here","_law_parts","_law_most","_law_size"] (spF K [1,0,0,0,0] 0 gc)
abbrev kZ:Prop:=Kn P w K mg base k "_law_merged" ["_law_step_here"] (spF K [0] 0 cu)
abbrev m9:Prop:=Kn P w K mg base k "_law_more" ["_law_pen_here","_law_tongue_here","_law_part_here"] (spF K [1,0,0] 0 gf)
abbrev pK:Prop:=Kn P w K mg base k "_law_pen" ["_law_script","_law_k"] (spF K [0,0] 3 F_law_pen)
abbrev kY:Prop:=Kn P w K mg base k "_law_tongue" ["_law_pen_here","_law_most"] (spF K [1,0] 0 eI)
abbrev m8:Prop:=Kn P w K mg base k "_law_plan" ["_law_pen_here","_law_tongue_here","_law_parts","_law_most","_law_size"] (spF K [1,0,0,0,0] 0 ge)
abbrev pJ:Prop:=Kn P w K mg base k "_law_row" ["_law_plan_here"] (spF K [0] 0 ib)
abbrev jZ:Prop:=Kn P w K mg base k "_law_strange" ["_law_pen_here","_law_plan_here","_law_row_here"] (spF K [1,0,0] 0 dF)
abbrev lZ:Prop:=Kn P w K mg base k "_law_whole" ["_law_thing","_law_due"] (spF K [0,0] 3 cQ)
abbrev pI:Prop:=Kn P w K mg base k "how_many" ["plan"] (spF K [0] 3 fM)
abbrev uI:Prop:=Kn P w K mg base k "try_at" ["plan","number"] (spF K [0,0] 3 j5)
abbrev ww:Prop:=Kn P w K mg base k "place" ["plan","word"] (spF K [0,0] 3 i8)
end
def ve(F:Fun K "__init__" "Fresh.__init__" kT f fd)(hC:PySem.W.nsIn K mainGlobals "Fresh"=some (some (.ref c)))(hc:Cls K c)(hn:∀g∈(["elder"]:List Str),NoAttr K c g)(hk:NoAttr K c "known"):FnOk P w K mg base CX0 (k+1) f fd ["self","elder"] (km K "Fresh" ["elder"] false):=by
 refine zB (N:=["self","elder"]) F u0 hC hc hn hk (by decide) (by decide) rfl λcdv A outer s H E hr=>?_;exact(nQ rfl rfl (.inl rfl) rfl rfl rfl (.inl rfl) rfl rfl rfl FW)
def vd(F:Fun K "__init__" "Tally.__init__" kS f fd)(hC:PySem.W.nsIn K mainGlobals "Tally"=some (some (.ref c)))(hc:Cls K c)(hn:∀g∈(["step","sieve"]:List Str),NoAttr K c g)(hk:NoAttr K c "known"):FnOk P w K mg base CX0 (k+1) f fd ["self","step","sieve"] (km K "Tally" ["step","sieve"] true):=by
 refine zB (N:=["self","step","sieve"]) F uZ hC hc hn hk (by decide) (by decide) rfl λcdv A outer s H E hr=>?_;exact(nQ rfl rfl (.inl rfl) rfl rfl rfl (.inl rfl) rfl rfl rfl (nQ rfl rfl (.inl rfl) rfl rfl rfl (.inl rfl) rfl rfl rfl (FV rfl rfl (.inl rfl) rfl rfl rfl)))
def wY(T:Bl mg)(F:Fun K "is_whole" "is_whole" lV f fd):FnOk P w K mg base CX0 (k+1) f fd ["thing"] (spF K [0] 3 jr):=
 F.okR wM ⟨[],[0],3,[]⟩ [0] λnd _ _ _ _ _ _ hr=>(frt (iT (fis "int" T.isinstance0 T.int0 (fv 0)) (nS (nT (fis "bool" T.isinstance0 T.bool0 (fv 0))))))
def lr(T:Bl mg)(F:Fun K "words_that_begin" "words_that_begin" eZ f fd):FnOk P w K mg base CX0 (k+1) f fd ["part","text"] (spF K [0,0] 1 b6):=
 F.okR lg ⟨[],[0,0],1,[]⟩ [0,0] λnd _ _ _ _ _ _ hr=>(frt (flc 1 [0,0] ["word","text"] [none,some 1] (aZ (K:=K) rfl (fv 0)) (λ_ _ _ _ _=>(fgn 0 [0,0] (ndk ["word","text"]))) (λ_ _ _ _ _=>(lG (bA (gZ (K:=K) rfl PySem.F.slot_str_startswith PySem.F.type_str_startswith je jh (fvc 1) (fac (fv 0) aa) rfl rfl rfl rfl rfl rfl) (λ_=>rfl)))) (λ_ _ _ _ _=>(fv 0))))
def tw(T:Bl mg)(mP:hW P w K mg base k)(F:Fun K "words_read" "words_read" jD f fd):FnOk P w K mg base CX0 (k+1) f fd ["parts","text"] (spF K [0,0] 0 dL):=
 F.okR sS ⟨[],[0,0,0,0,0,0],0,[]⟩ [0,0,0,0,0,0] λnd _ _ _ _ _ _ hr=>(af (ax 2 [0,0,1,0,0,0] nd (bz (d':=1) (fls 3 3 aa) (by decide))) (af (ax 3 [0,0,1,0,0,0] nd (fv 1)) (af (vi (ds1:=[0,0,1,0,0,0]) (ds4:=[0,0,1,0,0,0]) rfl (aZ (K:=K) rfl (fv 0)) (fgn 4 [0,0,1,0,0,0] nd) (ax 5 [0,0,1,0,0,0] nd (fs0 (fnn mP hr (fac (fv 4) (fac (fv 3) aa))))) (fte rfl hr.units (fln rfl T.len0 (fac (fv 5) aa)) ag) (af (cK (fap 2 1 (fxi rfl (fv 5))) rfl) (au (ax 3 [0,0,1,0,0,0] nd (fs0 (aW fT (fv 3) (aX (fln rfl T.len0 (fac (fxi rfl (fv 5)) aa))) bi))))) rfl PassesOwn.never (λ_=>rfl)) (frt (dJ (ds0:=[0,0,0,0,0,0]) (bW (p:=false) (i:=2) rfl (.inl rfl) rfl rfl rfl) rfl)))))
def yR(T:Bl mg)(jJ:iZ P w K mg base k)(F:Fun K "read_on" "read_on" n8 f fd):FnOk P w K mg base CX0 (k+1) f fd ["step","far","text"] (spF K [0,0,0] 0 gO):=
 F.okR yA ⟨[],[0,0,0,0,0,0],0,[]⟩ [0,0,0,0,0,0] λnd _ _ _ _ _ _ hr=>(af (aH (ds2:=[0,0,0,0,0,0]) (aJ zR (fv 1) dz (aV _)) (frt (fs0 dz)) aE) (af (fJ (i:=3) (d:=0) (ds':=[0,0,0,0,0,0]) nd rfl (.inr rfl) (fs0 (aq aT (fxi rfl (fv 1)) (fv 2))) rfl (by decide) (by decide) rfl (.inl rfl)) (af (ax 4 [0,0,0,0,0,0] nd (fnn jJ hr (fac (aW (fK (K:=K) rfl) (fv 0) (aX (fxi rfl (fv 1))) (aX (dI ff ag))) (fac (fvc 3) aa)))) (af (ax 5 [0,0,0,0,0,0] nd (fs0 (aq aT (fxi rfl (fv 1)) (fln rfl T.len0 (fac (fv 4) aa))))) (af (fJ (i:=3) (d:=0) (ds':=[0,0,0,0,0,0]) nd rfl (.inr rfl) (fs0 (aW fT (fvc 3) (aX (fln rfl T.len0 (fac (fs0 (fjn (fac (fv 4) aa))) aa))) bi)) rfl (by decide) (by decide) rfl (.inl rfl)) (frt (wf (bA (fcb (zT (K:=K) rfl rfl) T.any0 (by decide +kernel) (fac (fs0 (flc 3 [0,0] ["word","rest"] [none,some 3] (aZ (K:=K) rfl (bg (cL (K:=K) rfl) (fv 0) (fv 5) (λ_ _=>rfl))) (λ_ _ _ _ _=>(fgn 0 [0,0] (ndk ["word","rest"]))) (λ_ _ _ _ _=>bG) (λ_ _ _ _ _=>(gZ (K:=K) rfl PySem.F.slot_str_startswith PySem.F.type_str_startswith je jh (fv 0) (fac (fvc 1) aa) rfl rfl rfl rfl rfl rfl)))) aa)) (λ_=>rfl)) (ftu 0 0 (fac (fv 5) (fac (fvc 3) aa))) (fs0 dz))))))))
def oM(T:Bl mg)(Ce:rG P w K mg base k)(A_Fresh_elder:AtC K "Fresh" "elder")(F:Fun K "further" "Fresh.further" gK f fd):FnOk P w K mg base CX0 (k+1) f fd ["self","mind","word"] (spF K [0,0,0] 0 bh):=
 F.okR oC ⟨[],[0,0,0],0,[]⟩ [0,0,0] λnd _ _ _ _ _ _ hr=>(frt (fct (fw (K:=K) rfl) T.tuple0 (by decide +kernel) (fac (fs0 (flc 1 [0,0,0] ["step","far","word"] [none,none,some 2] (rb (K:=K) rfl rfl T.zip0 (fac (bo (K:=K) (i:=0) rfl A_Fresh_elder rfl (.inl rfl) rfl rfl rfl) (fac (fv 1) aa)) rfl rfl) (λ_ _ _ _ _=>(eA (K:=K) rfl rfl (bb (fgn 0 [0,0,0] (ndk ["step","far","word"])) (bb (fgn 1 [0,0,0] (ndk ["step","far","word"])) dy rfl) rfl) gx rfl rfl)) (λ_ _ _ _ _=>bG) (λ_ _ _ _ _=>(fnn Ce hr (fac (fv 0) (fac (fv 1) (fac (fvc 2) aa))))))) aa)))
def dq(T:Bl mg)(fG:KnM P w K mg base k "Tally" "many_from" ["self","number","mind"] (spF K [5,0,0] 3 self))(df:KnM P w K mg base k "Fresh" "further" ["self","mind","word"] (spF K [0,0,0] 0 bh))(A_Tally_sieve:AtC K "Tally" "sieve")(F:Fun K "by" "Tally.by" lY f fd):FnOk P w K mg base CX0 (k+1) f fd ["self","number","mind","word"] (spF K [5,0,0,0] 3 (fnF 0 [5,0,0,0] (mo self))):=
 F.okR wQ ⟨[0],[5,0,0,0],3,[]⟩ [5,0,0,0] λnd _ _ _ _ _ _ hr=>(frt (b8 (i:=0) fG hr rfl (.inl rfl) (fac (fs0 (aq aT (fv 1) ag)) (fac (hG (p1:=false) (p2:=false) df hr (bo (K:=K) (i:=0) rfl A_Tally_sieve rfl (.inl rfl) rfl rfl rfl) (fac (fv 2) (fac (fv 3) aa)) rfl ⟨_,rfl⟩ rfl rfl) aa)) rfl ⟨_,rfl⟩ rfl rfl rfl rfl))
def bx(T:Bl mg)(Av:KnM P w K mg base k "Tally" "by" ["self","number","mind","word"] (spF K [5,0,0,0] 3 (bQ self)))(A_Tally_step:AtC K "Tally" "step")(F:Fun K "by_first" "Tally.by_first" dU f fd):FnOk P w K mg base CX0 (k+1) f fd ["self","number","mind","many"] (spF K [5,0,0,0] 3 (fnF 0 [5,0,0,0] (gh self))):=
 F.okR nv ⟨[0],[5,0,0,0],3,[]⟩ [5,0,0,0] λnd _ _ _ _ _ _ hr=>(frt (fcb (uh (K:=K) rfl rfl) T.sum0 (by decide +kernel) (fac (fs0 (nU (cd:=3) (d:=3) (dsi:=[0,5,0,0]) (lk:=[1,2,3]) (BlkOkC.of (ns:=["word","self","number","mind"]) (js:=[none,some 0,some 1,some 2]) (N0:=jo) (sc0:=am dU) rfl rfl (by decide +kernel)) rfl (aZ (K:=K) rfl (aW (fK (K:=K) rfl) (bg (cL (K:=K) rfl) (bo (K:=K) (i:=0) rfl A_Tally_step rfl (.inr (.inl rfl)) rfl rfl rfl) (fvc 1) (λ_ _=>rfl)) bi (aX (fv 3)))) (λ_ _ _ _ _=>(fgn 0 [0,5,0,0] (ndk ["word","self","number","mind"]))) (λ_ _ _ _ _=>bG) (λ_ _ _ _ _=>(b8 (i:=1) Av hr rfl (.inr (.inl rfl)) (fac (fvc 2) (fac (fvc 3) (fac (fv 0) aa))) rfl ⟨_,rfl⟩ rfl rfl rfl rfl)) rfl rfl (by decide) rfl (λ_=>rfl))) aa)))
def yS(T:Bl mg)(F:Fun K "is_read" "is_read" n9 f fd):FnOk P w K mg base CX0 (k+1) f fd ["step","far"] (spF K [0,0] 3 gQ):=
 F.okR yB ⟨[],[0,0],3,[]⟩ [0,0] λnd _ _ _ _ _ _ hr=>(frt (iT (eB qz (fv 1) dz (aV _)) (iT (eB (mE (K:=K) rfl hr.units) (fxi rfl (fv 1)) (aq fR (fln rfl T.len0 (fac (fv 0) aa)) ag) (aV _)) (nS (eB (xH (K:=K) rfl hr.units) (fxi rfl (fv 1)) (bg (cL (K:=K) rfl) (fv 0) (dI ff ag) (λ_ _=>rfl)) (by with_unfolding_all rfl))))))
def ql(T:Bl mg)(Cf:rH P w K mg base k)(A_Fresh_elder:AtC K "Fresh" "elder")(F:Fun K "passes" "Fresh.passes" io f fd):FnOk P w K mg base CX0 (k+1) f fd ["self","mind"] (spF K [0,0] 3 cF):=
 F.okR qh ⟨[],[0,0],3,[]⟩ [0,0] λnd _ _ _ _ _ _ hr=>(frt (nT (fcb (zT (K:=K) rfl rfl) T.any0 (by decide +kernel) (fac (fs0 (flc 3 [0,0] ["step","far"] [none,none] (rb (K:=K) rfl rfl T.zip0 (fac (bo (K:=K) (i:=0) rfl A_Fresh_elder rfl (.inl rfl) rfl rfl rfl) (fac (fv 1) aa)) rfl rfl) (λ_ _ _ _ _=>(eA (K:=K) rfl rfl (bb (fgn 0 [0,0] (ndk ["step","far"])) (bb (fgn 1 [0,0] (ndk ["step","far"])) dy rfl) rfl) gx rfl rfl)) (λ_ _ _ _ _=>bG) (λ_ _ _ _ _=>(fnn Cf hr (fac (fv 0) (fac (fv 1) aa)))))) aa))))
def bF(T:Bl mg)(bE:KnM P w K mg base k "Tally" "by_first" ["self","number","mind","many"] (spF K [5,0,0,0] 3 (aD self)))(sf:KnM P w K mg base k "Fresh" "passes" ["self","mind"] (spF K [0,0] 3 cF))(A_Tally_step:AtC K "Tally" "step")(A_Tally_sieve:AtC K "Tally" "sieve")(A_Tally_known:AtC K "Tally" "known")(F:Fun K "many_from" "Tally.many_from" fF f fd):FnOk P w K mg base CX0 (k+1) f fd ["self","number","mind"] (spF K [5,0,0] 3 (fnF 0 [5,0,0] (cw self))):=
 F.okR mK ⟨[0],[5,0,0],3,[]⟩ [5,0,0] λnd _ _ _ _ _ _ hr=>(af (aH (ds2:=[5,0,0]) (aJ zR (fv 2) dz (aV _)) (frt ag) aE) (af (aH (ds2:=[5,0,0]) (fte rfl hr.units (fv 1) (fln rfl T.len0 (fac (bo (K:=K) (i:=0) rfl A_Tally_step rfl (.inl rfl) rfl rfl rfl) aa))) (frt (wf (bA (hG (p1:=false) (p2:=false) sf hr (bo (K:=K) (i:=0) rfl A_Tally_sieve rfl (.inl rfl) rfl rfl rfl) (fac (fv 2) aa) rfl ⟨_,rfl⟩ rfl rfl) (λ_=>rfl)) ag ag)) aE) (af (aH (ds2:=[5,0,0]) (BF (K:=K) (i:=0) rfl A_Tally_known (hu8 hr) rfl (.inl rfl) (ftu 0 0 (fac (fv 1) (fac (fv 2) aa))) rfl rfl rfl rfl (by with_unfolding_all rfl)) (au (zM (K:=K) (i:=0) rfl A_Tally_known (hu8 hr) rfl (.inl rfl) (fs0 (b8 (i:=0) bE hr rfl (.inl rfl) (fac (fv 1) (fac (fv 2) (fac (fs0 (fln rfl T.len0 (fac (bg (cL (K:=K) rfl) (bo (K:=K) (i:=0) rfl A_Tally_step rfl (.inl rfl) rfl rfl rfl) (fv 1) (λ_ _=>rfl)) aa))) aa))) rfl ⟨_,rfl⟩ rfl rfl rfl rfl)) (ftu 0 0 (fac (fv 1) (fac (fv 2) aa))) rfl rfl rfl rfl rfl)) aE) (frt (BM (K:=K) (i:=0) rfl A_Tally_known (hu8 hr) rfl (.inl rfl) (ftu 0 0 (fac (fv 1) (fac (fv 2) aa))) rfl (λ_ _=>rfl) rfl rfl rfl)))))
def nM(T:Bl mg)(A_Fresh_elder:AtC K "Fresh" "elder")(F:Fun K "at_first" "Fresh.at_first" gb f fd):FnOk P w K mg base CX0 (k+1) f fd ["self"] (spF K [0] 0 bc):=
 F.okR ny ⟨[],[0],0,[]⟩ [0] λnd _ _ _ _ _ _ hr=>(frt (fct (fw (K:=K) rfl) T.tuple0 (by decide +kernel) (fac (fs0 (flc 3 [0] ["step"] [none] (aZ (K:=K) rfl (bo (K:=K) (i:=0) rfl A_Fresh_elder rfl (.inl rfl) rfl rfl rfl)) (λ_ _ _ _ _=>(fgn 0 [0] (ndk ["step"]))) (λ_ _ _ _ _=>bG) (λ_ _ _ _ _=>(ftu 3 3 (fac ag (fac ck aa)))))) aa)))
def rY(T:Bl mg)(fG:KnM P w K mg base k "Tally" "many_from" ["self","number","mind"] (spF K [5,0,0] 3 (aj 6)))(cO:KnM P w K mg base k "Fresh" "at_first" ["self"] (spF K [0] 0 bc))(A_Tally_sieve:AtC K "Tally" "sieve")(F:Fun K "whole" "Tally.whole" iY f fd):FnOk P w K mg base CX0 (k+1) f fd ["self"] (spF K [5] 3 bq):=
 F.okR rT ⟨[0],[5],3,[]⟩ [5] λnd _ _ _ _ _ _ hr=>(frt (b8 (i:=0) fG hr rfl (.inl rfl) (fac (fs0 ag) (fac (fU (p1:=false) cO hr (bo (K:=K) (i:=0) rfl A_Tally_sieve rfl (.inl rfl) rfl rfl rfl) rfl ⟨_,rfl⟩) aa)) rfl ⟨_,rfl⟩ rfl rfl rfl rfl))
def rV(T:Bl mg)(GC_Tally:KnC P w K mg base k "Tally" ["step","sieve"] true)(GC_Fresh:KnC P w K mg base k "Fresh" ["elder"] false)(F:Fun K "fresh_words" "fresh_words" iW f fd):FnOk P w K mg base CX0 (k+1) f fd ["plan","number"] (spF K [0,0] 5 bP):=
 F.okR rQ ⟨[],[0,0],5,[]⟩ [0,0] λnd _ _ _ _ _ _ hr=>(frt (rg GC_Tally hr rfl (fac (bg (cL (K:=K) rfl) (fv 0) (fv 1) (λ_ _=>rfl)) (fac (rg GC_Fresh hr rfl (fac (aW (fK (K:=K) rfl) (fv 0) bi (aX (fv 1))) aa) rfl rfl rfl rfl rfl) aa)) rfl rfl rfl rfl rfl))
def wZ(T:Bl mg)(de:KnM P w K mg base k "Tally" "whole" ["self"] (spF K [5] 3 bq))(db:fq P w K mg base k)(F:Fun K "how_many" "how_many" jn f fd):FnOk P w K mg base CX0 (k+1) f fd ["plan"] (spF K [0] 3 fM):=
 F.okR wN ⟨[],[0],3,[]⟩ [0] λnd _ _ _ _ _ _ hr=>(frt (fcb (uh (K:=K) rfl rfl) T.sum0 (by decide +kernel) (fac (fs0 (nU (cd:=3) (d:=3) (dsi:=[0,0]) (lk:=[1]) (BlkOkC.of (ns:=["number","plan"]) (js:=[none,some 0]) (N0:=rJ) (sc0:=am jn) rfl rfl (by decide +kernel)) rfl (cM rfl T.range0 (fac (fs0 (fln rfl T.len0 (fac (fvc 0) aa))) aa) rfl) (λ_ _ _ _ _=>(fgn 0 [0,0] (ndk ["number","plan"]))) (λ_ _ _ _ _=>bG) (λ_ _ _ _ _=>(fU (p1:=false) de hr (fnn db hr (fac (fvc 1) (fac (fv 0) aa))) rfl ⟨_,rfl⟩)) rfl rfl (by decide) rfl (λ_=>rfl))) aa)))
def u6(T:Bl mg)(jJ:iZ P w K mg base k)(F:Fun K "places_in" "places_in" kJ f fd):FnOk P w K mg base CX0 (k+1) f fd ["step","word"] (spF K [0,0] 3 eT):=
 F.okR uS ⟨[],[0,0,0,0],3,[]⟩ [0,0,0,0] λnd _ _ _ _ _ _ hr=>(af (ax 2 [0,0,0,0] nd (fnn jJ hr (fac (aW (fK (K:=K) rfl) (fv 0) bi (aX (dI ff ag))) (fac (fv 1) aa)))) (af (ax 3 [0,0,0,0] nd (fs0 (aW fT (fv 1) (aX (fln rfl T.len0 (fac (fs0 (fjn (fac (fv 2) aa))) aa))) bi))) (af (aH (ds2:=[0,0,0,0]) (qpt (gy (aJ pf (fln rfl T.len0 (fac (fv 2) aa)) (aq fR (fln rfl T.len0 (fac (fv 0) aa)) ag) (aV _)) (gA (aJ (ui (K:=K) rfl hr.units) (fv 3) (bg (cL (K:=K) rfl) (fv 0) (dI ff ag) (λ_ _=>rfl)) (by with_unfolding_all rfl))))) (frt dz) aE) (frt (flc 3 [0,0] ["part","one"] [none,none] (re (K:=K) rfl rfl T.zip0 (fac (fv 0) (fac (fs0 (aq (qA (K:=K) rfl) (fv 2) (fls 1 0 (fac (fv 3) aa)))) aa)) rfl rfl) (λ_ _ _ _ _=>(eA (K:=K) rfl rfl (bb (fgn 0 [0,0] (ndk ["part","one"])) (bb (fgn 1 [0,0] (ndk ["part","one"])) dy rfl) rfl) gx rfl rfl)) (λ_ _ _ _ _=>bG) (λ_ _ _ _ _=>(xI (K:=K) rfl hr.units (fv 0) (fv 1) rfl rfl rfl rfl rfl)))))))
def nL(T:Bl mg)(cO:KnM P w K mg base k "Fresh" "at_first" ["self"] (spF K [0] 0 bc))(df:KnM P w K mg base k "Fresh" "further" ["self","mind","word"] (spF K [0,0,0] 0 bh))(bE:KnM P w K mg base k "Tally" "by_first" ["self","number","mind","many"] (spF K [5,0,0,0] 3 (aD (aj 6))))(A_Tally_sieve:AtC K "Tally" "sieve")(A_Tally_step:AtC K "Tally" "step")(F:Fun K "ahead_of" "Tally.ahead_of" ga f fd):FnOk P w K mg base CX0 (k+1) f fd ["self","places"] (spF K [5,0] 0 bT):=
 F.okR nw ⟨[0],[5,0,0,0,0,0],0,[]⟩ [5,0,0,0,0,0] λnd _ _ _ _ _ _ hr=>(af (ax 2 [5,0,0,0,0,0] nd (fs0 ag)) (af (ax 3 [5,0,0,0,0,0] nd (fU (p1:=false) cO hr (bo (K:=K) (i:=0) rfl A_Tally_sieve rfl (.inl rfl) rfl rfl rfl) rfl ⟨_,rfl⟩)) (af (aR (ds1:=[5,0,0,0,0,0]) rfl (lK (K:=K) rfl rfl T.enumerate0 (fac (fv 1) aa) rfl) (eA (K:=K) rfl rfl (bb (fgn 4 [5,0,0,0,0,0] nd) (bb (fgn 5 [5,0,0,0,0,0] nd) dy rfl) rfl) gx rfl rfl) (af (ax 2 [5,0,0,0,0,0] nd (fs0 (aq aT (fv 2) (b8 (i:=0) bE hr rfl (.inl rfl) (fac (fv 4) (fac (fv 3) (fac (fv 5) aa))) rfl ⟨_,rfl⟩ rfl rfl rfl rfl)))) (au (ax 3 [5,0,0,0,0,0] nd (hG (p1:=false) (p2:=false) df hr (bo (K:=K) (i:=0) rfl A_Tally_sieve rfl (.inl rfl) rfl rfl rfl) (fac (fv 3) (fac (bg (cL (K:=K) rfl) (bg (cL (K:=K) rfl) (bo (K:=K) (i:=0) rfl A_Tally_step rfl (.inl rfl) rfl rfl rfl) (fv 4) (λ_ _=>rfl)) (fv 5) (λ_ _=>rfl)) aa)) rfl ⟨_,rfl⟩ rfl rfl)))) PassesOwn.never (λ_=>rfl)) (frt (fv 2)))))
def FE(T:Bl mg)(ye:m6 P w K mg base k)(de:KnM P w K mg base k "Tally" "whole" ["self"] (spF K [5] 3 bq))(pQ:KnM P w K mg base k "Tally" "ahead_of" ["self","places"] (spF K [5,0] 0 bT))(db:fq P w K mg base k)(F:Fun K "place" "place" uH f fd):FnOk P w K mg base CX0 (k+1) f fd ["plan","word"] (spF K [0,0] 3 i8):=
 F.okR Fc ⟨[],[0,0,0,0,0,0],3,[]⟩ [0,0,0,0,0,0] λnd _ _ _ _ _ _ hr=>(af (ax 2 [0,0,0,0,0,0] nd (fs0 ag)) (af (aR (ds1:=[0,0,0,0,0,0]) rfl (lK (K:=K) rfl rfl T.enumerate0 (fac (fv 0) aa) rfl) (eA (K:=K) rfl rfl (bb (fgn 3 [0,0,0,0,0,0] nd) (bb (fgn 4 [0,0,0,0,0,0] nd) dy rfl) rfl) gx rfl rfl) (af (ax 5 [0,0,0,0,0,0] nd (fs0 (fnn ye hr (fac (fv 4) (fac (fv 1) aa))))) (af (aH (ds2:=[0,0,0,0,0,0]) (aJ qz (fv 5) dz (aV _)) (frt (aq aT (fv 2) (hG (p1:=false) (p2:=false) pQ hr (fnn db hr (fac (fv 0) (fac (fv 3) aa))) (fac (fv 5) aa) rfl ⟨_,rfl⟩ rfl rfl))) aE) (au (ax 2 [0,0,0,0,0,0] nd (fs0 (aq aT (fv 2) (fU (p1:=false) de hr (fnn db hr (fac (fv 0) (fac (fv 3) aa))) rfl ⟨_,rfl⟩))))))) PassesOwn.never (λ_=>rfl)) (frt dz)))
def kf(T:Bl mg)(bE:KnM P w K mg base k "Tally" "by_first" ["self","number","mind","many"] (spF K [5,0,0,0] 3 (aD (aj 6))))(F:Fun K "place_within" "Tally.place_within" dP f fd):FnOk P w K mg base CX0 (k+1) f fd ["self","number","mind","left"] (spF K [5,0,0,0] 0 bv):=
 F.okR ka ⟨[0],[5,0,0,0,0],0,[]⟩ [5,0,0,0,0] λnd _ _ _ _ _ _ hr=>(af (ax 4 [5,0,0,0,0] nd (fs0 ag)) (af (mW (ds:=[5,0,0,0,0]) (aJ EQ (fv 3) (b8 (i:=0) bE hr rfl (.inl rfl) (fac (fv 1) (fac (fv 2) (fac (fs0 (aq aT (fv 4) ag)) aa))) rfl ⟨_,rfl⟩ rfl rfl rfl rfl) (aV _)) (au (ax 4 [5,0,0,0,0] nd (fs0 (aq aT (fv 4) ag)))) PassesOwn.never) (frt (fv 4))))
def mL(T:Bl mg)(cO:KnM P w K mg base k "Fresh" "at_first" ["self"] (spF K [0] 0 bc))(k9:KnM P w K mg base k "Tally" "place_within" ["self","number","mind","left"] (spF K [5,0,0,0] 0 bv))(df:KnM P w K mg base k "Fresh" "further" ["self","mind","word"] (spF K [0,0,0] 0 bh))(bE:KnM P w K mg base k "Tally" "by_first" ["self","number","mind","many"] (spF K [5,0,0,0] 3 (aD (aj 6))))(A_Tally_sieve:AtC K "Tally" "sieve")(A_Tally_step:AtC K "Tally" "step")(F:Fun K "places_at" "Tally.places_at" fE f fd):FnOk P w K mg base CX0 (k+1) f fd ["self","number"] (spF K [5,0] 0 bK):=
 F.okR mJ ⟨[0],[5,0,0,0,0,0,0],0,[]⟩ [5,0,0,0,0,0,0] λnd _ _ _ _ _ _ hr=>(af (ax 2 [5,0,1,0,0,0,0] nd (bz (d':=1) (fls 3 3 aa) (by decide))) (af (ax 3 [5,0,1,0,0,0,0] nd (fU (p1:=false) cO hr (bo (K:=K) (i:=0) rfl A_Tally_sieve rfl (.inl rfl) rfl rfl rfl) rfl ⟨_,rfl⟩)) (af (ax 4 [5,0,1,0,0,0,0] nd (fv 1)) (af (aR (ds1:=[5,0,1,0,0,0,0]) rfl (aZ (K:=K) rfl (bo (K:=K) (i:=0) rfl A_Tally_step rfl (.inl rfl) rfl rfl rfl)) (fgn 5 [5,0,1,0,0,0,0] nd) (af (ax 6 [5,0,1,0,0,0,0] nd (b8 (i:=0) k9 hr rfl (.inl rfl) (fac (fs0 (gB (ds0:=[5,0,0,0,0,0,0]) (fln rfl T.len0 (fac (fv 2) aa)) rfl)) (fac (fv 3) (fac (fv 4) aa))) rfl ⟨_,rfl⟩ rfl rfl rfl rfl)) (af (ax 4 [5,0,1,0,0,0,0] nd (fs0 (aq fR (fv 4) (b8 (i:=0) bE hr rfl (.inl rfl) (fac (fs0 (gB (ds0:=[5,0,0,0,0,0,0]) (fln rfl T.len0 (fac (fv 2) aa)) rfl)) (fac (fv 3) (fac (fv 6) aa))) rfl ⟨_,rfl⟩ rfl rfl rfl rfl)))) (af (ax 3 [5,0,1,0,0,0,0] nd (hG (p1:=false) (p2:=false) df hr (bo (K:=K) (i:=0) rfl A_Tally_sieve rfl (.inl rfl) rfl rfl rfl) (fac (fv 3) (fac (bg (cL (K:=K) rfl) (fv 5) (fv 6) (λ_ _=>rfl)) aa)) rfl ⟨_,rfl⟩ rfl rfl)) (au (cK (fap 2 1 (fv 6)) rfl))))) PassesOwn.never (λ_=>rfl)) (frt (dJ (ds0:=[5,0,0,0,0,0,0]) (bW (p:=false) (i:=2) rfl (.inl rfl) rfl rfl rfl) rfl))))))
def A0(T:Bl mg)(db:fq P w K mg base k)(Ar:pH P w K mg base k)(de:KnM P w K mg base k "Tally" "whole" ["self"] (spF K [5] 3 bq))(on:KnM P w K mg base k "Tally" "places_at" ["self","number"] (spF K [5,0] 0 bK))(F:Fun K "try_at" "try_at" qL f fd):FnOk P w K mg base CX0 (k+1) f fd ["plan","number"] (spF K [0,0] 3 j5):=
 F.okR AK ⟨[],[0,0,0,0,0,0],3,[]⟩ [0,0,0,0,0,0] λnd _ _ _ _ _ _ hr=>(af (aH (ds2:=[0,0,0,0,0,0]) (qpt (gy (fI (bA (fnn Ar hr (fac (fv 1) aa)) (λ_=>rfl))) (gA (aJ pf (fv 1) ag (aV _))))) (au mX) aE) (af (ax 2 [0,0,0,0,0,0] nd (fv 1)) (af (aR (ds1:=[0,0,0,0,0,0]) rfl (lK (K:=K) rfl rfl T.enumerate0 (fac (fv 0) aa) rfl) (eA (K:=K) rfl rfl (bb (fgn 3 [0,0,0,0,0,0] nd) (bb (fgn 4 [0,0,0,0,0,0] nd) dy rfl) rfl) gx rfl rfl) (lH (ds2:=[0,0,0,0,0,5]) (af (ax 5 [0,0,0,0,0,5] nd (fnn db hr (fac (fv 0) (fac (fv 3) aa)))) (af (aH (ds2:=[0,0,0,0,0,5]) (aJ pf (fv 2) (mY (i:=5) de hr rfl (.inl rfl) rfl ⟨_,rfl⟩ rfl rfl) (aV _)) (frt (fjn (fac (fs0 (flc 1 [0,0] ["part","there"] [none,none] (re (K:=K) rfl rfl T.zip0 (fac (fv 4) (fac (b8 (i:=5) on hr rfl (.inl rfl) (fac (fv 2) aa) rfl ⟨_,rfl⟩ rfl rfl rfl rfl) aa)) rfl rfl) (λ_ _ _ _ _=>(eA (K:=K) rfl rfl (bb (fgn 0 [0,0] (ndk ["part","there"])) (bb (fgn 1 [0,0] (ndk ["part","there"])) dy rfl) rfl) gx rfl rfl)) (λ_ _ _ _ _=>bG) (λ_ _ _ _ _=>(bg (cL (K:=K) rfl) (fv 0) (fv 1) (λ_ _=>rfl))))) aa))) aE) (au (ax 2 [0,0,0,0,0,5] nd (fs0 (aq fR (fv 2) (mY (i:=5) de hr rfl (.inl rfl) rfl ⟨_,rfl⟩ rfl rfl))))))) rfl) PassesOwn.never (λ_=>rfl)) (au mX))))
def w6(T:Bl mg)(F:Fun K "_law_pen" "_law_pen" lX f fd):FnOk P w K mg base CX0 (k+1) f fd ["_law_script","_law_k"] (spF K [0,0] 3 F_law_pen):=
 F.okR wP ⟨[],[0,0,0],3,[]⟩ [0,0,0] λnd _ _ _ _ _ _ hr=>(af (ax 2 [0,0,0] nd (fs0 (aq aT (aq iS ag (fv 1)) ag))) (af (aH (ds2:=[0,0,0]) (aJ pf (fv 1) (fln rfl T.len0 (fac (fv 0) aa)) (aV _)) (au (ax 2 [0,0,0] nd (bg (cL (K:=K) rfl) (fv 0) (fv 1) (λ_ _=>rfl)))) (au (aH (ds2:=[0,0,0]) (aJ iC (fln rfl T.len0 (fac (fv 0) aa)) ag (aV _)) (au (ax 2 [0,0,0] nd (fs0 (aq aT (aq fS (bg (cL (K:=K) rfl) (fv 0) (aq fS (fv 1) (fln rfl T.len0 (fac (fv 0) aa))) (λ_ _=>rfl)) ag) (aq iS ag (fv 1)))))) aE))) (af (aH (ds2:=[0,0,0]) (aJ EQ (fv 2) (aq zQ ag ag) (aV _)) (frt (fls 3 3 (fac (aq fR (fv 2) (aq zQ ag ag)) (fac (aq fS (fv 2) ag) (fac ag aa))))) aE) (frt (fls 3 3 (fac ag (fac (aq fS (fv 2) ag) (fac ag aa))))))))
def vc(T:Bl mg)(F:Fun K "_law_draw" "_law_draw" kR f fd):FnOk P w K mg base CX0 (k+1) f fd ["_law_pen_here","_law_many"] (spF K [1,0] 0 F_law_draw):=
 F.okR uY ⟨[0],[1,0,0,0],0,[]⟩ [1,0,0,0] λnd _ _ _ _ _ _ hr=>(af (kA (i:=0) (d:=1) (c:=0) rfl (.inl rfl) (fs0 (aq aT (fy (K:=K) (i:=0) rfl rfl (.inl rfl) rfl ag (λ_ _=>rfl) rfl rfl) ag)) ag rfl (by decide) rfl rfl rfl (λ_=>rfl) rfl rfl rfl) (af (aH (ds2:=[1,0,0,0]) (aJ iC (fy (K:=K) (i:=0) rfl rfl (.inl rfl) rfl ag (λ_ _=>rfl) rfl rfl) ag (aV _)) (af (ax 2 [1,0,0,0] nd (fs0 (aq fS (fy (K:=K) (i:=0) rfl rfl (.inl rfl) rfl ag (λ_ _=>rfl) rfl rfl) (fv 1)))) (af (kA (i:=0) (d:=1) (c:=0) rfl (.inl rfl) (fs0 (aq wd (fy (K:=K) (i:=0) rfl rfl (.inl rfl) rfl ag (λ_ _=>rfl) rfl rfl) (fv 1))) ag rfl (by decide) rfl rfl rfl (λ_=>rfl) rfl rfl rfl) (frt (fv 2)))) aE) (af (ax 3 [1,0,0,0] nd (fs0 (aq fS (aq aT (aq aT (fy (K:=K) (i:=0) rfl rfl (.inl rfl) rfl ag (λ_ _=>rfl) rfl rfl) (aq iS ag (fy (K:=K) (i:=0) rfl rfl (.inl rfl) rfl ag (λ_ _=>rfl) rfl rfl))) ag) ag))) (af (ax 3 [1,0,0,0] nd (fs0 (aq aT (aq fS (aq iS (fv 3) (fv 3)) ag) (aq iS ag (fy (K:=K) (i:=0) rfl rfl (.inl rfl) rfl ag (λ_ _=>rfl) rfl rfl))))) (af (ax 3 [1,0,0,0] nd (fs0 (aq fS (aq iS (fv 3) (fv 3)) ag))) (frt (fs0 (aq fS (aq wd (fv 3) ag) (fv 1)))))))))
def rW(T:Bl mg)(aM:cP P w K mg base k)(F:Fun K "_law_tongue" "_law_tongue" fZ f fd):FnOk P w K mg base CX0 (k+1) f fd ["_law_pen_here","_law_most"] (spF K [1,0] 0 eI):=
 F.okR rR ⟨[0],[1,0,0,0,0,0,0,0,0,0],0,[]⟩ [1,0,0,0,0,0,0,0,0,0] λnd _ _ _ _ _ _ hr=>(af (ax 2 [1,0,0,0,0,0,0,0,0,0] nd (fs0 ck)) (af (ax 3 [1,0,0,0,0,0,0,0,0,0] nd (fs0 (aq aT ag (fns aM hr (kx 0 (fac (fs0 ag) aa)))))) (af (zN (ds1:=[1,0,0,0,1,0,0,0,0,0]) (vh (i:=4) (ds':=[1,0,0,0,3,0,0,0,0,0]) (cd:=3) (d:=3) (dsi:=[0,1,0]) (lk:=[1,2]) nd rfl rfl (BlkOkC.of (ns:=["_law_k","_law_pen_here","_law_most"]) (js:=[none,some 0,some 1]) (N0:=l7) (sc0:=am fZ) rfl rfl (by decide +kernel)) rfl (cM rfl T.range0 (fac (fv 3) aa) rfl) (λ_ _ _ _ _=>(fgn 0 [0,1,0] (ndk ["_law_k","_law_pen_here","_law_most"]))) (λ_ _ _ _ _=>bG) (λ_ _ _ _ _=>(aq aT ag (fns aM hr (kx 1 (fac (fvc 2) aa))))) rfl rfl rfl (by decide) rfl (by decide) (by decide) rfl (λ_=>rfl)) rfl) (af (aH (ds2:=[1,0,0,0,1,0,0,0,0,0]) (qpt (iR (fte rfl hr.units (fvc 1) ag) (gY (fte rfl hr.units (fns aM hr (kx 0 (fac (fs0 ag) aa))) ag)))) (au (ax 4 [1,0,0,0,1,0,0,0,0,0] nd (bz (d':=1) (BO (K:=K) rfl (fls 3 3 (fac (fls 3 3 (fac ag (fac ag aa))) (fac (fls 3 3 (fac ag (fac ag (fac ag aa)))) (fac (fls 3 3 (fac ag (fac ag (fac ag (fac ag aa))))) (fac (fls 3 3 (fac ag (fac ag (fac ag aa)))) aa))))) (fns aM hr (kx 0 (fac (fs0 ag) aa))) (λ_ _=>rfl) (by decide)) (by decide)))) aE) (af (mW (ds:=[1,0,0,0,1,0,0,0,0,0]) (qZ (ds0:=[1,0,0,0,0,0,0,0,0,0]) (aJ iC (fcb (uh (K:=K) rfl rfl) T.sum0 (by decide +kernel) (fac (fv 4) aa)) ag (aV _)) rfl) (au (kA (i:=4) (d:=1) (c:=0) rfl (.inl rfl) (fs0 (gB (ds0:=[1,0,0,0,0,0,0,0,0,0]) (aq fR (fcb (wc (K:=K) rfl rfl) T.max0 (by decide +kernel) (fac (fv 4) aa)) ag) rfl)) (gB (ds0:=[1,0,0,0,0,0,0,0,0,0]) (vj (K:=K) rfl (fv 4) (fcb (wc (K:=K) rfl rfl) T.max0 (by decide +kernel) (fac (fv 4) aa)) rfl rfl rfl rfl rfl) rfl) rfl (by decide) rfl rfl rfl (λ_=>rfl) rfl rfl rfl)) PassesOwn.never) (af (ax 5 [1,0,0,0,1,1,0,0,0,0] nd (bz (d':=1) (fls 3 3 aa) (by decide))) (af (aR (ds1:=[1,0,0,0,0,1,0,0,0,0]) rfl (aZ (K:=K) rfl (dJ (ds0:=[1,0,0,0,0,1,0,0,0,0]) (bW (p:=false) (i:=4) rfl (.inl rfl) rfl rfl rfl) rfl)) (fgn 6 [1,0,0,0,0,1,0,0,0,0] nd) (af (ax 7 [1,0,0,0,0,1,0,0,0,0] nd (fs0 ck)) (af (aR (ds1:=[1,0,0,0,0,1,0,0,0,0]) rfl (cM rfl T.range0 (fac (fv 6) aa) rfl) (fgn 8 [1,0,0,0,0,1,0,0,0,0] nd) (af (ax 9 [1,0,0,0,0,1,0,0,0,0] nd (fns aM hr (kx 0 (fac (fs0 (fln rfl T.len0 (fac (fv 2) aa))) aa)))) (af (ax 7 [1,0,0,0,0,1,0,0,0,0] nd (fs0 (aq aT (fv 7) (bg ph (fv 2) (fv 9) (λ_ _=>rfl))))) (au (ax 2 [1,0,0,0,0,1,0,0,0,0] nd (fs0 (aq aT (aW fT (fv 2) bi (aX (fv 9))) (aW fT (fv 2) (aX (aq aT (fv 9) ag)) bi))))))) PassesOwn.never (λ_=>rfl)) (au (cK (fap 5 1 (fv 7)) rfl)))) PassesOwn.never (λ_=>rfl)) (frt (fct (fw (K:=K) rfl) T.tuple0 (by decide +kernel) (fac (dJ (ds0:=[1,0,0,0,0,0,0,0,0,0]) (bW (p:=false) (i:=5) rfl (.inl rfl) rfl rfl rfl) rfl) aa))))))))))
def u7(T:Bl mg)(aM:cP P w K mg base k)(F:Fun K "_law_text" "_law_text" kK f fd):FnOk P w K mg base CX0 (k+1) f fd ["_law_pen_here","_law_tongue_here","_law_most"] (spF K [1,0,0] 0 eU):=
 F.okR uT ⟨[0],[1,0,0,0,0,0,0,0],0,[]⟩ [1,0,0,0,0,0,0,0] λnd _ _ _ _ _ _ hr=>(af (ax 3 [1,0,0,0,0,0,0,0] nd (fs0 (fjn (fac (fv 1) aa)))) (af (ax 4 [1,0,0,0,0,0,0,0] nd (fs0 (bg ph (fv 3) (fns aM hr (fsl 0 (fac (fs0 (fln rfl T.len0 (fac (fv 3) aa))) aa))) (λ_ _=>rfl)))) (af (ax 5 [1,0,0,0,0,0,0,0] nd (fs0 (eB (mE (K:=K) rfl hr.units) (fns aM hr (fsl 0 (fac (fs0 ag) aa))) ag (aV _)))) (af (aR (ds1:=[1,0,0,0,0,0,0,0]) rfl (cM rfl T.range0 (fac (fns aM hr (fsl 0 (fac (fv 2) aa))) aa) rfl) (fgn 6 [1,0,0,0,0,0,0,0] nd) (af (ax 7 [1,0,0,0,0,0,0,0] nd (fs0 (bg ph (fv 3) (fns aM hr (fsl 0 (fac (fs0 (fln rfl T.len0 (fac (fv 3) aa))) aa))) (λ_ _=>rfl)))) (af (aH (ds2:=[1,0,0,0,0,0,0,0]) (bA (fv 5) (λ_=>rfl)) (au (ax 7 [1,0,0,0,0,0,0,0] nd (fs0 (bg ph (fv 4) ag (λ_ _=>rfl))))) aE) (au (ax 4 [1,0,0,0,0,0,0,0] nd (fs0 (aq aT (fv 4) (fv 7))))))) PassesOwn.never (λ_=>rfl)) (frt (fv 4))))))
def va(T:Bl mg)(kU:jF P w K mg base k)(F:Fun K "_law_part" "_law_part" kP f fd):FnOk P w K mg base CX0 (k+1) f fd ["_law_pen_here","_law_tongue_here","_law_most","_law_size","_law_free"] (spF K [1,0,0,0,0] 0 eV):=
 F.okR uW ⟨[0],[1,0,0,0,0,0,0,0,0],0,[]⟩ [1,0,0,0,0,0,0,0,0] λnd _ _ _ _ _ _ hr=>(af (ax 5 [1,0,0,0,0,1,0,0,0] nd (bz (d':=1) (fls 3 3 aa) (by decide))) (af (aR (ds1:=[1,0,0,0,0,1,0,0,0]) rfl (cM rfl T.range0 (fac (fv 2) aa) rfl) (fgn 6 [1,0,0,0,0,1,0,0,0] nd) (af (fJ (i:=7) (d:=0) (ds':=[1,0,0,0,0,1,0,0,0]) nd rfl (.inr rfl) (fns kU hr (fsl 0 (fac (fv 1) (fac (fv 3) aa)))) rfl (by decide) (by decide) rfl (.inl rfl)) (af (ax 8 [1,0,0,0,0,1,0,0,0] nd (fs0 (gB (ds0:=[1,0,0,0,0,0,0,0,0]) (eB (ui (K:=K) rfl hr.units) (fvc 7) (fv 5) (by with_unfolding_all rfl)) rfl))) (af (aH (ds2:=[1,0,0,0,0,1,0,0,0]) (fI (bA (fv 4) (λ_=>rfl))) (au (ax 8 [1,0,0,0,0,1,0,0,0] nd (fs0 (gB (ds0:=[1,0,0,0,0,0,0,0,0]) (eB (mE (K:=K) rfl hr.units) (flc 1 [0,0] ["_law_one","_law_word"] [none,some 7] (aZ (K:=K) rfl (fv 5)) (λ_ _ _ _ _=>(fgn 0 [0,0] (ndk ["_law_one","_law_word"]))) (λ_ _ _ _ _=>(lG (qpt (gy (bA (gZ (K:=K) rfl PySem.F.slot_str_startswith PySem.F.type_str_startswith je jh (fv 0) (fac (fvc 1) aa) rfl rfl rfl rfl rfl rfl) (λ_=>rfl)) (gA (bA (gZ (K:=K) rfl PySem.F.slot_str_startswith PySem.F.type_str_startswith je jh (fvc 1) (fac (fv 0) aa) rfl rfl rfl rfl rfl rfl) (λ_=>rfl))))))) (λ_ _ _ _ _=>(fv 0))) (fls 3 3 aa) (aV _)) rfl)))) aE) (au (aH (ds2:=[1,0,0,0,0,1,0,0,0]) (bA (fv 8) (λ_=>rfl)) (au (cK (fap 5 1 (fvc 7)) rfl)) aE))))) PassesOwn.never (λ_=>rfl)) (frt (fct (fw (K:=K) rfl) T.tuple0 (by decide +kernel) (fac (dJ (ds0:=[1,0,0,0,0,0,0,0,0]) (bW (p:=false) (i:=5) rfl (.inl rfl) rfl rfl rfl) rfl) aa)))))
def u8(T:Bl mg)(aM:cP P w K mg base k)(kW:jG P w K mg base k)(F:Fun K "_law_step" "_law_step" kL f fd):FnOk P w K mg base CX0 (k+1) f fd ["_law_pen_here","_law_tongue_here","_law_parts","_law_most","_law_size"] (spF K [1,0,0,0,0] 0 gc):=
 F.okR uU ⟨[0],[1,0,0,0,0,0,0,0,0],0,[]⟩ [1,0,0,0,0,0,0,0,0] λnd _ _ _ _ _ _ hr=>(af (ax 5 [1,0,0,0,0,0,0,0,0] nd (fs0 (aq aT ag (fns aM hr (fsl 0 (fac (fv 2) aa)))))) (af (ax 6 [1,0,0,0,0,0,1,0,0] nd (bz (d':=1) (fls 3 3 aa) (by decide))) (af (aR (ds1:=[1,0,0,0,0,0,1,0,0]) rfl (cM rfl T.range0 (fac (fv 5) aa) rfl) (fgn 7 [1,0,0,0,0,0,1,0,0] nd) (af (ax 8 [1,0,0,0,0,0,1,0,0] nd (fs0 (aq aT ag (fns aM hr (fsl 0 (fac (fv 4) aa)))))) (au (cK (fap 6 1 (fns kW hr (fsl 0 (fac (fv 1) (fac (fns aM hr (fsl 0 (fac (fs0 (aq aT (fv 3) ag)) aa))) (fac (fv 8) (fac (fs0 (eB (mE (K:=K) rfl hr.units) (fv 7) (aq fR (fv 5) ag) (aV _))) aa))))))) rfl))) PassesOwn.never (λ_=>rfl)) (frt (fct (fw (K:=K) rfl) T.tuple0 (by decide +kernel) (fac (dJ (ds0:=[1,0,0,0,0,0,0,0,0]) (bW (p:=false) (i:=6) rfl (.inl rfl) rfl rfl rfl) rfl) aa))))))
def rX(T:Bl mg)(F:Fun K "_law_merged" "_law_merged" iX f fd):FnOk P w K mg base CX0 (k+1) f fd ["_law_step_here"] (spF K [0] 0 cu):=
 F.okR rS ⟨[],[0,0,0],0,[]⟩ [0,0,0] λnd _ _ _ _ _ _ hr=>(af (aH (ds2:=[0,0,0]) (qpt (gy (aJ pf (fln rfl T.len0 (fac (fv 0) aa)) ag (aV _)) (gA (aJ iC (aq iS (fln rfl T.len0 (fac (fxi rfl (fv 0)) aa)) (fln rfl T.len0 (fac (fxi rfl (fv 0)) aa))) ag (aV _))))) (frt (fv 0)) aE) (af (ax 1 [0,1,0] nd (bz (d':=1) (fls 3 3 aa) (by decide))) (af (aR (ds1:=[0,1,0]) rfl (aZ (K:=K) rfl (fxi rfl (fv 0))) (iD (i:=2) (ds':=[0,1,0]) nd rfl (.inr rfl) rfl (by decide) (by decide) (.inl rfl)) (au (cK (uq (K:=K) (i:=1) (d:=1) rfl rfl (.inl rfl) rfl (bz (d':=1) (flc 3 [0,0] ["_law_other","_law_one"] [none,some 2] (aZ (K:=K) rfl (fxi rfl (fv 0))) (λ_ _ _ _ _=>(fgn 0 [0,0] (ndk ["_law_other","_law_one"]))) (λ_ _ _ _ _=>(lG (aJ Lv (fln rfl T.len0 (fac (fs0 (aq aT (fvc 1) (fv 0))) aa)) ag (aV _)))) (λ_ _ _ _ _=>(aq aT (fvc 1) (fv 0)))) (by decide)) (by decide) rfl rfl rfl rfl rfl rfl rfl) rfl)) PassesOwn.never (λ_=>rfl)) (frt (aq (jT (K:=K) rfl) (ftu 0 0 (fac (fct (fw (K:=K) rfl) T.tuple0 (by decide +kernel) (fac (dJ (ds0:=[0,0,0]) (bW (p:=false) (i:=1) rfl (.inl rfl) rfl rfl rfl) rfl) aa)) aa)) (aW (fK (K:=K) rfl) (fv 0) (aX ag) bi))))))
def vb(T:Bl mg)(kU:jF P w K mg base k)(F:Fun K "_law_more" "_law_more" kQ f fd):FnOk P w K mg base CX0 (k+1) f fd ["_law_pen_here","_law_tongue_here","_law_part_here"] (spF K [1,0,0] 0 gf):=
 F.okR uX ⟨[0],[1,0,0,0],0,[]⟩ [1,0,0,0] λnd _ _ _ _ _ _ hr=>(af (ax 3 [1,0,0,0] nd (fns kU hr (fsl 0 (fac (fv 1) (fac (fs0 ag) aa))))) (af (aH (ds2:=[1,0,0,0]) (qpt (gy (aJ (xH (K:=K) rfl hr.units) (fv 3) (fv 2) (by with_unfolding_all rfl)) (gA (aJ iC (fln rfl T.len0 (fac (fv 2) aa)) ag (aV _))))) (frt (fs0 (ftu 3 3 aa))) aE) (frt (ftu 0 0 (fac (fv 3) aa)))))
def u9(T:Bl mg)(aM:cP P w K mg base k)(yf:m7 P w K mg base k)(uQ:kZ P w K mg base k)(kW:jG P w K mg base k)(yh:m9 P w K mg base k)(F:Fun K "_law_plan" "_law_plan" kO f fd):FnOk P w K mg base CX0 (k+1) f fd ["_law_pen_here","_law_tongue_here","_law_parts","_law_most","_law_size"] (spF K [1,0,0,0,0] 0 ge):=
 F.okR uV ⟨[0],[1,0,0,0,0,0,0,0,0,0],0,[]⟩ [1,0,0,0,0,0,0,0,0,0] λnd _ _ _ _ _ _ hr=>(af (ax 5 [1,0,0,0,0,0,0,0,0,0] nd (fs0 (ftu 3 3 aa))) (af (aR (ds1:=[1,0,0,0,0,0,0,0,0,0]) rfl (cM rfl T.range0 (fac (fns aM hr (fsl 0 (fac (fs0 ag) aa))) aa) rfl) (fgn 6 [1,0,0,0,0,0,0,0,0,0] nd) (af (ax 7 [1,0,0,0,0,0,0,0,0,0] nd (fns yf hr (fsl 0 (fac (fv 1) (fac (fv 2) (fac (fv 3) (fac (fv 4) aa))))))) (af (ax 8 [1,0,0,0,0,0,0,0,0,0] nd (fns aM hr (fsl 0 (fac (fs0 ag) aa)))) (af (aH (ds2:=[1,0,0,0,0,0,0,0,0,0]) (qpt (iR (aJ iC (fv 6) ag (aV _)) (gY (fte rfl hr.units (fv 8) ag)))) (au (ax 7 [1,0,0,0,0,0,0,0,0,0] nd (fnn uQ hr (fac (fxi rfl (fv 5)) aa)))) aE) (af (aH (ds2:=[1,0,0,0,0,0,0,0,0,0]) (qpt (iR (aJ iC (fv 6) ag (aV _)) (gY (fte rfl hr.units (fv 8) ag)))) (af (ax 9 [1,0,0,0,0,0,0,0,0,0] nd (bg (cL (K:=K) rfl) (fxi rfl (fv 5)) (dI ff ag) (λ_ _=>rfl))) (au (ax 7 [1,0,0,0,0,0,0,0,0,0] nd (aq (jT (K:=K) rfl) (aW (fK (K:=K) rfl) (fxi rfl (fv 5)) bi (aX (dI ff ag))) (ftu 0 0 (fac (aq (jT (K:=K) rfl) (rf (K:=K) rfl (fv 9) (dI ff ag)) (fns yh hr (fsl 0 (fac (fv 1) (fac (fv 9) aa))))) aa)))))) aE) (af (aH (ds2:=[1,0,0,0,0,0,0,0,0,0]) (qpt (iR (aJ iC (fv 6) ag (aV _)) (gY (fte rfl hr.units (fv 8) ag)))) (au (ax 7 [1,0,0,0,0,0,0,0,0,0] nd (fct (fw (K:=K) rfl) T.tuple0 (by decide +kernel) (fac (fs0 (flc 1 [0] ["_law_part_here"] [none] (aZ (K:=K) rfl (bg (cL (K:=K) rfl) (fv 5) (aq fR (fv 6) ag) (λ_ _=>rfl))) (λ_ _ _ _ _=>(fgn 0 [0] (ndk ["_law_part_here"]))) (λ_ _ _ _ _=>bG) (λ_ _ _ _ _=>(rf (K:=K) rfl (fv 0) (dI ff ag))))) aa)))) aE) (af (aH (ds2:=[1,0,0,0,0,0,0,0,0,0]) (qpt (iR (aJ iC (fv 6) ag (aV _)) (gY (fte rfl hr.units (fv 8) ag)))) (au (ax 7 [1,0,0,0,0,0,0,0,0,0] nd (aq (jT (K:=K) rfl) (ftu 0 0 (fac (fns kW hr (fsl 0 (fac (fv 1) (fac (fs0 ag) (fac (fs0 ag) (fac (fs0 gC) aa)))))) aa)) (aW (fK (K:=K) rfl) (fxi rfl (fv 5)) (aX ag) bi)))) aE) (au (ax 5 [1,0,0,0,0,0,0,0,0,0] nd (aq (jT (K:=K) rfl) (fv 5) (ftu 0 0 (fac (fv 7) aa))))))))))) PassesOwn.never (λ_=>rfl)) (frt (fv 5))))
def w4(T:Bl mg)(F:Fun K "_law_row" "_law_row" lW f fd):FnOk P w K mg base CX0 (k+1) f fd ["_law_plan_here"] (spF K [0] 0 ib):=
 F.okR wO ⟨[],[0,0,0,0,0,0,0,0],0,[]⟩ [0,0,0,0,0,0,0,0] λnd _ _ _ _ _ _ hr=>(af (ax 1 [0,1,0,0,0,0,0,0] nd (bz (d':=1) (fls 3 3 aa) (by decide))) (af (ax 2 [0,1,1,0,0,0,0,0] nd (bz (d':=1) zX (by decide))) (af (aR (ds1:=[0,1,1,0,0,0,0,0]) rfl (aZ (K:=K) rfl (fv 0)) (fgn 3 [0,1,1,0,0,0,0,0] nd) (af (ax 4 [0,1,1,0,0,0,0,0] nd (fs0 (fls 3 3 (fac ck aa)))) (af (aR (ds1:=[0,1,1,0,0,0,0,0]) rfl (aZ (K:=K) rfl (fv 3)) (fgn 5 [0,1,1,0,0,0,0,0] nd) (af (ax 6 [0,1,1,0,0,0,1,0] nd (bz (d':=1) (fls 3 3 aa) (by decide))) (af (aR (ds1:=[0,1,1,0,0,0,1,0]) rfl (aZ (K:=K) rfl (fv 4)) (iD (i:=7) (ds':=[0,1,1,0,0,0,1,0]) nd rfl (.inr rfl) rfl (by decide) (by decide) (.inl rfl)) (au (cK (uq (K:=K) (i:=6) (d:=1) rfl rfl (.inl rfl) rfl (bz (d':=1) (flc 3 [0,0] ["_law_other","_law_word"] [none,some 7] (aZ (K:=K) rfl (fv 5)) (λ_ _ _ _ _=>(fgn 0 [0,0] (ndk ["_law_other","_law_word"]))) (λ_ _ _ _ _=>bG) (λ_ _ _ _ _=>(aq aT (fvc 1) (fv 0)))) (by decide)) (by decide) rfl rfl rfl rfl rfl rfl rfl) rfl)) PassesOwn.never (λ_=>rfl)) (au (ax 4 [0,1,1,0,0,0,0,0] nd (dJ (ds0:=[0,1,1,0,0,0,0,0]) (bW (p:=false) (i:=6) rfl (.inl rfl) rfl rfl rfl) rfl))))) PassesOwn.never (λ_=>rfl)) (au (aR (ds1:=[0,1,1,0,0,0,0,0]) rfl (aZ (K:=K) rfl (fv 4)) (iD (i:=7) (ds':=[0,1,1,0,0,0,0,0]) nd rfl (.inr rfl) rfl (by decide) (by decide) (.inl rfl)) (au (aH (ds2:=[0,1,1,0,0,0,0,0]) (qZ (ds0:=[0,1,0,0,0,0,0,0]) (zI (EM hr) (fvc 7) (fv 2) (by with_unfolding_all rfl)) rfl) (af (xE (i:=2) (EM hr) rfl (.inl rfl) (fs0 gC) (fvc 7) rfl rfl rfl rfl) (au (cK (fap 1 1 (fvc 7)) rfl))) aE)) PassesOwn.never (λ_=>rfl))))) PassesOwn.never (λ_=>rfl)) (frt (dJ (ds0:=[0,0,1,0,0,0,0,0]) (bW (p:=false) (i:=1) rfl (.inl rfl) rfl rfl rfl) rfl)))))
def tE(T:Bl mg)(F:Fun K "_law_whole" "_law_whole" jE f fd):FnOk P w K mg base CX0 (k+1) f fd ["_law_thing","_law_due"] (spF K [0,0] 3 cQ):=
 F.okR sT ⟨[],[0,0],3,[]⟩ [0,0] λnd _ _ _ _ _ _ hr=>(frt (iT (fis "int" T.isinstance0 T.int0 (fv 0)) (iT (nT (fis "bool" T.isinstance0 T.bool0 (fv 0))) (nS (eB (mE (K:=K) rfl hr.units) (fv 0) (fv 1) (aV _))))))
def qk(T:Bl mg)(aM:cP P w K mg base k)(F:Fun K "_law_strange" "_law_strange" im f fd):FnOk P w K mg base CX0 (k+1) f fd ["_law_pen_here","_law_plan_here","_law_row_here"] (spF K [1,0,0] 0 dF):=
 F.okR qg ⟨[0],[1,0,0,0,0,0,0],0,[]⟩ [1,0,0,0,0,0,0] λnd _ _ _ _ _ _ hr=>(af (ax 3 [1,0,0,1,0,0,0] nd (bz (d':=1) (fls 3 3 (fac ck (fac ck (fac ck (fac ck aa))))) (by decide))) (af (aR (ds1:=[1,0,0,1,0,0,0]) rfl (aZ (K:=K) rfl (fv 1)) (fgn 4 [1,0,0,1,0,0,0] nd) (au (aR (ds1:=[1,0,0,1,0,0,0]) rfl (aZ (K:=K) rfl (fv 4)) (fgn 5 [1,0,0,1,0,0,0] nd) (au (cK (zW (K:=K) (i:=3) rfl rfl (.inl rfl) rfl (aW (fK (K:=K) rfl) (fv 5) bi (aX ag)) rfl rfl rfl rfl rfl rfl rfl) rfl)) PassesOwn.never (λ_=>rfl))) PassesOwn.never (λ_=>rfl)) (af (aH (ds2:=[1,0,0,0,0,0,0]) (ftn rfl hr.units (fv 2) (fls 3 3 aa)) (af (ax 6 [1,0,0,1,0,0,0] nd (bg (cL (K:=K) rfl) (fv 2) (fns aM hr (fsl 0 (fac (fs0 (fln rfl T.len0 (fac (fv 2) aa))) aa))) (λ_ _=>rfl))) (au (ax 3 [1,0,0,0,0,0,0] nd (fs0 (aq (qA (K:=K) rfl) (dJ (ds0:=[1,0,0,0,0,0,0]) (bW (p:=false) (i:=3) rfl (.inl rfl) rfl rfl rfl) rfl) (fls 3 3 (fac (aq aT (fv 6) (aW fT (fv 6) bi (aX ag))) (fac (aW fT (fv 6) bi (aX (dI ff ag))) (fac (aW fT (fv 6) (aX ag) bi) (fac (zV (fv 6) (dI ff ag)) (fac (aq aT (fv 6) ck) (fac (aq aT ck (fv 6)) (fac (aq aT (fv 6) (fv 6)) (fac (aW fT (fv 6) bi (aX ag)) aa)))))))))))))) (lH (ds2:=[1,0,0,1,0,0,0]) aE rfl)) (frt (fv 3)))))
def Le(T:Bl mg)(Au:pK P w K mg base k)(uP:kY P w K mg base k)(yg:m8 P w K mg base k)(At:pJ P w K mg base k)(se:jZ P w K mg base k)(jK:lZ P w K mg base k)(As:pI P w K mg base k)(aM:cP P w K mg base k)(GC:uI P w K mg base k)(uO:ww P w K mg base k)(F:Fun K "law" "law" lU f fd):FnOk P w K mg base CX0 (k+1) f fd ["_law_script"] (spF K [0] 3 yi):=
 F.okR K4 ⟨[],[0,0,0,0,0,0,0,0,0,0],3,[]⟩ [0,0,0,0,0,0,0,0,0,0] λnd _ _ _ _ _ _ hr=>(af (aR (ds1:=[0,0,0,0,0,0,0,0,0,0]) rfl (cM rfl T.range0 (fac (fs0 ag) aa) rfl) (fgn 1 [0,0,0,0,0,0,0,0,0,0] nd) (lH (ds2:=[0,0,1,0,0,0,0,0,0,0]) (af (fJ (i:=2) (d:=1) (ds':=[0,0,1,0,0,0,0,0,0,0]) nd rfl (.inr rfl) (bz (d':=1) (fnn Au hr (fac (fv 0) (fac (fv 1) aa))) (by decide)) rfl (by decide) (by decide) rfl (.inl rfl)) (af (ax 3 [0,0,1,0,0,0,0,0,0,0] nd (fns uP hr (kx 2 (fac (fs0 ag) aa)))) (af (ax 4 [0,0,1,0,0,0,0,0,0,0] nd (fns yg hr (kx 2 (fac (fv 3) (fac (fs0 ag) (fac (fs0 ag) (fac (fs0 ag) aa))))))) (af (fJ (i:=5) (d:=0) (ds':=[0,0,1,0,0,0,0,0,0,0]) nd rfl (.inr rfl) (fnn At hr (fac (fv 4) aa)) rfl (by decide) (by decide) rfl (.inl rfl)) (af (aH (ds2:=[0,0,1,0,0,0,0,0,0,0]) (fI (bA (fnn jK hr (fac (fs0 (fnn As hr (fac (fv 4) aa))) (fac (fs0 (fln rfl T.len0 (fac (fvc 5) aa))) aa))) (λ_=>rfl))) (frt gC) aE) (af (ax 6 [0,0,1,0,0,0,0,0,0,0] nd (fs0 (aq (qA (K:=K) rfl) (nU (cd:=0) (d:=1) (dsi:=[0,1,0]) (lk:=[1,2]) (BlkOkC.of (ns:=["_law_turn","_law_pen_here","_law_row_here"]) (js:=[none,some 2,some 5]) (N0:=KQ) (sc0:=am lU) rfl rfl (by decide +kernel)) rfl (cM rfl T.range0 (fac (fs0 ag) aa) rfl) (λ_ _ _ _ _=>(fgn 0 [0,1,0] (ndk ["_law_turn","_law_pen_here","_law_row_here"]))) (λ_ _ _ _ _=>bG) (λ_ _ _ _ _=>(fns aM hr (kx 1 (fac (fs0 (fcb (Gd rfl) T.max0 (by decide +kernel) (fac (fs0 ag) (fac (fs0 (fln rfl T.len0 (fac (fvc 2) aa))) aa)))) aa)))) rfl rfl (by decide) rfl (λ_=>rfl)) (fls 3 3 (fac ag (fac (aq fR (fln rfl T.len0 (fac (fvc 5) aa)) ag) aa)))))) (af (aR (ds1:=[0,0,1,0,0,0,0,0,0,0]) rfl (aZ (K:=K) rfl (fv 6)) (fgn 7 [0,0,1,0,0,0,0,0,0,0] nd) (au (aH (ds2:=[0,0,1,0,0,0,0,0,0,0]) (ftn rfl hr.units (fvc 5) (fls 3 3 aa)) (af (ax 8 [0,0,1,0,0,0,0,0,0,0] nd (fs0 (fnn GC hr (fac (fv 4) (fac (fv 7) aa))))) (au (aH (ds2:=[0,0,1,0,0,0,0,0,0,0]) (qpt (gy (fI (bA (fis "str" T.isinstance0 T.str0 (fv 8)) (λ_=>rfl))) (gy (ftn rfl hr.units (fv 8) (bg (cL (K:=K) rfl) (fvc 5) (fv 7) (λ_ _=>rfl))) (gA (fI (bA (fnn jK hr (fac (fs0 (fnn uO hr (fac (fv 4) (fac (fv 8) aa)))) (fac (fv 7) aa))) (λ_=>rfl))))))) (frt gC) aE))) aE)) PassesOwn.never (λ_=>rfl)) (au (aR (ds1:=[0,0,1,0,0,0,0,0,0,0]) rfl (aZ (K:=K) rfl (fns se hr (kx 2 (fac (fv 4) (fac (fvc 5) aa))))) (fgn 9 [0,0,1,0,0,0,0,0,0,0] nd) (au (aH (ds2:=[0,0,1,0,0,0,0,0,0,0]) (aJ (xH (K:=K) rfl hr.units) (fv 9) (fvc 5) (by with_unfolding_all rfl)) (au (aH (ds2:=[0,0,1,0,0,0,0,0,0,0]) (fI (bA (fnn jK hr (fac (fs0 (fnn uO hr (fac (fv 4) (fac (fv 9) aa)))) (fac (fs0 (xJ (K:=K) rfl hr.units (fvc 5) (fv 9) rfl rfl rfl rfl rfl)) aa))) (λ_=>rfl))) (frt gC) aE)) (au (aH (ds2:=[0,0,1,0,0,0,0,0,0,0]) (aJ qz (fnn uO hr (fac (fv 4) (fac (fv 9) aa))) dz (aV _)) (frt gC) aE)))) PassesOwn.never (λ_=>rfl)))))))))) rfl) PassesOwn.never (λ_=>rfl)) (frt gC))
end
end
end W45
set_option maxHeartbeats 1000000
namespace W45
variable{b d e x0 x1 x2 x3 x4 x7 x5 x6:Option D}{en:En}{n m k s i:Nat}{p ks ys l ts q:List Str}{Q:Fl->Prop}{ns:List Int}{z y a x:Str}{ps r:List (List Str)}{pl:List (List (List Str))}
open PySem L2 Tg
def qv{s u:MS}{K:Fl->Prop}{b:Bool}(h1:kIf s u K (true,en))(h2:kIf s u K (false,en)):kIf s u K (b,en):=by
 cases b
 .exact h2
 .exact h1
noncomputable def cX(a b c:Int):D:=.list [.int a,.int b,.int c]
def Pn(n:Nat)(t:D):Prop:=∃a b c,t=cX a b c/\0<=c/\c<=(n:Int)
def Pn.mono{t:D}(h:Pn n t)(e:n<=m):Pn m t:=by
 obtain⟨a,b,c,rfl,h1,h2⟩:=h;exact⟨a,b,c,rfl,h1,by lia⟩
def cr{p:D}{m:Int}(hp:Pn n p)(hn:n<=1000000)(h3:0<m)(h4:m<1073741824){Q:D×En->Prop}(h:∀r p',0<=r->r<m->Pn (n+1) p'->Q (.int r,[some p',none])):W (F_law_draw [p,.int m]) Q:=by
 obtain⟨a,b,c,rfl,c0,c1⟩:=hp;have m0:∀z:Int,0<=z % m:=λz=>Int.emod_nonneg _ (by lia);have m1:∀z:Int,z % m<m:=λz=>Int.emod_lt_of_pos _ h3;by_cases ha:0<a
 .simp only[ws,F_law_draw,dB,cX,ha,h3,h4];exact⟨⟨h3,h4⟩,h _ _ (m0 _) (m1 _) ⟨_,_,_,rfl,by lia,by lia⟩⟩
 .simp only[ws,F_law_draw,dB,cX,ha,h3,h4];refine⟨.inl (by decide),by decide,.inl ?_,by decide,.inl (by decide),.inl ?_,by decide,⟨by decide,by decide⟩,h _ _ (m0 _) (m1 _) ⟨_,_,_,rfl,by lia,by lia⟩⟩
  .constructor<;>lia
  .generalize (b+69621*(c+1)+13) % 2147483629*((b+69621*(c+1)+13) % 2147483629)=x;constructor<;>lia
def EV{k:Int}(h0:0<=k)(hl:ns.length<=63){Q:D×En->Prop}(h:∀p,Pn 0 p->Q (p,[none,none])):W (F_law_pen [.list (ns.map .int),.int k]) Q:=by
 have pw:jL 10 18:=by unfold jL;decide
 simp only[ws,F_law_pen,dh];refine⟨.inl (by decide),?_⟩;by_cases hk:k<(ns.length:Int)
 .have ec:atI (ns.map PyData.int) k=some (.int (ns[k.toNat]'(by lia))):=fm h0 (by rw[zao,zak (by lia)];rfl);simp only[ws,hk,ec];refine⟨pw,qv ?_ ?_⟩<;>simp only[ws]
  .exact⟨pw,by decide,h _ ⟨_,_,0,rfl,by decide,by decide⟩⟩
  .exact⟨by decide,h _ ⟨_,_,0,rfl,by decide,by decide⟩⟩
 .by_cases hn:(0:Int)<ns.length
  .obtain⟨c,ec⟩:∃c,atI (ns.map PyData.int) (k % (ns.length:Int))=some (.int c):=by
    have q1:0<=k % (ns.length:Int):=Int.emod_nonneg _ (by lia);have q2:k % (ns.length:Int)<ns.length:=Int.emod_lt_of_pos _ (by lia);refine⟨ns[(k % (ns.length:Int)).toNat]'(by lia),fm q1 ?_⟩;rw[zao,zak (by lia)];rfl
   simp only[ws,hk,hn,ec];refine⟨by decide,.inl (by decide),pw,qv ?_ ?_⟩<;>simp only[ws]
   .exact⟨pw,by decide,h _ ⟨_,_,0,rfl,by decide,by decide⟩⟩
   .exact⟨by decide,h _ ⟨_,_,0,rfl,by decide,by decide⟩⟩
  .simp only[ws,hk,hn];refine⟨pw,qv ?_ ?_⟩<;>simp only[ws]
   .exact⟨pw,by decide,h _ ⟨_,_,0,rfl,by decide,by decide⟩⟩
   .exact⟨by decide,h _ ⟨_,_,0,rfl,by decide,by decide⟩⟩
noncomputable def txt:D->Str
 |.str z=>z
 |_=>""
noncomputable def fr(ys:List Str):Bool:=decide (ys.Pairwise λa b=>¬(li a <+: li b)/\¬(li b <+: li a))
structure TT(ks:List Str):Prop where
 n4:ks.length<=4
 l12:(aQ ks).length<=12
 l1:1<=(aQ ks).length
 nd:(aQ ks).Nodup
def FS(T:TT ks):joinD "" [tD ks]=some (.str (sgs ks)):=(jg (by have:=T.l12;lia) (by have:=T.n4;lia)).1
theorem cN:∀ys:List Str,bC (ys.map PyData.str)=0
 |[]=>rfl
 |y::ys=>by
  rw[zar];simp only[bC,gE,cN ys];rfl
theorem dH:∀ys:List Str,aB (ys.map PyData.str)=true
 |[]=>rfl
 |y::ys=>by
  rw[zar];simp only[aB,aA,dH ys];rfl
theorem nF:∀xs ys:List Str,eh (xs.map PyData.str) (ys.map PyData.str)=decide (xs=ys)
 |[],[]=>rfl
 |[],_::_=>rfl
 |_::_,[]=>rfl
 |x::xs,y::ys=>by
  simp only[zar,eh,peq,nF xs ys,mw];by_cases h:x=y
  .by_cases h2:xs=ys<;>simp[h,h2]
  .simp[h]
def Gq(xs ys:List Str):eqD (.list (xs.map .str)) (.list (ys.map .str))=some (.bool (decide (xs=ys))):=by
 show grd _ _=_;unfold grd;rw[if_pos ⟨by simp only[aA];exact dH xs,by simp only[aA];exact dH ys,by simp only[gE,cN];decide⟩];simp only[peq,nF]
def vV(xs:List Str):neD (.list (xs.map .str)) (.list [])=some (.bool (!decide (xs=[]))):=by
 show grd _ _=_;unfold grd;rw[if_pos ⟨by simp only[aA];exact dH xs,rfl,by simp only[gE,cN];decide⟩]
 have:=nF xs [];simp only[zaZ]at this;simp only[peq,this]
def vM(t:D)(z:Str):peq t (.str z)=match t with|.str y=>decide (y=z)|_=>false:=by
 cases t with
 |str y=>simp only[peq,mw]
 |none=>rfl
 |bool b=>rfl
 |int i=>rfl
 |list l=>simp only[peq]
 |tuple l=>simp only[peq]
 |dict l=>simp only[peq]
def Ag(xs:List Nat)(n:Nat):bY xs none (some (n:Int))=xs.take n:=by
 unfold bY;rw[HT.sIx_none,HT.sIx_nat];simp
theorem t9:∀ns:List Int,gX (ns.map PyData.int)=some ns
 |[]=>rfl
 |n::ns=>by
  show(gX (ns.map PyData.int)).map (n::·)=_;rw[t9 ns];rfl
def nr(ns:List Int):sN [.list (ns.map .int)]=some (.int ns.sum):=by
 show(gX _).map _=_;rw[t9];rfl
structure Sz(ns:List Int):Prop where
 l1:1<=ns.length
 l4:ns.length<=4
 b:∀n∈ns,1<=n/\n<=6
theorem sL:∀(ns:List Int),(∀n∈ns,1<=n)->(ns.length:Int)<=ns.sum
 |[],_=>by simp
 |a::r,h=>by
  have h1:=h a zaq;have h2:=sL r λn hn=>h n (zaj _ hn);rw[List.sum_cons,zac]
  lia
def cb(a b:Str):(a++b).length=a.length+b.length:=by
 show(a.cps++b.cps).size=_;rw[Array.size_append];rfl
def aS(a b:Str):li (a++b)=li a++li b:=Array.toList_append
def jk(xs:List Nat)(n:Nat):bY xs (some (n:Int)) none=xs.drop n:=by
 unfold bY;rw[HT.sIx_none,HT.sIx_nat];rcases Nat.le_total n xs.length with h|h
 .rw[Nat.min_eq_left h,List.take_of_length_le (by rw[zaF];lia)]
 .rw[Nat.min_eq_right h,List.drop_of_length_le (zav _),List.drop_of_length_le h];simp
def pE(h:k<(li z).length):atI (li z) (k:Int)=some (li z)[k]:=by
 rw[fY,zak h]
def B1{p:D}{f g h8 h9:Option D}(hp:Pn n p)(hn:n+m<=1000000)(hz:m+1<=(li z).length)(hz2:(li z).length<=1000)(hy:(li y).length+m<=1000) 
  (h:∀p' z' y' o8 o9,Pn (n+m) p'->(li z').length+m=(li z).length->(li y').length=(li y).length+m->(li y'++li z').Perm (li y++li z)->Q (.nx [some p',b,some (.str z'),d,e,f,g,some (.str y'),o8,o9])):
  W (c9 (gN 8) gM (kb 0 m) [some p,b,some (.str z),d,e,f,g,some (.str y),h8,h9]) Q:=by
 have ll:∀z:Str,(li z).length=z.length:=λz=>zaX;refine bS (λi en=>∃p' z' y' o8 o9,en=[some p',b,some (.str z'),d,e,f,g,some (.str y'),o8,o9]/\Pn (n+i) p'/\(li z').length+i=(li z).length/\(li y').length=(li y).length+i/\(li y'++li z').Perm (li y++li z)) ⟨p,z,y,h8,h9,rfl,hp,rfl,rfl,List.Perm.refl _⟩ (λi t en ht ⟨p',z',y',o8,o9,e1,q1,q2,q3,q4⟩=>?_) λen ⟨p',z',y',o8,o9,e1,q1,q2,q3,q4⟩=>?_
 .obtain⟨hi,rfl⟩:=eJ ht;subst e1;simp only[ws,gM];have l1:=ll z';have l2:=ll y';refine⟨sz (by lia),cr q1 (by lia) (by lia) (by lia) λr p2 r0 r1 hp2=>?_⟩;obtain⟨k,rfl⟩:=zaL r0;have hk:k<(li z').length:=by lia
  have ek:=pE hk;simp only[ws,ek];have c1:bY z'.cps.toList none (some (k:Int))=(li z').take k:=Ag _ _;have c2:bY z'.cps.toList (some ((k:Int)+1)) none=(li z').drop (k+1):=jk _ (k+1);rw[c1,c2];have t1:((⟨((li z').take k).toArray⟩:Str)).length=k:=by rw[show(⟨((li z').take k).toArray⟩:Str)=ofL ((li z').take k)from rfl,qu,zaE];lia
  have t2:((⟨((li z').drop (k+1)).toArray⟩:Str)).length=(li z').length-(k+1):=by rw[show(⟨((li z').drop (k+1)).toArray⟩:Str)=ofL ((li z').drop (k+1))from rfl,qu,zaF]
  have t3:(mk1 (li z')[k]).length=1:=rfl;refine⟨sz (by lia),sz (by lia),sz (by lia),sz (by lia),sz (by lia),p2,_,_,_,_,rfl,hp2,?_,?_,?_⟩
  .rw[ll,cb]
   lia
  .rw[ll,cb]
   lia
  .refine List.Perm.trans ?_ q4;rw[aS,aS];show((li y'++[(li z')[k]])++((li z').take k++(li z').drop (k+1))).Perm _;rw[zaD];refine List.Perm.append_left _ ?_;have e:li z'=(li z').take k++(li z')[k]::(li z').drop (k+1):=by rw[List.getElem_cons_drop,List.take_append_drop]
   refine List.Perm.trans ?_ (List.Perm.of_eq e.symm);show((li z')[k]::((li z').take k++(li z').drop (k+1))).Perm _;exact List.perm_middle.symm
 .rw[dG]at q1 q2 q3;subst e1;exact h p' z' y' o8 o9 q1 q2 q3 q4
def Bc{p:D}(hp:Pn n p)(hn:n<=1000)(hS:Sz ns)(h12:ns.sum<=12)(hz:(li z).length=93)(hnd:(li z).Nodup) 
  (h:∀p' ks o2 o6 o7 o8 o9,Pn (n+12) p'->TT ks->Q (.nx [some p',b,o2,d,e,some (.list (ks.map .str)),o6,o7,o8,o9])):
  W (c9 (gN 6) gL (ns.map .int) [some p,b,some (.str z),d,e,some (.list []),none,none,none,none]) Q:=by
 refine bS (λi en=>∃p' z' ks o6 o7 o8 o9,en=[some p',b,some (.str z'),d,e,some (.list (ks.map .str)),o6,o7,o8,o9]/\ks.length=i/\Pn (n+(aQ ks).length) p'/\(li z').length+(aQ ks).length=93/\((aQ ks).length:Int)=(ns.take i).sum/\(aQ ks++li z').Perm (li z)) ⟨p,z,[],none,none,none,none,rfl,rfl,hp,by rw[hz];rfl,by simp[aQ],List.Perm.refl _⟩ (λi t en ht ⟨p',z',ks,o6,o7,o8,o9,e1,q1,q2,q3,q4,q5⟩=>?_) λen ⟨p',z',ks,o6,o7,o8,o9,e1,q1,q2,q3,q4,q5⟩=>?_
 .rw[zao]at ht;obtain⟨m,hm,rfl⟩:=zab.mp ht;have hb:=hS.b m (zaW hm);obtain⟨k,rfl⟩:=zaL (by lia:0<=m);have hi:=(zah.mp hm).1;have tk:(ns.take (i+1)).sum=(ns.take i).sum+(k:Int):=by
   rw[dg hm,List.sum_append];simp
  have tot:(ns.take (i+1)).sum<=12:=by
   have e1:ns.sum=(ns.take (i+1)).sum+(ns.drop (i+1)).sum:=by rw[<-List.sum_append,List.take_append_drop]
   have e2:=sL (ns.drop (i+1)) λx hx=>(hS.b x (List.mem_of_mem_drop hx)).1
   lia
  subst e1;have hl4:=hS.l4;simp only[ws,gL,zaK];refine⟨by lia,B1 (m:=k) q2 (by lia) (by lia) (by lia) (by show 0+k<=1000;lia) λp2 z2 y2 o8 o9 r1 r2 r3 r4=>?_⟩;have r3':(li y2).length=k:=by rw[r3];show 0+k=k;lia
  simp only[ws];have al:(aQ (ks++[y2])).length=(aQ ks).length+k:=by
   rw[rE,zae,r3']
  refine⟨szl (by lia),p2,z2,ks++[y2],_,_,_,_,by rw[zaC];rfl,by rw[zae,q1];rfl,by rw[al];exact r1.mono (by lia),by rw[al];lia,?_,?_⟩
  .rw[al,tk]
   lia
  .refine List.Perm.trans ?_ q5;rw[rE,zaD];exact List.Perm.append_left _ r4
 .subst e1;rw[zad]at q1 q4;rw[zaP]at q4;have g1:=sL ns λx hx=>(hS.b x hx).1;have g2:=hS.l1;refine h p' ks _ _ _ _ _ (q2.mono (by lia)) ⟨by rw[q1];exact hS.l4,by lia,by lia,((q5.nodup_iff.mpr hnd).sublist (List.sublist_append_left _ _))⟩
noncomputable def evs:Str:="!\"#$&'()*+,-./0123456789:;<=>?@ABCDEFGHIJKLMNOPQRSTUVWXYZ[\\]^_`abcdefghijklmnopqrstuvwxyz{|}~"
def Go:(li evs).length=93:=by decide +kernel
def KC:(li evs).Nodup:=by decide +kernel
def AI{p:D}(hp:Pn n p)(hn:n<=1000)(hm:m<=4){Q:List D×En->Prop}(h:∀(ns:List Int) p' o,ns.length=m->(∀x∈ns,1<=x/\x<=3)->Pn (n+4) p'->Q (ns.map .int,[o,some p',some (.int 3)])):
  W (lcF (gN 0) cY gR (kb 0 m) [] [none,some p,some (.int 3)]) Q:=by
 refine lQ (λi us en=>∃(ns:List Int) (p':D) (o:Option D),us=ns.map .int/\en=[o,some p',some (.int 3)]/\ns.length=i/\(∀x∈ns,1<=x/\x<=3)/\Pn (n+i) p') (by rw[dG];exact sz (by lia)) ⟨[],p,none,rfl,rfl,rfl,by simp,hp⟩ (λi t us en ht hu ⟨ns,p',o,e1,e2,h1,h2,h3⟩=>?_) λus en _ ⟨ns,p',o,e1,e2,h1,h2,h3⟩=>?_
 .obtain⟨hi,rfl⟩:=eJ ht;subst e1 e2;simp only[ws,gR];refine cr h3 (by lia) (by decide) (by decide) λr p2 r0 r1 hp2=>?_;simp only[ws];refine⟨ns++[1+r],p2,_,by rw[zaC];rfl,rfl,by rw[zae,h1];rfl,λx hx=>?_,hp2⟩;rcases zax.mp hx with hx|hx
  .exact h2 x hx
  .rw[zaG.mp hx]
   lia
 .subst e1 e2;rw[dG]at h1 h3;exact h ns p' o h1 h2 (h3.mono (by lia))
theorem yy:∀(ns:List Int) (k:Int),(∀n∈ns,n<=k)->ns.sum<=k*ns.length
 |[],k,_=>by simp
 |a::r,k,h=>by
  have h1:=h a zaq;have h2:=yy r k λn hn=>h n (zaj _ hn);rw[List.sum_cons,zac];have e:k*((r.length+1:Nat):Int)=k*(r.length:Int)+k:=by rw[Int.natCast_add,Int.mul_add];simp
  lia
def yu{p:D}(hp:Pn 0 p):W (eI [p,.int 3]) (λr=>∃ks p',r=(tD ks,[some p',none])/\TT ks/\Pn 30 p'):=by
 simp only[ws,eI,mj];refine cr hp (by decide) (by decide) (by decide) λr p1 r0 r1 hp1=>?_;obtain⟨k,rfl⟩:=zaL r0;have ek:((1:Int)+(k:Int)).toNat=k+1:=by lia
 simp only[ws,ek];refine⟨by lia,AI (m:=k+1) hp1 (by decide) (by lia) λns p2 o hl hb hp2=>?_⟩;have h12:ns.sum<=12:=by
  have:=yy ns 3 λn hn=>(hb n hn).2
  lia
 have hS:Sz ns:=⟨by lia,by lia,λn hn=>⟨(hb n hn).1,by have:=(hb n hn).2;lia⟩⟩;have e36:decide ((3:Int)=6)=false:=by decide
 simp only[ws,e36];have e1:=nr ns;have hn:¬(12:Int)<ns.sum:=by lia
 refine wv (λn en=>en=[some p2,some (.int 3),some (.str evs),some (.int (1+(k:Int))),some (.list (ns.map .int)),none,none,none,none,none]) (λn en e=>?_) (n:=0) rfl;subst e;simp only[ws,jX,e1,hn];refine Bc hp2 (by decide) hS h12 Go KC λp' ks o2 o6 o7 o8 o9 hp' hT=>?_;simp only[ws];exact⟨ks,p',rfl,hT,hp'.mono (by decide)⟩
structure GW(ks:List Str)(m:Nat)(z:Str):Prop where
 l1:1<=(li z).length
 lm:(li z).length<=m
 mem:∀c∈li z,c∈aQ ks
def ll(z:Str):(li z).length=z.length:=zaX
def E9(ks:List Str):(sgs ks).length=(aQ ks).length:=qu _
theorem oQ(ks:List Str):li (sgs ks)=aQ ks:=rfl
def vy(T:TT ks){p:D}(hp:Pn n p)(hn:n<=100000)(hm:1<=m)(hm6:m<=6):W (eU [p,tD ks,.int (m:Nat)]) (λr=>∃z p',r=(.str z,[some p',none,none])/\GW ks m z/\Pn (n+10) p'):=by
 have t1:=T.l1;have t12:=T.l12;have sl:=E9 ks;simp only[ws,eU,pT,FS T];refine⟨sz (by lia),cr hp (by lia) (by lia) (by lia) λr p1 r0 r1 hp1=>?_⟩;obtain⟨k,rfl⟩:=zaL r0;have hk:k<(li (sgs ks)).length:=by rw[oQ];lia
 have ek:=pE hk;simp only[ws,ek];refine⟨sz (by lia),cr hp1 (by lia) (by decide) (by decide) λr p2 r0 r1 hp2=>?_⟩;simp only[ws];refine cr hp2 (by lia) (by lia) (by lia) λq p3 q0 q1 hp3=>?_;obtain⟨j,rfl⟩:=zaL q0;simp only[ws,zaK];refine⟨by lia,?_⟩;have c0:(li (sgs ks))[k]∈aQ ks:=by rw[<-oQ ks];exact zaJ hk
 refine bS (λi en=>∃p' z o6 o7,en=[some p',some (tD ks),some (.int (m:Nat)),some (.str (sgs ks)),some (.str z),some (.bool (decide (r=0))),o6,o7]/\Pn (n+3+i) p'/\(li z).length=i+1/\∀c∈li z,c∈aQ ks) ⟨p3,mk1 (li (sgs ks))[k],none,none,rfl,hp3,rfl,λc hc=>by rw[zaG.mp (show c∈[(li (sgs ks))[k]]from hc)];exact c0⟩ (λi t en ht ⟨p',z,o6,o7,e,h1,h2,h3⟩=>?_) λen ⟨p',z,o6,o7,e,h1,h2,h3⟩=>?_
 .obtain⟨hi,rfl⟩:=eJ ht;subst e;simp only[ws,l8];refine⟨sz (by lia),cr h1 (by lia) (by lia) (by lia) λr2 p4 r20 r21 hp4=>?_⟩;obtain⟨k2,rfl⟩:=zaL r20;have hk2:k2<(li (sgs ks)).length:=by rw[oQ];lia
  have ek2:=pE hk2;have lz:=ll z;have c2:(li (sgs ks))[k2]∈aQ ks:=by rw[<-oQ ks];exact zaJ hk2
  have z0:0<(li z).length:=by lia
  have ez:=pE (z:=z) (k:=0) z0;have fin:∀c,c∈aQ ks->∀o6 o7,∃p' z' o6' o7',[some p4,some (tD ks),some (PyData.int (m:Nat)),some (PyData.str (sgs ks)),some (PyData.str (z++mk1 c)),some (PyData.bool (decide (r=0))),o6,o7]=[some p',some (tD ks),some (PyData.int (m:Nat)),some (PyData.str (sgs ks)),some (PyData.str z'),some (PyData.bool (decide (r=0))),o6',o7']/\Pn (n+3+(i+1)) p'/\(li z').length=i+1+1/\∀c∈li z',c∈aQ ks:=λc hc o6 o7=>by
   refine⟨p4,z++mk1 c,o6,o7,rfl,hp4,?_,λc' hc'=>?_⟩
   .rw[aS,zae,h2];rfl
   .rw[aS]at hc';rcases zax.mp hc' with q|q
    .exact h3 c' q
    .rw[zaG.mp (show c'∈[c]from q)];exact hc
  have lm:∀c,(mk1 c).length=1:=λ_=>rfl;simp only[ws,ek2];refine⟨sz (by lia),?_⟩;by_cases hr:r=0
  .have q:decide (r=0)=true:=zaB hr;simp only[q]at fin;have ez':atI (li z) 0=some (li z)[0]:=ez;simp only[ws,q,ez'];exact⟨sz (by lia),sz (by rw[lm];lia),fin _ (h3 _ (zaJ z0)) _ _⟩
  .have q:decide (r=0)=false:=zaA hr;simp only[q]at fin;simp only[ws,q];exact⟨sz (by rw[lm];lia),fin _ c2 _ _⟩
 .subst e;rw[dG]at h1 h2;simp only[ws];exact⟨z,p',rfl,⟨by lia,by lia,h3⟩,h1.mono (by lia)⟩
theorem jV(z:Str):∀ys:List Str,((ys.map PyData.str).any λt=>peq t (.str z))=decide (z∈ys)
 |[]=>by simp
 |y::ys=>by
  rw[zar,List.any_cons,jV z ys,vM];by_cases h:y=z
  .simp[h]
  .have h':¬z=y:=λe=>h e.symm;simp[h,h']
def xa(z:Str)(ys:List Str):lu (.str z) (.list (ys.map .str))=some (.bool (!decide (z∈ys))):=by
 show grd _ _=_;unfold grd;rw[if_pos ⟨rfl,dH ys,by rw[cN];decide⟩,jV]
def Gb(h:fr ys=true)(hz:∀y∈ys,¬li y <+: li z/\¬li z <+: li y):fr (ys++[z])=true:=by
 unfold fr at h ⊢;rw[decide_eq_true_eq]at h ⊢;rw[List.pairwise_append];refine⟨h,List.pairwise_singleton _ _,λa ha b hb=>?_⟩;rw[zaG.mp hb];exact hz a ha
def KU(b:Bool)(ys:List Str):Prop:=b=false->fr ys=true
structure GP(ks:List Str)(free:Bool)(ys:List Str):Prop where
 l12:ys.length<=12
 w:∀y∈ys,GW ks 6 y
 nd:ys.Nodup
 fre:free=false->fr ys=true
def vO(T:TT ks){p:D}{b:Bool}(hp:Pn n p)(hn:n<=50000)(hm:m<=12)(hs:1<=s)(hs6:s<=6):W (eV [p,tD ks,.int (m:Nat),.int (s:Nat),.bool b]) (λr=>∃ys p',r=(.tuple (ys.map .str),[some p',none,none,none,none])/\GP ks b ys/\ys.length<=m/\Pn (n+120) p'):=by
 simp only[ws,eV,pW,zaK];refine⟨by lia,?_⟩;refine bS (λi en=>∃p' ys o6 o7 o8,en=[some p',some (tD ks),some (.int (m:Nat)),some (.int (s:Nat)),some (.bool b),some (.list (ys.map .str)),o6,o7,o8]/\Pn (n+10*i) p'/\ys.length<=i/\(∀y∈ys,GW ks 6 y)/\ys.Nodup/\KU b ys) ⟨p,[],none,none,none,rfl,hp,zav _,by simp,List.nodup_nil,λ_=>rfl⟩ (λi t en ht ⟨p',ys,o6,o7,o8,e,h1,h2,h3,h4,h5⟩=>?_) λen ⟨p',ys,o6,o7,o8,e,h1,h2,h3,h4,h5⟩=>?_
 .obtain⟨hi,rfl⟩:=eJ ht;subst e;simp only[ws,ma];refine W.use (vy T h1 (by lia) hs hs6) ?_;rintro _ ⟨z,p2,rfl,gz,hp2⟩;have g6:GW ks 6 z:=⟨gz.l1,zau gz.lm hs6,gz.mem⟩;have en1:=xa z ys;have fin:∀o6 o8 (ok:Bool),(ok=true->z∉ys/\(b=false->∀y∈ys,¬li y <+: li z/\¬li z <+: li y))->(kIf (fP (gD 5 (ac 7))) bj (kIt (λen=>∃p' ys o6 o7 o8,en=[some p',some (tD ks),some (.int (m:Nat)),some (.int (s:Nat)),some (.bool b),some (.list (ys.map .str)),o6,o7,o8]/\Pn (n+10*(i+1)) p'/\ys.length<=i+1/\(∀y∈ys,GW ks 6 y)/\ys.Nodup/\KU b ys) (tX (aG (eN jx (ae (ac 5) ai))) (kFn [1,0,0,0,0] λr=>∃ys p',r=(.tuple (ys.map .str),[some p',none,none,none,none])/\GP ks b ys/\ys.length<=m/\Pn (n+120) p')))) (ok,[some p2,some (tD ks),some (.int (m:Nat)),some (.int (s:Nat)),some (.bool b),some (.list (ys.map .str)),o6,some (.str z),o8]):=λo6 o8 ok hok=>by
   cases ok with
   |true=>
    obtain⟨k1,k2⟩:=hok rfl;simp only[ws];refine⟨szl (by lia),p2,ys++[z],_,_,_,by rw[zaC];rfl,hp2.mono (by lia),by rw[zae];show _+1<=_;lia,λy hy=>?_,?_,λhb=>Gb (h5 hb) (k2 hb)⟩
    .rcases zax.mp hy with q|q
     .exact h3 y q
     .rw[zaG.mp q];exact g6
    .rw[zbd];refine⟨h4,by simp,λa ha c hc e=>?_⟩;rw[zaG.mp hc]at e;exact k1 (e▸ha)
   |false=>
    simp only[ws];exact⟨p2,ys,_,_,_,rfl,hp2.mono (by lia),by lia,h3,h4,h5⟩
  simp only[ws,en1];cases b with
  |true=>
   simp only[ws];refine fin _ _ _ λh=>⟨?_,λq=>by cases q⟩;simpa using h
  |false=>
   simp only[ws];refine lR (λt=>decide (li z <+: li (txt t)) || decide (li (txt t) <+: li z)) (λt=>t) (by rw[zad];exact sz (by lia)) (λt ht=>?_) (λt ht _=>?_) λo'=>?_
   .obtain⟨w,hw,rfl⟩:=zaz.mp ht;have s1':Txt.startswith w z=decide (li z <+: li w):=by rw[Bool.eq_iff_iff,iz,decide_eq_true_eq]
    have s2':Txt.startswith z w=decide (li w <+: li z):=by rw[Bool.eq_iff_iff,iz,decide_eq_true_eq]
    simp only[ws,lT,s1',s2',txt];by_cases hq:li z <+: li w
    .simp only[ws,hq,Bool.true_or]
    .simp only[ws,hq,s2',Bool.false_or];rfl
   .simp only[ws,mh]
   .have e3:List.map (λt=>t) (List.filter (λt=>decide (li z <+: li (txt t)) || decide (li (txt t) <+: li z)) (ys.map PyData.str))=(ys.filter λw=>decide (li z <+: li w) || decide (li w <+: li z)).map .str:=by
     rw[List.map_id',zbA];rfl
    rw[e3];have e4:=Gq (ys.filter λw=>decide (li z <+: li w) || decide (li w <+: li z)) [];simp only[zaZ]at e4;simp only[ws,e4];refine fin _ _ _ λh=>?_;have h':=of_decide_eq_true h;rw[List.filter_eq_nil_iff]at h';refine⟨λhz=>h' z hz ?_,λ_ y hy=>?_⟩
    .rw[zaB (List.prefix_refl _)];rfl
    .have:=h' y hy;rw[Bool.or_eq_true,decide_eq_true_eq,decide_eq_true_eq,not_or]at this;exact⟨this.2,this.1⟩
 .subst e;rw[dG]at h1 h2;simp only[ws];exact⟨ys,p',rfl,⟨by lia,h3,h4,h5⟩,h2,h1.mono (by lia)⟩
noncomputable def pD(ys:List Str):D:=.tuple (ys.map .str)
def sD(ps:List (List Str)):D:=.tuple (ps.map pD)
structure GS(ks:List Str)(ps:List (List Str)):Prop where
 l1:1<=ps.length
 l5:ps.length<=5
 w:∀ys∈ps,GP ks true ys
 fre:∀ys∈ps.dropLast,fr ys=true
def GP.tru{b:Bool}(h:GP ks b ys):GP ks true ys:=⟨h.l12,h.w,h.nd,λz=>by cases z⟩
def E6(T:TT ks){p:D}{q0:Nat}(hq0:1<=q0)(hq5:q0<=5)(hp:Pn n p)(hn:n<=40000)(hm:m<=12)(hs:1<=s)(hs6:s<=6):W (gc [p,tD ks,.int (q0:Nat),.int (m:Nat),.int (s:Nat)]) (λr=>∃ps p',r=(sD ps,[some p',none,none,none,none])/\GS ks ps/\ps.length<=q0/\(∀ys∈ps,ys.length<=m)/\Pn (n+1000) p'):=by
 simp only[ws,gc,pU];refine cr hp (by lia) (by lia) (by lia) λr p1 r0 r1 hp1=>?_;obtain⟨k,rfl⟩:=zaL r0;have ek:((1:Int)+(k:Int)).toNat=k+1:=by lia
 simp only[ws,ek];refine⟨by lia,?_⟩;refine bS (λi en=>∃p' ps o7 o8,en=[some p',some (tD ks),some (.int (q0:Nat)),some (.int (m:Nat)),some (.int (s:Nat)),some (.int (1+(k:Int))),some (.list (ps.map pD)),o7,o8]/\Pn (n+1+150*i) p'/\ps.length=i/\(∀ys∈ps,GP ks true ys)/\(∀j ys,ps[j]?=some ys->j≠k->fr ys=true)/\∀ys∈ps,ys.length<=m) ⟨p1,[],none,none,rfl,hp1,rfl,by simp,by simp,by simp⟩ (λi t en ht ⟨p',ps,o7,o8,e,h1,h2,h3,h4,h5⟩=>?_) λen ⟨p',ps,o7,o8,e,h1,h2,h3,h4,h5⟩=>?_
 .obtain⟨hi,rfl⟩:=eJ ht;subst e;simp only[ws,l9];refine cr h1 (by lia) (by lia) (by lia) λr2 p2 r20 r21 hp2=>?_;obtain⟨q,rfl⟩:=zaL r20;simp only[ws];refine cr hp2 (by lia) (by lia) (by lia) λr3 p3 r30 r31 hp3=>?_;obtain⟨q3,rfl⟩:=zaL r30;simp only[ws];have e1:(1:Int)+(q:Int)=((q+1:Nat):Int):=by lia
  rw[e1];refine W.use (vO T hp3 (by lia) (by lia) (by lia) (by lia)) ?_;rintro _ ⟨ys,p4,rfl,gp,glm,hp4⟩;simp only[ws];refine⟨szl (by lia),p4,ps++[ys],_,_,by rw[zaC];rfl,hp4.mono (by lia),by rw[zae,h2];rfl,λy hy=>?_,λj y hj hjk=>?_,λy hy=>?_⟩
  .rcases zax.mp hy with q|q
   .exact h3 y q
   .rw[zaG.mp q];exact gp.tru
  .rcases Nat.lt_or_ge j i with q|q
   .rw[zaR (by lia)]at hj;exact h4 j y hj hjk
   .have hl:=(zah.mp hj).1;rw[zae]at hl
    have:j=i:=by simp at hl;lia
    subst this;rw[zbG (by lia),h2,Nat.sub_self]at hj;cases hj;refine gp.fre (zaA ?_)
    lia
  .rcases zax.mp hy with q|q
   .exact h5 y q
   .rw[zaG.mp q];lia
 .subst e;rw[dG]at h1 h2;simp only[ws];refine⟨ps,p',rfl,⟨by lia,by lia,h3,λys hy=>?_⟩,by lia,h5,h1.mono (by lia)⟩;obtain⟨j,hj,rfl⟩:=List.mem_iff_getElem.mp hy;rw[List.length_dropLast]at hj;rw[List.getElem_dropLast];exact h4 j _ (zak (by lia)) (by lia)
def EX{f:ME}{ts0:List D}{Q:D×En->Prop}(h0:en[i]?=some (some (.list ts0)))(h:W (f en) (λr=>∃us ts,r.1=.list us/\r.2[i]?=some (some (.list ts))/\ts.length+us.length<=sizeLine/\Q (.none,r.2.set i (some (.list (ts++us)))))):W (nW i f en) Q:=by
 obtain⟨⟨t,en1⟩,e,us,ts,g1,g2,g3,g4⟩:=h.ex;have g1':t=.list us:=g1;subst g1';refine W.of ?_ g4;unfold nW;rw[h0];show(f en).bind _=_;rw[e];show(match PyData.list us,(en1[i]?).join with
  |.list us,some (.list ts)=>if ts.length+us.length<=sizeLine then some (PyData.none,en1.set i (some (.list (ts++us))))else none
  |_,_=>none)=_
 rw[show en1[i]?=some (some (.list ts))from g2];exact if_pos g3
def szB(h:n<=100000):n<=sizeLine:=by
 have:sizeLine=16777216:=by decide
 lia
def sK(h:n<100000):n<sizeLine:=by
 have:sizeLine=16777216:=by decide
 lia
noncomputable def nx(ts ys:List Str):List Str:=ts.flatMap λt=>ys.map λy=>t++y
def mk(ps:List (List Str)):List Str:=ps.foldl nx [""]
noncomputable def mkR:List (List Str)->List Str
 |[]=>[""]
 |p::ps=>p.flatMap λw=>(mkR ps).map λx=>w++x
def dD{b:Str}(h:li a=li b):a=b:=by
 obtain⟨⟨a⟩⟩:=a;obtain⟨⟨b⟩⟩:=b;have e:a=b:=h;rw[e]
def gI(a:Str):a++""=a:=dD (by rw[aS];exact zbr _)
def mz(a:Str): ""++a=a:=dD (by rw[aS];rfl)
def jU(a b c:Str):a++b++c=a++(b++c):=dD (by rw[aS,aS,aS,aS,zaD])
theorem wa:∀(ps:List (List Str)) (ts:List Str),ps.foldl nx ts=ts.flatMap λt=>(mkR ps).map λx=>t++x
 |[],ts=>by
  show ts=ts.flatMap λt:Str=>[t++("":Str)]
  induction ts with
  |nil=>rfl
  |cons t ts ih=>rw[List.flatMap_cons,<-ih,gI];rfl
 |p::ps,ts=>by
  rw[List.foldl_cons,wa ps];show(ts.flatMap λt=>p.map λy=>t++y).flatMap (λt=>(mkR ps).map λx=>t++x)=ts.flatMap λt=>(p.flatMap λw=>(mkR ps).map λx=>w++x).map λx=>t++x;rw[List.flatMap_assoc];refine congrArg (λf=>ts.flatMap f) (funext λt=>?_);rw[List.map_flatMap,List.flatMap_map];refine congrArg (λf=>p.flatMap f) (funext λy=>?_);rw[zaQ];refine zbv λx _=>?_;exact jU t y x
def sr(ps:List (List Str)):mk ps=mkR ps:=by
 unfold mk;rw[wa];show(mkR ps).map (λx:Str=>("":Str)++x)++[]=_;rw[zbr];rw[show(λx:Str=>("":Str)++x)=id from funext mz,List.map_id]
def mD(h:fr p=true):p.Pairwise λa b=>¬(li a <+: li b)/\¬(li b <+: li a):=of_decide_eq_true h
def wp{b:Str}(h:a++x=b++y):li a <+: li b\/li b <+: li a:=by
 have e:li a++li x=li b++li y:=by rw[<-aS,<-aS,h]
 rcases List.append_eq_append_iff.mp e with⟨c,h1,_⟩|⟨c,h1,_⟩
 .exact .inl ⟨c,h1.symm⟩
 .exact .inr ⟨c,h1.symm⟩
def wq(h:a++x=a++y):x=y:=dD (List.append_cancel_left (by rw[<-aS,<-aS,h]))
theorem uk:∀p:List Str,(p.flatMap λw:Str=>[w++("":Str)])=p
 |[]=>rfl
 |t::ts=>by rw[List.flatMap_cons,uk ts,gI];rfl
theorem y4:∀{ps:List (List Str)},(∀p∈ps,p.Nodup)->(∀p∈ps.dropLast,fr p=true)->(mkR ps).Nodup
 |[],_,_=>by simp[mkR]
 |[p],h,_=>by
  show(p.flatMap λw:Str=>[w++("":Str)]).Nodup;rw[uk];exact h p zaq
 |p::q::ps,h,hf=>by
  have ih:=y4 (ps:=q::ps) (λr hr=>h r (zaj _ hr)) λr hr=>hf r (by rw[List.dropLast_cons_of_ne_nil (by simp)];exact zaj _ hr);have hp:=mD (hf p (by rw[List.dropLast_cons_of_ne_nil (by simp)];exact zaq));unfold mkR;show List.Pairwise _ _;rw[List.pairwise_flatMap];refine⟨λw _=>?_,hp.imp λ{a b} hab x hx y hy e=>?_⟩
  .rw[List.pairwise_map];exact List.Pairwise.imp (λhxy e=>hxy (wq e)) ih
  .obtain⟨x',_,rfl⟩:=zaz.mp hx;obtain⟨y',_,rfl⟩:=zaz.mp hy;rcases wp e with z|z
   .exact hab.1 z
   .exact hab.2 z
noncomputable def cnt(ps:List (List Str)):Nat:=ps.foldl (λn p=>n*p.length) 1
theorem tG:∀(ts ys:List Str),(nx ts ys).length=ts.length*ys.length
 |[],ys=>by simp[nx]
 |t::ts,ys=>by
  have:=tG ts ys;show((ys.map λy=>t++y)++nx ts ys).length=_;rw[zae,zad,this,zac,Nat.succ_mul]
  lia
theorem ug:∀(ps:List (List Str)) (ts:List Str) (n:Nat),ts.length=n->(ps.foldl nx ts).length=ps.foldl (λn p=>n*p.length) n
 |[],_,_,h=>h
 |p::ps,ts,n,h=>by
  rw[List.foldl_cons,List.foldl_cons];exact ug ps _ _ (by rw[tG,h])
def y3(ps:List (List Str)):(mk ps).length=cnt ps:=ug ps [""] 1 rfl
noncomputable def dd(l:List Str):List Str:=l.foldl (λacc x=>if x∈acc then acc else acc++[x]) []
theorem sA:∀(l acc:List Str),(l.foldl (λacc x=>if x∈acc then acc else acc++[x]) acc).length<=acc.length+l.length
 |[],acc=>zav _
 |x::l,acc=>by
  rw[List.foldl_cons]
  have:=sA l (if x∈acc then acc else acc++[x]);rw[zac];by_cases hx:x∈acc
  .rw[if_pos hx]at this ⊢
   lia
  .rw[if_neg hx]at this ⊢;rw[zae]at this;have e:[x].length=1:=rfl
   lia
noncomputable def dS(l:List Str):List (D×D):=l.map λx=>(.str x,.bool true)
def Ll(a b:Str):kEq (.str a) (.str b)=decide (a=b):=by
 show(a==b)=_;by_cases h:a=b
 .rw[h];simp
 .rw[zaA h];simp[h]
def Lg:∀l:List Str,noT (dS l)=true
 |[]=>rfl
 |_::_=>rfl
def ET(l:List Str)(x:Str):((dS l).any λkv=>kEq kv.1 (.str x))=decide (x∈l):=by
 unfold dS
 induction l with
 |nil=>simp
 |cons y l ih=>
  rw[zar,List.any_cons,ih];show(kEq (.str y) (.str x) || _)=_;rw[Ll];by_cases h:y=x
  .simp[h]
  .have h':¬x=y:=λe=>h e.symm;simp[h,h']
def JQ(l:List Str)(x:Str):(cz (dS l) (.str x)).isSome=decide (x∈l):=by
 rw[<-ET l x];unfold cz;rw[Option.isSome_map,Bool.eq_iff_iff,List.find?_isSome,zbL]
def K9(l:List Str)(x:Str):kF (dS l) (.str x) (.bool true)=dS (if x∈l then l else l++[x]):=by
 unfold kF;rw[ET];by_cases h:x∈l
 .rw[zaB h,if_pos rfl,if_pos h];unfold dS;rw[zaQ];refine zbv λy _=>?_;show(if kEq (.str y) (.str x)=true then _ else _)=_;split<;>rfl
 .rw[zaA h,if_neg zbn,if_neg h];unfold dS;rw[zaC];rfl
def vS(l:List Str)(x:Str):pv (.str x) (.dict (dS l))=some (.bool (!decide (x∈l))):=by
 show(if noT (dS l)=true then(kOf (.str x)).map (λ_=>PyData.bool (!(cz (dS l) (.str x)).isSome))else none)=_;rw[if_pos (Lg l),JQ];rfl
def Fd{fk:ME}(hi:(en[i]?).join=some (.dict (dS l)))(hk:fk en=some (.str x,en))(hl:l.length<100000)(h:Q (.nx (en.set i (some (.dict (dS (if x∈l then l else l++[x]))))))):W (mx i fk (eC (.bool true)) en) Q:=by
 refine W.of ?_ h;unfold mx;show(match (en[i]?).join with
  |some _=>(fk en).bind λq=>match (q.2[i]?).join with
   |some (.dict ks)=>(kOf q.1).bind λ_=>if ks.length<sizeLine then some (Fl.nx (q.2.set i (some (.dict (kF ks q.1 (.bool true))))))else none
   |_=>none
  |none=>none)=_
 rw[hi,hk];show(match (en[i]?).join with
   |some (.dict ks)=>(kOf (.str x)).bind λ_=>if ks.length<sizeLine then some (Fl.nx (en.set i (some (.dict (kF ks (.str x) (.bool true))))))else none
   |_=>none)=_
 rw[hi];show(if(dS l).length<sizeLine then _ else _)=_;rw[if_pos (by unfold dS;rw[zad];exact sK hl),K9]
def KG{C:ME}(hC:C=e2 ba (ac 1) (ac 0)){t:Str}(ht:t.length<=1000)(hy:∀y∈ys,y.length<=1000)(hl:ys.length<=1000){Q:List D×En->Prop}(h:∀o,Q ((ys.map λy=>t++y).map PyData.str,o::[some (.str t)])):
  W (lcF (gN 0) cY C (ys.map PyData.str) [] [none,some (.str t)]) Q:=by
 subst hC;refine pG (λu=>.str (t++txt u)) (by rw[zad];exact sz hl) (λu hu=>?_) λo=>?_
 .obtain⟨y,hy',rfl⟩:=zaz.mp hu;simp only[ws,txt];exact szB (by have:=hy y hy';lia)
 .have e:(ys.map PyData.str).map (λu=>PyData.str (t++txt u))=(ys.map λy=>t++y).map PyData.str:=by
   rw[zaQ,zaQ];rfl
  rw[e];exact h o
structure SB(ps:List (List Str)):Prop where
 l5:ps.length<=5
 l20:∀p∈ps,p.length<=20
 w:∀p∈ps,∀y∈p,y.length<=6
 c:∀i,cnt (ps.take i)<=50000
def B0(ps:List (List Str))(p:List Str):cnt (ps++[p])=cnt ps*p.length:=by
 unfold cnt;rw[List.foldl_append];rfl
def vY(ps:List (List Str))(p:List Str):mk (ps++[p])=nx (mk ps) p:=by
 unfold mk;rw[List.foldl_append];rfl
def JL(h:x∈nx ts ys):∃t∈ts,∃y∈ys,x=t++y:=by
 obtain⟨t,ht,h⟩:=List.mem_flatMap.mp h;obtain⟨y,hy,rfl⟩:=zaz.mp h;exact⟨t,ht,y,hy,rfl⟩
theorem xh{ps:List (List Str)}(h:∀p∈ps,∀y∈p,y.length<=6):∀(i:Nat) (x:Str),x∈mk (ps.take i)->x.length<=6*i
 |0,x,hx=>by
  have:x=("":Str):=zaG.mp hx;rw[this];exact zbj _
 |i+1,x,hx=>by
  rcases Nat.lt_or_ge i ps.length with hi|hi
  .rw[dg (zak hi),vY]at hx;obtain⟨t,ht,y,hy,rfl⟩:=JL hx;have h1:=xh h i t ht;have h2:=h _ (zaJ hi) y hy;rw[cb]
   lia
  .rw[List.take_of_length_le (by lia)]at hx
   have:=xh h i x (by rw[List.take_of_length_le hi];exact hx)
   lia
def bU{α:Type}(l:List α):l.take l.length=l:=zaP
def plD(pl:List (List (List Str))):D:=.tuple (pl.map sD)
def tot(pl:List (List (List Str))):Nat:=(pl.map cnt).sum
structure PB(pl:List (List (List Str))):Prop where
 l4:pl.length<=4
 b:∀ps∈pl,SB ps
theorem qc:∀l:List Nat,(l.map λn:Nat=>(n:Int)).sum=((l.sum:Nat):Int)
 |[]=>rfl
 |a::l=>by rw[zar,List.sum_cons,List.sum_cons,qc l,Int.natCast_add]
noncomputable def ddF(acc l:List Str):List Str:=l.foldl (λacc x=>if x∈acc then acc else acc++[x]) acc
def zd(ht:∀t∈ts,t.length<=1000)(hy:∀y∈ys,y.length<=1000)(hl:ys.length<=1000)(hc:ts.length*ys.length<=100000)(hq:∀o7,Q (.nx [x0,x1,x2,x3,x4,some (pD ys),some (.list ((nx ts ys).map .str)),o7])):
  W (c9 (gN 7) jI (ts.map .str) [x0,x1,x2,x3,x4,some (pD ys),some (.list []),x7]) Q:=by
 refine bS (λi en=>∃o7,en=[x0,x1,x2,x3,x4,some (pD ys),some (.list ((nx (ts.take i) ys).map .str)),o7]) ⟨x7,rfl⟩ (λi t en hti ⟨o3,e⟩=>?_) λen ⟨o3,e⟩=>?_
 .subst e;rw[zao]at hti;obtain⟨x,hx,rfl⟩:=zab.mp hti;have hi:=(zah.mp hx).1;simp only[ws,jI,pD];refine EX (ts0:=(nx (ts.take i) ys).map .str) rfl ?_;simp only[ws];refine KG rfl (ht x (zaW hx)) hy hl λo=>?_;simp only[ws];have e1:nx (ts.take (i+1)) ys=nx (ts.take i) ys++ys.map λy=>x++y:=by
   rw[dg hx];unfold nx;rw[List.flatMap_append];simp
  have l1:=tG (ts.take i) ys;rw[zaE,Nat.min_eq_left (by lia)]at l1;have l2:i*ys.length+ys.length<=ts.length*ys.length:=by
   rw[<-Nat.succ_mul];exact Nat.mul_le_mul_right _ hi
  refine⟨_,(nx (ts.take i) ys).map .str,rfl,rfl,?_,?_⟩
  .rw[zad,zad,zad,l1];exact szB (by lia)
  .exact⟨_,by rw[e1,zaC]⟩
 .subst e;rw[zad,bU];exact hq o3
def Ay(B:SB ps)(hq:∀o5 o6 o7,Q (.nx [x0,x1,x2,x3,some (.list ((mk ps).map .str)),o5,o6,o7])):
  W (c9 (gN 5) jH (ps.map pD) [x0,x1,x2,x3,some (.list [.str ""]),x5,x6,x7]) Q:=by
 refine bS (λi en=>∃o5 o6 o7,en=[x0,x1,x2,x3,some (.list ((mk (ps.take i)).map .str)),o5,o6,o7]) ⟨x5,x6,x7,rfl⟩ (λi t en ht ⟨o5,o6,o7,e⟩=>?_) λen ⟨o5,o6,o7,e⟩=>?_
 .subst e;rw[zao]at ht;obtain⟨p,hp,rfl⟩:=zab.mp ht;have hm:=zaW hp;have hi:=(zah.mp hp).1;have l5:=B.l5;have c1:=B.c (i+1);rw[dg hp,B0]at c1;simp only[ws,jH];refine zd (λt ht=>?_) (λy hy=>?_) (by have:=B.l20 p hm;lia) (by rw[y3];lia) λo7=>?_
  .have:=xh B.w i t ht
   lia
  .have:=B.w p hm y hy
   lia
  .simp only[ws];exact⟨_,_,_,by rw[dg hp,vY]⟩
 .subst e;rw[zad,bU];exact hq o5 o6 o7
def FD{acc:List Str}(hl:acc.length+l.length<=50000)(hq:∀o7,Q (.nx [x0,some (.list ((ddF acc l).map .str)),some (.dict (dS (ddF acc l))),x3,x4,x5,x6,o7])):
  W (c9 (gN 7) gW (l.map .str) [x0,some (.list (acc.map .str)),some (.dict (dS acc)),x3,x4,x5,x6,x7]) Q:=by
 refine bS (λi en=>∃o7,en=[x0,some (.list ((ddF acc (l.take i)).map .str)),some (.dict (dS (ddF acc (l.take i)))),x3,x4,x5,x6,o7]) ⟨x7,rfl⟩ (λi t en ht ⟨o7,e⟩=>?_) λen ⟨o7,e⟩=>?_
 .subst e;rw[zao]at ht;obtain⟨x,hx,rfl⟩:=zab.mp ht;have hi:=(zah.mp hx).1;have le:=sA (l.take i) acc;rw[zaE]at le;have e1:ddF acc (l.take (i+1))=if x∈ddF acc (l.take i)then ddF acc (l.take i)else ddF acc (l.take i)++[x]:=by
   rw[dg hx];unfold ddF;rw[List.foldl_append];rfl
  have hle:(ddF acc (l.take i)).length<100000:=by unfold ddF;lia
  by_cases h:x∈ddF acc (l.take i)
  .have e2:decide (x∈ddF acc (l.take i))=true:=zaB h;simp only[ws,gW,vS,e2];refine⟨some (.str x),?_⟩;rw[e1,if_pos h]
  .have e2:decide (x∈ddF acc (l.take i))=false:=zaA h;simp only[ws,gW,vS,e2];refine Fd (l:=ddF acc (l.take i)) (x:=x) rfl rfl hle ?_;simp only[ws,zad];refine⟨sK hle,some (.str x),?_⟩;rw[e1,if_neg h,zaC];rfl
 .subst e;rw[zad,bU];exact hq o7
def um(qs:List (List (List Str))):(qs.flatMap mk).length=tot qs:=by
 induction qs with
 |nil=>rfl
 |cons q qs ih=>
  rw[List.flatMap_cons,zae,ih,y3];rfl
def IW(pl:List (List (List Str)))(i:Nat):tot (pl.take i)<=tot pl:=by
 have:tot pl=tot (pl.take i)+tot (pl.drop i):=by
  unfold tot;rw[<-List.sum_append,<-zaC,List.take_append_drop]
 lia
def Ji(B:PB pl)(h:tot pl<=20000):W (ib [plD pl]) (λr=>r=(.list ((dd (pl.flatMap mk)).map .str),[none])):=by
 simp only[ws,ib,rO];refine W.of (show xQ _=some (.dict [],[some (plD pl),some (.list []),none,none,none,none,none,none])from rfl) ?_;simp only[ws,plD];refine bS (λi en=>∃o3 o4 o5 o6 o7,en=[some (plD pl),some (.list ((dd ((pl.take i).flatMap mk)).map .str)),some (.dict (dS (dd ((pl.take i).flatMap mk)))),o3,o4,o5,o6,o7]) ⟨none,none,none,none,none,rfl⟩ (λi t en ht ⟨o3,o4,o5,o6,o7,e⟩=>?_) λen ⟨o3,o4,o5,o6,o7,e⟩=>?_
 .subst e;rw[zao]at ht;obtain⟨ps,hps,rfl⟩:=zab.mp ht;have hm:=zaW hps;have t1:=IW pl (i+1);have e1:((pl.take (i+1)).flatMap mk)=(pl.take i).flatMap mk++mk ps:=by
   rw[dg hps,List.flatMap_append];simp
  rw[<-um,e1,zae]at t1;have le:=sA ((pl.take i).flatMap mk) [];simp only[ws,nb,sD];refine Ay (B.b ps hm) λp5 p6 p7=>?_;simp only[ws];refine FD (by have z:([]:List Str).length=0:=rfl;unfold dd;lia) λq7=>?_;simp only[ws];have e2:ddF (dd ((pl.take i).flatMap mk)) (mk ps)=dd ((pl.take (i+1)).flatMap mk):=by
   rw[e1];unfold dd ddF;rw[List.foldl_append]
  rw[e2];exact⟨_,_,_,_,_,rfl⟩
 .subst e;rw[zad,bU];simp only[ws]
theorem uC:∀(ps:List (List Str)) (n:Nat),ps.foldl (λn p=>n*p.length) n=n*cnt ps
 |[],n=>by simp[cnt]
 |p::ps,n=>by
  rw[List.foldl_cons,uC ps];show _=n*ps.foldl (λn p=>n*p.length) (1*p.length);rw[uC ps,Nat.one_mul,Nat.mul_assoc]
def gF(p:List Str)(ps:List (List Str)):cnt (p::ps)=p.length*cnt ps:=by
 show ps.foldl (λn p=>n*p.length) (1*p.length)=_;rw[uC,Nat.one_mul]
theorem qE{m:Nat}(h1:1<=m):∀{ps:List (List Str)} {k:Nat},(∀p∈ps,p.length<=m)->ps.length<=k->cnt ps<=m ^ k
 |[],k,_,_=>Nat.pow_pos h1
 |p::ps,0,_,h=>by cases h
 |p::ps,k+1,h,hl=>by
  rw[gF,Nat.pow_succ,Nat.mul_comm];exact Nat.mul_le_mul (qE h1 (λq hq=>h q (zaj _ hq)) (by simpa using hl)) (h p zaq)
structure GT(ps:List (List Str)):Prop where
 l1:1<=ps.length
 l3:ps.length<=3
 nd:∀p∈ps,p.Nodup
 fre:∀p∈ps.dropLast,fr p=true
 w:∀p∈ps,∀y∈p,y.length<=6
 l13:∀p∈ps,p.length<=13
 c:∀i,cnt (ps.take i)<=216
 w1:∀p∈ps,∀y∈p,1<=y.length
structure BS(ps:List (List Str)):Prop where
 l1:1<=ps.length
 l3:ps.length<=3
 nd:∀p∈ps,p.Nodup
 fre:∀p∈ps.dropLast,fr p=true
 w:∀p∈ps,∀y∈p,y.length<=6
 m5:∀p∈ps,p.length<=5
 w1:∀p∈ps,∀y∈p,1<=y.length
def GT.sb(g:GT ps):SB ps:=⟨by have:=g.l3;lia,λp hp=>by have:=g.l13 p hp;lia,g.w,λi=>by have:=g.c i;lia⟩
def GT.cn(g:GT ps):cnt ps<=216:=by
 have:=g.c ps.length;rw[bU]at this;exact this
def Lq(g:GT ps):(mk ps).Nodup:=by
 rw[sr];exact y4 g.nd g.fre
def uB{b:Nat}(h1:1<=m)(h:∀p∈ps,p.length<=m)(hl:ps.length<=k)(hb:m ^ k<=b)(i:Nat):cnt (ps.take i)<=b:=
 zau (qE h1 (λp hp=>h p (List.mem_of_mem_take hp)) (by rw[zaE];lia)) hb
def BS.gt(b:BS ps):GT ps:=⟨b.l1,b.l3,b.nd,b.fre,b.w,λp hp=>by have:=b.m5 p hp;lia,uB (m:=5) (k:=3) (by decide) b.m5 b.l3 (by decide),b.w1⟩
def GS.w1(g:GS ks ps):∀p∈ps,∀y∈p,1<=y.length:=λp hp y hy=>by have:=((g.w p hp).w y hy).l1;rw[ll]at this;exact this
def GS.bs(g:GS ks ps)(h3:ps.length<=3)(h5:∀p∈ps,p.length<=5):BS ps:=⟨g.l1,h3,λp hp=>(g.w p hp).nd,g.fre,λp hp y hy=>by have:=((g.w p hp).w y hy).lm;rw[ll]at this;exact this,h5,g.w1⟩
noncomputable def mg(p q:List Str):List Str:=p.flatMap λa=>(q.filter λb=>decide ((a++b).length<=6)).map λb=>a++b
def y6(h:x∈mg p q):∃a∈p,∃b∈q,x=a++b/\x.length<=6:=by
 obtain⟨a,ha,h⟩:=List.mem_flatMap.mp h;obtain⟨b,hb,rfl⟩:=zaz.mp h;obtain⟨hb,hl⟩:=zbB.mp hb;exact⟨a,ha,b,hb,rfl,of_decide_eq_true hl⟩
theorem tL(q:List Str):∀p:List Str,(mg p q).length<=p.length*q.length
 |[]=>by simp[mg]
 |a::p=>by
  have:=tL q p;have h2:=List.length_filter_le (λb=>decide ((a++b).length<=6)) q;show(((q.filter λb=>decide ((a++b).length<=6)).map λb=>a++b)++mg p q).length<=_;rw[zae,zad,zac,Nat.succ_mul]
  lia
def Lh(hp:fr p=true)(hq:q.Nodup):(mg p q).Nodup:=by
 unfold mg;show List.Pairwise _ _;rw[List.pairwise_flatMap];refine⟨λw _=>?_,(mD hp).imp λ{a b} hab x hx y hy e=>?_⟩
 .rw[List.pairwise_map];exact List.Pairwise.imp (λhxy e=>hxy (wq e)) (List.Pairwise.sublist List.filter_sublist hq)
 .obtain⟨x',_,rfl⟩:=zaz.mp hx;obtain⟨y',_,rfl⟩:=zaz.mp hy;rcases wp e with z|z
  .exact hab.1 z
  .exact hab.2 z
def vL{b:Str}(h:li (a++x) <+: li (b++y)):li a <+: li b\/li b <+: li a:=by
 rw[aS,aS]at h;obtain⟨t,ht⟩:=h;rw[zaD]at ht;rcases List.append_eq_append_iff.mp ht with⟨c,h1,_⟩|⟨c,h1,_⟩
 .exact .inl ⟨c,h1.symm⟩
 .exact .inr ⟨c,h1.symm⟩
def vK(h:li (a++x) <+: li (a++y)):li x <+: li y:=by
 rw[aS,aS]at h;obtain⟨t,ht⟩:=h;rw[zaD]at ht;exact⟨t,List.append_cancel_left ht⟩
def Lj(hp:fr p=true)(hq:fr q=true):fr (mg p q)=true:=by
 refine zaB ?_;unfold mg;rw[List.pairwise_flatMap];refine⟨λw _=>?_,(mD hp).imp λ{a b} hab x hx y hy=>?_⟩
 .rw[List.pairwise_map];exact List.Pairwise.imp (λhxy=>⟨λe=>hxy.1 (vK e),λe=>hxy.2 (vK e)⟩) (List.Pairwise.sublist List.filter_sublist (mD hq))
 .obtain⟨x',_,rfl⟩:=zaz.mp hx;obtain⟨y',_,rfl⟩:=zaz.mp hy;exact⟨λe=>(vL e).elim hab.1 hab.2,λe=>(vL e).elim hab.2 hab.1⟩
def Li(b:BS (p::q::r))(h12:p.length*q.length<=12):GT (mg p q::r):=by
 have hp:fr p=true:=b.fre p (by rw[List.dropLast_cons_of_ne_nil (by simp)];exact zaq);have hml:=tL q p;have l3:=b.l3;simp only[zac]at l3;refine⟨by simp,by simp;lia,λx hx=>?_,λx hx=>?_,λx hx y hy=>?_,λx hx=>?_,λi=>?_,λx hx y hy=>?_⟩
 .rcases zay.mp hx with rfl|hx
  .exact Lh hp (b.nd q (by simp))
  .exact b.nd x (by simp[hx])
 .cases r with
  |nil=>cases hx
  |cons z r=>
   rw[List.dropLast_cons_of_ne_nil (by simp)]at hx;rcases zay.mp hx with rfl|hx
   .refine Lj hp (b.fre q ?_);rw[List.dropLast_cons_of_ne_nil (by simp),List.dropLast_cons_of_ne_nil (by simp)];simp
   .refine b.fre x ?_;rw[List.dropLast_cons_of_ne_nil (by simp),List.dropLast_cons_of_ne_nil (by simp)];exact zaj _ (zaj _ hx)
 .rcases zay.mp hx with rfl|hx
  .obtain⟨_,_,_,_,_,h⟩:=y6 hy;exact h
  .exact b.w x (by simp[hx]) y hy
 .rcases zay.mp hx with rfl|hx
  .lia
  .have:=b.m5 x (by simp[hx])
   lia
 .cases i with
  |zero=>show(1:Nat)<=216;decide
  |succ i=>
   rw[List.take_succ_cons,gF];have c1:cnt (r.take i)<=5 ^ 1:=qE (by decide) (λx hx=>b.m5 x (by simp[List.mem_of_mem_take hx])) (by rw[zaE];lia);exact zau (Nat.mul_le_mul (zau hml h12) c1) (by decide)
 .rcases zay.mp hx with rfl|hx
  .obtain⟨a,ha,c,hc,e,h⟩:=y6 hy
   have:=b.w1 p (by simp) a ha;rw[e,<-ll,aS,zae,ll]
   lia
  .exact b.w1 x (by simp[hx]) y hy
def FQ{more:List Str}(b:BS (ps++[p]))(hm:more.length<=1)(hn:∀x∈more,x∉p)(hw:∀x∈more,x.length<=6)(hw1:∀x∈more,1<=x.length):GT (ps++[p.reverse++more]):=by
 have l3:=b.l3;rw[zae]at l3;have e1:[p].length=1:=rfl;have hp5:=b.m5 p (by simp);refine⟨by simp,by simp;lia,λx hx=>?_,λx hx=>?_,λx hx y hy=>?_,λx hx=>?_,uB (m:=6) (k:=3) (by decide) (λx hx=>?_) (by simp;lia) (by decide),λx hx y hy=>?_⟩
 .rcases zax.mp hx with hx|hx
  .exact b.nd x (by simp[hx])
  .rw[zaG.mp hx,zbd];refine⟨(List.reverse_perm p).nodup_iff.mpr (b.nd p (by simp)),?_,λa ha c hc e=>?_⟩
   .match more,hm with
    |[],_=>exact List.nodup_nil
    |[z],_=>simp
   .subst e;exact hn a hc (zbH.mp ha)
 .rw[List.dropLast_concat]at hx;exact b.fre x (by rw[List.dropLast_concat];exact hx)
 .rcases zax.mp hx with hx|hx
  .exact b.w x (by simp[hx]) y hy
  .rw[zaG.mp hx]at hy;rcases zax.mp hy with hy|hy
   .exact b.w p (by simp) y (zbH.mp hy)
   .exact hw y hy
 .rcases zax.mp hx with hx|hx
  .have:=b.m5 x (by simp[hx]);lia
  .rw[zaG.mp hx,zae,List.length_reverse];lia
 .rcases zax.mp hx with hx|hx
  .have:=b.m5 x (by simp[hx]);lia
  .rw[zaG.mp hx,zae,List.length_reverse];lia
 .rcases zax.mp hx with hx|hx
  .exact b.w1 x (by simp[hx]) y hy
  .rw[zaG.mp hx]at hy;rcases zax.mp hy with hy|hy
   .exact b.w1 p (by simp) y (zbH.mp hy)
   .exact hw1 y hy
def Kp(h:fr p=true):fr p.reverse=true:=zaB (List.pairwise_reverse.mpr ((mD h).imp λ{a b} z=>⟨z.2,z.1⟩))
def Gv(ps:List (List Str)):cnt (ps.map List.reverse)=cnt ps:=by
 induction ps with
 |nil=>rfl
 |cons p ps ih=>rw[zar,gF,gF,ih,List.length_reverse]
def Jk(g:GT ps):GT (ps.map List.reverse):=by
 refine⟨by rw[zad];exact g.l1,by rw[zad];exact g.l3,λx hx=>?_,λx hx=>?_,λx hx y hy=>?_,λx hx=>?_,λi=>?_,λx hx y hy=>?_⟩
 .obtain⟨p,hp,rfl⟩:=zaz.mp hx;exact(List.reverse_perm p).nodup_iff.mpr (g.nd p hp)
 .rw[<-List.map_dropLast]at hx;obtain⟨p,hp,rfl⟩:=zaz.mp hx;exact Kp (g.fre p hp)
 .obtain⟨p,hp,rfl⟩:=zaz.mp hx;exact g.w p hp y (zbH.mp hy)
 .obtain⟨p,hp,rfl⟩:=zaz.mp hx;rw[List.length_reverse];exact g.l13 p hp
 .rw[<-List.map_take,Gv];exact g.c i
 .obtain⟨p,hp,rfl⟩:=zaz.mp hx;exact g.w1 p hp y (zbH.mp hy)
def BJ{p0:List Str}(b:BS (p0::r))(hl:ys.length<=1)(hf:fr ys=true)(nd:ys.Nodup)(hw:∀y∈ys,y.length<=6)(hw1:∀y∈ys,1<=y.length):GT (ys::r):=by
 have l3:=b.l3;simp only[zac]at l3;refine⟨by simp,by simp;lia,λx hx=>?_,λx hx=>?_,λx hx y hy=>?_,λx hx=>?_,uB (m:=5) (k:=3) (by decide) (λx hx=>?_) (by simp;lia) (by decide),λx hx y hy=>?_⟩
 .rcases zay.mp hx with rfl|hx
  .exact nd
  .exact b.nd x (by simp[hx])
 .cases r with
  |nil=>cases hx
  |cons z r=>
   rw[List.dropLast_cons_of_ne_nil (by simp)]at hx;rcases zay.mp hx with rfl|hx
   .exact hf
   .refine b.fre x ?_;rw[List.dropLast_cons_of_ne_nil (by simp)];exact zaj _ hx
 .rcases zay.mp hx with rfl|hx
  .exact hw y hy
  .exact b.w x (by simp[hx]) y hy
 .rcases zay.mp hx with rfl|hx
  .lia
  .have:=b.m5 x (by simp[hx]);lia
 .rcases zay.mp hx with rfl|hx
  .lia
  .exact b.m5 x (by simp[hx])
 .rcases zay.mp hx with rfl|hx
  .exact hw1 y hy
  .exact b.w1 x (by simp[hx]) y hy
def vB(n d:Nat):HT.sIx n d (some (-1))=n-1:=by
 have:=HT.clip_eq (-1) n d;rw[if_pos (by decide)]at this
 lia
def rp{α:Type}(ts:List α)(k:Nat):cq ts (some (k:Int)) none=ts.drop k:=by
 unfold cq;rw[HT.sIx_none,HT.sIx_nat];rcases Nat.le_total k ts.length with h|h
 .rw[Nat.min_eq_left h,List.take_of_length_le (by rw[zaF];lia)]
 .rw[Nat.min_eq_right h,List.drop_of_length_le (zav _),List.drop_of_length_le h];simp
def rn{α:Type}(ts:List α):cq ts none (some (-1))=ts.dropLast:=by
 unfold cq;rw[HT.sIx_none,vB,za2,List.dropLast_eq_take];rfl
def FK(h:p[i]?=some a):mg (p.take (i+1)) q=mg (p.take i) q++(q.filter λb=>decide ((a++b).length<=6)).map λb=>a++b:=by
 rw[dg h];unfold mg;rw[List.flatMap_append];simp
def y8(b:BS ps):W (cu [sD ps]) (λr=>∃qs,r=(sD qs,[none])/\GT qs):=by
 match ps,b with
 |[],b=>cases b.l1
 |[p],b=>
  have e:((([p]:List (List Str)).length:Int)<2):=by show(1:Int)<2;decide
  simp only[ws,cu,gg,sD,zad,e];exact⟨_,rfl,b.gt⟩
 |p::q::r,b=>
  have hp5:=b.m5 p (by simp);have hq5:=b.m5 q (by simp);have l3:=b.l3;simp only[zac]at l3;have e:¬(((p::q::r).length:Int)<2):=by simp only[zac];lia
  have a0:atI ((p::q::r).map pD) 0=some (pD p):=fY _ 0;have a1:atI ((p::q::r).map pD) 1=some (pD q):=fY _ 1;by_cases h12:(12:Int)<(p.length:Int)*(q.length:Int)
  .simp only[ws,cu,gg,sD,e,a0,a1,pD,zad,h12];exact⟨.inl ⟨by lia,by lia⟩,_,rfl,b.gt⟩
  .have h12':p.length*q.length<=12:=by
    rw[<-Int.natCast_mul]at h12
    lia
   simp only[ws,cu,gg,sD,e,a0,a1,pD,zad,h12];refine⟨.inl ⟨by lia,by lia⟩,?_⟩;refine bS (λi en=>∃o2,en=[some (sD (p::q::r)),some (.list ((mg (p.take i) q).map .str)),o2]) ⟨none,rfl⟩ (λi t en ht ⟨o2,en1⟩=>?_) λen ⟨o2,en1⟩=>?_
   .subst en1;rw[zao]at ht;obtain⟨x,hx,rfl⟩:=zab.mp ht;have hxm:=zaW hx;have hx6:=b.w p (by simp) x hxm;have lm:=tL q (p.take i);rw[zaE]at lm;have lm2:(mg (p.take i) q).length<=25:=zau lm (zau (Nat.mul_le_mul (by lia) hq5) (by decide:5*5<=25));simp only[ws,j4];refine EX (ts0:=(mg (p.take i) q).map .str) rfl ?_;simp only[ws,sD,a1,pD];refine lR (λt=>decide ((x++txt t).length<=6)) (λt=>.str (x++txt t)) (by rw[zad];exact sz (by lia)) (λt ht=>?_) (λt ht _=>?_) λo'=>?_
    .obtain⟨y,hy,rfl⟩:=zaz.mp ht;have hy6:=b.w q (by simp) y hy;simp only[ws,jY,txt];have e9:decide (((x++y).length:Int)<=6)=decide ((x++y).length<=6):=by rw[Bool.eq_iff_iff,decide_eq_true_eq,decide_eq_true_eq];lia
     rw[e9];refine⟨szB (by lia),szB (by rw[cb];lia),rfl⟩
    .obtain⟨y,hy,rfl⟩:=zaz.mp ht;have hy6:=b.w q (by simp) y hy;simp only[ws,j6,txt];exact szB (by lia)
    .simp only[ws];have e3:((q.map PyData.str).filter λt=>decide ((x++txt t).length<=6)).map (λt=>PyData.str (x++txt t))=((q.filter λb=>decide ((x++b).length<=6)).map λb=>x++b).map .str:=by
      rw[zbA,zaQ,zaQ];rfl
     rw[e3];refine⟨_,(mg (p.take i) q).map .str,rfl,rfl,?_,?_⟩
     .have h2:=List.length_filter_le (λb=>decide ((x++b).length<=6)) q;rw[zad,zad,zad];exact szB (by lia)
     .exact⟨_,by rw[FK hx,zaC]⟩
   .subst en1;rw[zad,bU];have ed:cq ((p::q::r).map pD) (some 2) none=r.map pD:=rp _ 2;simp only[ws,sD,ed];refine⟨szB (by simp only[zac,List.length_nil];lia),mg p q::r,rfl,Li b h12'⟩
def v8(z:Str)(ys:List Str):inL (.str z) (.tuple (ys.map .str))=some (.bool (decide (z∈ys))):=by
 show grd _ _=_;unfold grd;rw[if_pos ⟨rfl,dH ys,by rw[cN];decide⟩,jV]
def FJ(T:TT ks){p:D}(hp:Pn n p)(hn:n<=100000)(hl:ys.length<=5):W (gf [p,tD ks,pD ys]) (λr=>∃ms p',r=(pD ms,[some p',none,none])/\ms.length<=1/\(∀x∈ms,x∉ys)/\(∀x∈ms,x.length<=6)/\(∀x∈ms,1<=x.length)/\Pn (n+10) p'):=by
 simp only[ws,gf,pX];refine W.use (vy T hp hn (m:=3) (by decide) (by decide)) ?_;rintro _ ⟨z,p',rfl,gz,hp'⟩;have e:=v8 z ys;by_cases h:z∈ys
 .have e2:decide (z∈ys)=true:=zaB h;simp only[ws,pD,e,e2];exact⟨[],p',rfl,by decide,by simp,by simp,by simp,hp'⟩
 .have e2:decide (z∈ys)=false:=zaA h;have e3:¬((11:Int)<(ys.length:Int)):=by lia
  simp only[ws,pD,e,e2,zad,e3];refine⟨[z],p',rfl,zav 1,by simpa using h,λx hx=>?_,λx hx=>?_,hp'⟩
  .rw[zaG.mp hx]
   have:=gz.lm;rw[ll]at this
   lia
  .rw[zaG.mp hx]
   have:=gz.l1;rw[ll]at this;exact this
noncomputable def AN:D->D
 |.tuple ts=>.tuple ts.reverse
 |_=>.none
def PI(ks:List Str)(i:Nat)(en:En):Prop:=∃p pl o6 o7 o8 o9,en=[some p,some (tD ks),some (.int 3),some (.int 5),some (.int 3),some (plD pl),o6,o7,o8,o9]/\Pn (31+2000*i) p/\pl.length=i/\(∀ps∈pl,GT ps)/\∀ps,pl[0]?=some ps->BS ps
def PI.fin{p:D}{qs:List (List Str)}{o6 o7 o8 o9:Option D}{Q:En->Prop}(hi:i<3)(hp:Pn (31+2000*(i+1)) p)(hl:pl.length=i)(hg:∀ps∈pl,GT ps)(h0:∀ps,pl[0]?=some ps->BS ps)(hq:GT qs)(hb:i=0->BS qs)(hQ:∀en,PI ks (i+1) en->Q en):
  pl.length+[sD qs].length<=sizeLine/\Q [some p,some (tD ks),some (.int 3),some (.int 5),some (.int 3),some (.tuple (pl.map sD++[sD qs])),o6,o7,o8,o9]:=by
 refine⟨szB (by simp only[zac,List.length_nil];lia),hQ _ ⟨p,pl++[qs],o6,_,o8,o9,by unfold plD;rw[zaC];rfl,hp,by rw[zae,hl];rfl,λps hps=>?_,λps hps=>?_⟩⟩
 .rcases zax.mp hps with z|z
  .exact hg ps z
  .rw[zaG.mp z];exact hq
 .cases pl with
  |nil=>
   cases hps;exact hb hl.symm
  |cons a r=>exact h0 ps hps
def yJ(T:TT ks)(hi:i<3)(h:PI ks i en)(hQ:∀en,PI ks (i+1) en->Q (.nx en)):W (i7 (en.set 6 (some (.int (0+(i:Nat)))))) Q:=by
 obtain⟨p,pl,o6,o7,o8,o9,rfl,hp,hl,hg,h0⟩:=h;simp only[ws,i7];refine W.use (E6 T (q0:=3) (m:=5) (s:=3) (by decide) (by decide) hp (by lia) (by decide) (by decide) (by decide)) ?_;rintro _ ⟨qs,p1,rfl,gs,gl,g5,hp1⟩;have bs:BS qs:=gs.bs gl g5;simp only[ws];refine cr hp1 (by lia) (by decide) (by decide) λr p2 r0 r6 hp2=>?_;simp only[ws];have pm:Pn (31+2000*(i+1)) p2:=hp2.mono (by lia);by_cases k0:i=0
 .have hk:¬((0:Int)<0+(i:Nat)):=by lia
  simp only[ws,hk,plD];exact PI.fin hi pm hl hg h0 bs.gt (λ_=>bs) hQ
 have hk:(0:Int)<0+(i:Nat):=by lia
 cases pl with
 |nil=>exact absurd hl.symm k0
 |cons s0 rest=>
 have b0:BS s0:=h0 s0 rfl;have a0:atI ((s0::rest).map sD) 0=some (sD s0):=fY _ 0;have a0':((s0::rest).map sD)[0]?=some (sD s0):=rfl;by_cases w0:r=0
 .have f0:decide (r=0)=true:=zaB w0;have f1:decide (r=1)=false:=zaA (by lia);have f2:decide (r=2)=false:=zaA (by lia);have f3:decide (r=3)=false:=zaA (by lia);simp only[ws,hk,f0,f1,f2,f3,plD,a0];refine W.use (y8 b0) ?_;rintro _ ⟨ms,rfl,gm⟩;simp only[ws,hk,f1,f2,f3,plD];exact PI.fin hi pm hl hg h0 gm (λz=>absurd z k0) hQ
 by_cases w1:r=1
 .have f0:decide (r=0)=false:=zaA w0;have f1:decide (r=1)=true:=zaB w1;have f2:decide (r=2)=false:=zaA (by lia);have f3:decide (r=3)=false:=zaA (by lia);have l1:=b0.l1;have l3:=b0.l3;obtain⟨ps,p0,rfl⟩:∃ps p0,s0=ps++[p0]:=⟨s0.dropLast,s0.getLast (by intro z;rw[z]at l1;cases l1),(List.dropLast_concat_getLast _).symm⟩;have hp5:=b0.m5 p0 (by simp);have an:atI ((ps++[p0]).map pD) (-1)=some (pD p0):=by
   unfold atI ixN;rw[if_neg (by decide),if_pos (by simp;lia)];show((ps++[p0]).map pD)[(-1+(((ps++[p0]).map pD).length:Int)).toNat]?=_;rw[zad,zae,show(-1+((ps.length+[p0].length:Nat):Int)).toNat=ps.length by show(-1+((ps.length+1:Nat):Int)).toNat=ps.length;lia,zao,zbG (zav _),Nat.sub_self];rfl
  have cl:cq ((ps++[p0]).map pD) none (some (-1))=ps.map pD:=by rw[rn,zaC];exact List.dropLast_concat
  simp only[ws,hk,f0,f1,f2,f3,plD,a0,sD,an,cl];simp only[ws,pD];refine W.use (FJ T hp2 (by lia) hp5) ?_;rintro _ ⟨ms,p3,rfl,m1,m2,m3,m4,hp3⟩;simp only[ws,hk,f1,f2,f3,plD,a0,a0',sD,an,cl,pD];have eS:PyData.tuple (ps.map pD++[.tuple ((p0.map .str).reverse++ms.map .str)])=sD (ps++[p0.reverse++ms]):=by
   unfold sD;rw[zaC,List.map_singleton,<-List.map_reverse,<-zaC];rfl
  rw[zae]at l3;rw[eS];refine⟨szB (by rw[List.length_reverse,zad];lia),szB (by show ps.length+1<=_;lia),?_⟩;exact PI.fin hi (hp3.mono (by lia)) hl hg h0 (FQ b0 m1 m2 m3 m4) (λz=>absurd z k0) hQ
 by_cases w2:r=2
 .have f0:decide (r=0)=false:=zaA w0;have f1:decide (r=1)=false:=zaA w1;have f2:decide (r=2)=true:=zaB w2;have f3:decide (r=3)=false:=zaA (by lia);obtain⟨s1,hs1⟩:∃s1,(s0::rest)[i-1]?=some s1:=⟨_,zak (by lia)⟩;have gs1:=hg s1 (zaW hs1);have a1:atI ((s0::rest).map sD) (0+(i:Nat)-1)=some (sD s1):=by
   rw[show(0+(i:Nat)-1:Int)=((i-1:Nat):Int)by lia,fY,zao,hs1];rfl
  simp only[ws,hk,f0,f1,f2,f3,plD,a1,sD];refine pG AN (by rw[zad];have:=gs1.l3;exact sz (by lia)) (λt ht=>?_) λo=>?_
  .obtain⟨q,hq,rfl⟩:=zaz.mp ht;simp only[ws,mf,pD,AN]
  .have em:(s1.map pD).map AN=(s1.map List.reverse).map pD:=by
    rw[zaQ,zaQ];refine zbv λq _=>?_;show PyData.tuple (q.map PyData.str).reverse=.tuple (q.reverse.map .str);rw[List.map_reverse]
   rw[em];simp only[ws,hk,f1,f2,f3,plD];exact PI.fin hi pm hl hg h0 (Jk gs1) (λz=>absurd z k0) hQ
 by_cases w3:r=3
 .have f0:decide (r=0)=false:=zaA w0;have f1:decide (r=1)=false:=zaA w1;have f2:decide (r=2)=false:=zaA w2;have f3:decide (r=3)=true:=zaB w3;cases s0 with
  |nil=>cases b0.l1
  |cons q0 r0=>
  have cf:cq ((q0::r0).map pD) (some 1) none=r0.map pD:=rp _ 1;simp only[ws,hk,f0,f1,f2,f3,plD,a0,sD];refine W.use (vO T hp2 (m:=1) (s:=3) (b:=false) (by lia) (by decide) (by decide) (by decide)) ?_;rintro _ ⟨ys,p3,rfl,gp,g1,hp3⟩;simp only[ws,a0,a0',sD,cf];have l3:=b0.l3;rw[zac]at l3;refine⟨szB (by show 1+_<=_;lia),?_⟩;exact PI.fin (qs:=ys::r0) hi (hp3.mono (by lia)) hl hg h0 (BJ b0 g1 (gp.fre rfl) gp.nd (λy hy=>by have:=(gp.w y hy).lm;rw[ll]at this;exact this) λy hy=>by have:=(gp.w y hy).l1;rw[ll]at this;exact this) (λz=>absurd z k0) hQ
 .have f0:decide (r=0)=false:=zaA w0;have f1:decide (r=1)=false:=zaA w1;have f2:decide (r=2)=false:=zaA w2;have f3:decide (r=3)=false:=zaA w3;simp only[ws,hk,f0,f1,f2,f3,plD];exact PI.fin hi pm hl hg h0 bs.gt (λ_=>bs) hQ
def Fp(T:TT ks){p:D}(hp:Pn 30 p):W (ge [p,tD ks,.int 3,.int 5,.int 3]) (λr=>∃pl p',r=(plD pl,[some p',none,none,none,none])/\pl.length<=3/\(∀ps∈pl,GT ps)/\Pn 10000 p'):=by
 simp only[ws,ge,pV];refine cr hp (by decide) (by decide) (by decide) λr p1 r0 r4 hp1=>?_;obtain⟨k,rfl⟩:=zaL r0;simp only[ws,zaK];refine⟨by lia,?_⟩;refine bS (λi en=>PI ks i en) ⟨p1,[],none,none,none,none,rfl,hp1,rfl,by simp,by simp⟩ (λi t en ht h=>?_) λen h=>?_
 .obtain⟨hi,rfl⟩:=eJ ht
  have:=yJ T (by lia) h (Q:=kIt (PI ks (i+1)) (tX (aG (ac 5)) (kFn [1,0,0,0,0] λr=>∃pl p',r=(plD pl,[some p',none,none,none,none])/\pl.length<=3/\(∀ps∈pl,GT ps)/\Pn 10000 p'))) λen h=>by simp only[ws];exact h
  obtain⟨p',pl,o6,o7,o8,o9,rfl,_⟩:=h;simp only[ws];exact this
 .rw[dG]at h;obtain⟨p',pl,o6,o7,o8,o9,rfl,h1,h2,h3,h4⟩:=h;simp only[ws];exact⟨pl,p',rfl,by lia,h3,h1.mono (by lia)⟩
end W45
set_option maxHeartbeats 4000000
namespace L2
variable{K:zbU}{k:Nat}{c m:Str}{fs:List Str}
open PySem PySem.Spec PyProof.Rows
noncomputable def t5:Option (Option Value)->Bool
 |some (some (.builtin id))=>id=="object.__setattr__"
 |_=>false
def nX(K:zbU)(C:Addr):Bool:=PySem.W.plainGet K C Str.empty&&(PySem.W.hasDictIn K C&&(PySem.W.plainOver K C&&t5 (PySem.W.findIn K (.ref C) "__setattr__")))
noncomputable def v7:Option (Option Value)->Bool
 |some none=>true
 |_=>false
def naB(K:zbU)(C:Addr)(fs:List Str):Bool:=fs.all λf=>v7 (PySem.W.findIn K (.ref C) f)
noncomputable def mkB(K:zbU)(C:Addr):Bool:=PySem.W.makesIn K C&&PySem.W.keepIn K (.ref C)
section
variable{P:Program}{w:World}{mg:Str->Option Value}{base h:Heap}{dr:Nat}{qual:Str}{ps fns:List Str}{dps:List Nat}{f C:Addr}{st:Stmt}{sp:Sp}{tab:Bool}
def pz(h:nX K C=true):Cls K C:=by
 simp only[nX,zbm]at h;obtain⟨h1,h2,h3,h4⟩:=h;refine⟨h1,h2,h3,?_⟩;generalize PySem.W.findIn K (.ref C) "__setattr__"=o at h4;unfold t5 at h4;split at h4
 .rw[beq_iff_eq.mp h4]
 .cases h4
def oO(h:naB K C fs=true):∀g∈fs,NoAttr K C g:=λg hg=>by
 have:=List.all_eq_true.mp h g hg;unfold NoAttr;generalize PySem.W.findIn K (.ref C) g=o at this;unfold v7 at this;split at this
 .rfl
 .cases this
structure DfM(K:zbU)(C:Addr)(m qual:Str)(st:Stmt)(f:Addr):Prop where
 a:Meth K C m f
 l:∃oc od kV dc pm an cd ct sl,K.lookup f=some ⟨oc,od,.func (PySem.W.fnOf m qual (bR st) (bu st) (am st) .none kV dc pm an cd ct),sl⟩/\PySem.W.codeIn K cd qual=true
def DfM.mk'{oc:Value}{od an:Option Addr}{sl:Array (Option Value)}{kV dc pm cd ct:Value}(a:PySem.W.findIn K (.ref C) m=some (some (.ref f)))(l:K.lookup f=some ⟨oc,od,.func (PySem.W.fnOf m qual (bR st) (bu st) (am st) .none kV dc pm an cd ct),sl⟩)(h:PySem.W.codeIn K cd qual=true)(k:PySem.W.keepIn K (.ref f)=true)(fn:PySem.W.isFn K (.ref f)=true):DfM K C m qual st f:=
 ⟨⟨a,fn,k⟩,oc,od,kV,dc,pm,an,cd,ct,sl,l,h⟩
def DfM.kn(d:DfM K C m qual st f)(hC:PySem.W.nsIn K mainGlobals c=some (some (.ref C)))(hc:nX K C=true)(b:∀(kV doc pm:Value) (an:Option Addr) (cdv ct:Value) (us:List Value),us.length=ps.length->bindArgs (PySem.W.fnOf m qual (bR st) (bu st) (am st) .none kV doc pm an cdv ct) ⟨us,[]⟩=pure (ps.zip us))
  (ok:∀fd,Fun K m qual st f fd->FnOk P w K mg base CX0 k f fd ps sp):KnM P w K mg base k c m ps sp:=by
 obtain⟨_,_,_,_,_,_,_,_,_,l,h⟩:=d.l;have F:=pb (st:=st) l h d.a.kp;exact⟨_,_,_,hC,pz hc,d.a,ok _ F,F.binds b⟩
def DfM.none(d:DfM K C m qual st f)(hC:PySem.W.nsIn K mainGlobals c=some (some (.ref C)))(hc:nX K C=true)(b:∀(kV doc pm:Value) (an:Option Addr) (cdv ct:Value) (us:List Value),us.length=ps.length->bindArgs (PySem.W.fnOf m qual (bR st) (bu st) (am st) .none kV doc pm an cdv ct) ⟨us,[]⟩=pure (ps.zip us)):
  KnM P w K mg base k c m ps (spF K dps dr λ_=>Option.none):=
 d.kn hC hc b λ_ _=>⟨λvs H Q E ⟨_,_,_,_,_,_,z,_⟩=>(nomatch z),λA outer s H args us vs Q E _ _ _ _ ⟨_,_,_,_,_,_,z,_⟩=>(nomatch z)⟩
def DfM.make(d:DfM K C "__init__" qual st f)(X:K.In h)(G:h.Ns mainGlobals mg)(hC:PySem.W.nsIn K mainGlobals c=some (some (.ref C)))(hm:mkB K C=true)(b:∀(kV doc pm:Value) (an:Option Addr) (cdv ct:Value) (us:List Value),us.length=ps.length->bindArgs (PySem.W.fnOf "__init__" qual (bR st) (bu st) (am st) .none kV doc pm an cdv ct) ⟨us,[]⟩=pure (ps.zip us))
  (ok:∀fd,Fun K "__init__" qual st f fd->FnOk P w K mg base CX0 k f fd ps (km K c fns tab)):KnC P w K mg base (k+1) c fns tab:=by
 obtain⟨_,_,_,_,_,_,_,_,_,l,h⟩:=d.l;have F:=pb (st:=st) l h d.a.kp;rw[mkB,zbm]at hm;exact⟨_,_,_,ps,k,zav _,hC,PySem.W.mg_of X G hC,⟨hm.1,d.a.at_,d.a.fn,hm.2⟩,ok _ F,F.binds b⟩
def aI(hC:PySem.W.nsIn K mainGlobals c=some (some (.ref C)))(hc:nX K C=true)(hn:naB K C fs=true){g:Str}(hg:g∈fs):AtC K c g:=⟨_,hC,pz hc,oO hn g hg⟩
end
def nA(h:(K.all λq=>!isR q)=true):dZ K []=K:=by
 unfold dZ;rw[zaZ,zbr,List.filter_eq_self];exact λq hq=>List.all_eq_true.mp h q hq
def walk_C{l:PySem.W.OpenLaw}{n:Nat}{q:Program}{bX:List Str}{XP:(Str->Option Value)->Heap->Prop}{YP:World->Heap->Prop}{d:DefRec}{K:Params->zbU}{sp:World->Sp}{x:Str}
  (hn:l.most=some n) (hn2:n<=sizeLine) (hdf:d.params.defaults=[]) (hr:Room k callerA) (hq:importsNone q=true) (hY:∀(w:World) (h:Heap),YP w h->(K w.params).In h) (hreg:∀w:World,((K w.params).all λq=>!isR q)=true)
  (F:∀(w:World) (mg:Str->Option Value) (fa:Addr) (h:Heap),(K w.params).In h->h.Ns mainGlobals mg->mg d.name=some (.ref fa) ->
   ∃fd:FuncData,(∀(s:Shared) (u:Value),BindsTo s fd ⟨[u],[]⟩ [(x,u)])/\∀base:Heap,(K w.params).In base->base.Ns mainGlobals mg->FnOk l.prog w (K w.params) mg base CX0 k fa fd [x] (sp w))
  (hsp:∀(w:World) (H:Hp) (a:Addr) (ns:List Int),ns.length<=n->SqL (K w.params) H a (ns.map V.int)->sp w [.ref a] H (λv _=>v=.bl true) λ_ _ _=>False):
  PySem.W.WalkO q bX XP YP l.row.toRowW d [] (λf vs=>PySem.call f vs):=
 EZ (CX:=λ_=>CX0) (ts:=[]) hn hn2 hdf hr hq hY (λ_ _ _ _ z=>nomatch z) (λw b=>by rw[nA (hreg w)]) List.nodup_nil (λ_ _ _ _ z=>nomatch z) (λw mg fa h a b c=>by rw[nA (hreg w)];exact F w mg fa h a b c)
  (λw H a ns hl hs=>by rw[nA (hreg w)]at hs;exact hsp w H a ns hl hs) λ_ _ _ _ _ z=>z
def J5(c f:Str)(en:En)(Q:D×En->Prop):D->Prop:=λt=>W (lI c f t) (eo en Q)
def J1(c m:Str)(x:Option (D×En))(Q:D×En->Prop):D->Prop:=λt=>fh c m t=true/\W x Q
def Bk(k:List (KyN 3))(en:En)(Q:D×En->Prop):NKs×List (D×D)->Prop:=λz=>Q (.bool (!(dR z.1 k).isSome),en)
def Bm(c:Str)(k:List (KyN 3))(en:En)(Q:D×En->Prop):D->Prop:=λt=>W (cU c t) (Bk k en Q)
def Bn(i:Nat)(c:Str)(en:En)(Q:D×En->Prop):List (KyN 3)->Prop:=λk=>W (gv en i) (Bm c k en Q)
def kTn(i:Nat)(c:Str)(Q:D×En->Prop):D×En->Prop:=λq=>W (eX q.1) (Bn i c q.2 Q)
def Bo(k:List (KyN 3))(en:En)(Q:D×En->Prop):NKs×List (D×D)->Prop:=λz=>W (dR z.1 k) (eo en Q)
def Bp(c:Str)(k:List (KyN 3))(en:En)(Q:D×En->Prop):D->Prop:=λt=>W (cU c t) (Bo k en Q)
def Bq(i:Nat)(c:Str)(en:En)(Q:D×En->Prop):List (KyN 3)->Prop:=λk=>W (gv en i) (Bp c k en Q)
def Br(i:Nat)(c:Str)(Q:D×En->Prop):D×En->Prop:=λq=>W (eX q.1) (Bq i c q.2 Q)
def Bs(i:Nat)(c:Str)(x:Option (D×En))(Q:D×En->Prop):NKs×List (D×D)->Prop:=λ_=>W x (Br i c Q)
def kTg(i:Nat)(c:Str)(x:Option (D×En))(Q:D×En->Prop):D->Prop:=λt=>W (cU c t) (Bs i c x Q)
def Be(i:Nat)(c:Str)(k:List (KyN 3))(u:D)(en:En)(Q:Fl->Prop):NKs×List (D×D)->Prop:=λz=>(z.1.length<sizeLine/\bO u=true)/\Q (.nx (en.set i (some (nq c (cR z.1 k u) z.2))))
def Bf(i:Nat)(c:Str)(k:List (KyN 3))(u:D)(en:En)(Q:Fl->Prop):D->Prop:=λt=>W (cU c t) (Be i c k u en Q)
def Bg(i:Nat)(c:Str)(u:D)(en:En)(Q:Fl->Prop):List (KyN 3)->Prop:=λk=>W (gv en i) (Bf i c k u en Q)
def Bh(i:Nat)(c:Str)(u:D)(Q:Fl->Prop):D×En->Prop:=λq=>W (eX q.1) (Bg i c u q.2 Q)
def Bi(i:Nat)(c:Str)(u:D)(x:Option (D×En))(Q:Fl->Prop):NKs×List (D×D)->Prop:=λ_=>W x (Bh i c u Q)
def Bj(i:Nat)(c:Str)(u:D)(x:Option (D×En))(Q:Fl->Prop):D->Prop:=λt=>W (cU c t) (Bi i c u x Q)
def kTp(i:Nat)(c:Str)(fk:ME)(Q:Fl->Prop):D×En->Prop:=λr=>W (gv r.2 i) (Bj i c r.1 (fk r.2) Q)
def kFb(g:MG)(a:MS)(c:MT)(b:MS)(Q:Fl->Prop):List D×En->Prop:=λr=>W (kB g a c b r.1 r.2) Q
section
variable{i:Nat}{f:Str}{fk fe:ME}{fa:MA}{en:En}{Q:D×En->Prop}{Qf:Fl->Prop}{F:List D->Option (D×En)}{fi:MI}{g:MG}{a b:MS}{ct:MT}
def wc0:W (b9 i c f en) Q=W (gv en i) (J5 c f en Q):=(ar _ _ _).trans (congrArg _ (funext λt=>bD _ _ _))
def wc1:W (eG i c m F fa en) Q=W (gv en i) (J1 c m (aw F (aY i fa) en) Q):=by
 unfold eG gv;cases(en[i]?).join with
 |none=>rw[if_neg (show ¬(none:Option D).elim false (fh c m)=true from zbn),bw,bw]
 |some t=>rw[EW,ay];rfl
def wc2:W (ux i c fk en) Q=W (fk en) (kTn i c Q):=by
 refine(ar _ _ _).trans (congrArg _ (funext λq=>(ar _ _ _).trans (congrArg _ (funext λk=>(bD _ _ _).trans (ar _ _ _)))))
def wc3:W (uy i c fk en) Q=W (gv en i) (kTg i c (fk en) Q):=by
 refine(ar _ _ _).trans ((ar _ _ _).trans (congrArg _ (funext λt=>congrArg _ (funext λz=>(ar _ _ _).trans (congrArg _ (funext λq=>(ar _ _ _).trans (congrArg _ (funext λk=>(ar _ _ _).trans ((ar _ _ _).trans (congrArg _ (funext λt=>congrArg _ (funext λz=>bD _ _ _))))))))))))
def wc4:W (sU i c fk fe en) Qf=W (fe en) (kTp i c fk Qf):=by
 refine(ar _ _ _).trans (congrArg _ (funext λr=>(ar _ _ _).trans ((ar _ _ _).trans (congrArg _ (funext λt=>congrArg _ (funext λz=>(ar _ _ _).trans (congrArg _ (funext λq=>(ar _ _ _).trans (congrArg _ (funext λk=>(ar _ _ _).trans ((ar _ _ _).trans (congrArg _ (funext λt=>congrArg _ (funext λz=>ij _ _ _))))))))))))))
def wc5:W (oF fi g a ct b en) Qf=W (fi en) (kFb g a ct b Qf):=ar _ _ _
theorem wc6(t:D):J5 c f en Q t=W (lI c f t) (eo en Q):=rfl
theorem wc7(t:D)(x:Option (D×En)):J1 c m x Q t=(fh c m t=true/\W x Q):=rfl
theorem wc8(k:List (KyN 3))(z:NKs×List (D×D)):Bk k en Q z=Q (.bool (!(dR z.1 k).isSome),en):=rfl
theorem wc9(k:List (KyN 3))(t:D):Bm c k en Q t=W (cU c t) (Bk k en Q):=rfl
theorem IP(k:List (KyN 3)):Bn i c en Q k=W (gv en i) (Bm c k en Q):=rfl
theorem IN(q:D×En):kTn i c Q q=W (eX q.1) (Bn i c q.2 Q):=rfl
theorem IM(k:List (KyN 3))(z:NKs×List (D×D)):Bo k en Q z=W (dR z.1 k) (eo en Q):=rfl
theorem IL(k:List (KyN 3))(t:D):Bp c k en Q t=W (cU c t) (Bo k en Q):=rfl
theorem IK(k:List (KyN 3)):Bq i c en Q k=W (gv en i) (Bp c k en Q):=rfl
theorem IJ(q:D×En):Br i c Q q=W (eX q.1) (Bq i c q.2 Q):=rfl
theorem II(x:Option (D×En))(z:NKs×List (D×D)):Bs i c x Q z=W x (Br i c Q):=rfl
theorem IH(x:Option (D×En))(t:D):kTg i c x Q t=W (cU c t) (Bs i c x Q):=rfl
theorem IG(k:List (KyN 3))(u:D)(z:NKs×List (D×D)):Be i c k u en Qf z=((z.1.length<sizeLine/\bO u=true)/\Qf (.nx (en.set i (some (nq c (cR z.1 k u) z.2))))):=rfl
theorem IF(k:List (KyN 3))(u t:D):Bf i c k u en Qf t=W (cU c t) (Be i c k u en Qf):=rfl
theorem IE(u:D)(k:List (KyN 3)):Bg i c u en Qf k=W (gv en i) (Bf i c k u en Qf):=rfl
theorem ID(u:D)(q:D×En):Bh i c u Qf q=W (eX q.1) (Bg i c u q.2 Qf):=rfl
theorem IC(u:D)(x:Option (D×En))(z:NKs×List (D×D)):Bi i c u x Qf z=W x (Bh i c u Qf):=rfl
theorem IB(u t:D)(x:Option (D×En)):Bj i c u x Qf t=W (cU c t) (Bi i c u x Qf):=rfl
theorem IA(r:D×En):kTp i c fk Qf r=W (gv r.2 i) (Bj i c r.1 (fk r.2) Qf):=rfl
theorem Iz(r:List D×En):kFb g a ct b Qf r=W (kB g a ct b r.1 r.2) Qf:=rfl
def KL{ts:List D}(I:Nat->En->Prop)(h0:I 0 en)
  (hs:∀j t en,ts[j]?=some t->I j en->W (g t en) λen1=>W (a en1) λfl=>∃en2,fl=.nx en2/\W (ct en2) λr=>if r.1=true then Qf (.nx r.2)else W (b r.2) λfl=>match fl with
   |.nx e=>I (j+1) e
   |.ct e=>I (j+1) e
   |.rt t e=>Qf (.rt t e)) (hq:∀en,I ts.length en->Qf (.nx en)):W (kB g a ct b ts en) Qf:=by
 suffices ∀(us:List D) (j:Nat) (en:En),ts.drop j=us->j<=ts.length->I j en->W (kB g a ct b us en) Qf from this ts 0 en rfl (zbj _) h0
 intro us
 induction us with
 |nil=>
  intro j en hu hi h
  have:ts.length-j=0:=by rw[<-zaF,hu];rfl
  show W (some _) _;rw[ay];exact hq en (by rw[show ts.length=j by lia];exact h)
 |cons t us ih=>
  intro j en hu hi h;have ht:ts[j]?=some t:=by
   have:(ts.drop j)[0]?=some t:=by rw[hu];rfl
   rw[zbD]at this;exact this
  have hl:j<ts.length:=(zah.mp ht).1;have hd:ts.drop (j+1)=us:=by rw[<-List.drop_drop,hu];rfl
  show W ((g t en).bind _) _;rw[ar];refine(hs j t en ht h).use λen1 h1=>?_;rw[ar];refine h1.use ?_;rintro fl ⟨en2,e,h2⟩;subst e;show W ((ct en2).bind _) _;rw[ar];refine h2.use λr h3=>?_;by_cases hr:r.1=true
  .rw[if_pos hr]at h3 ⊢;rw[ay];exact h3
  .rw[if_neg hr]at h3 ⊢;rw[ar];refine h3.use λfl h4=>?_;cases fl with
   |nx e=>exact ih (j+1) e hd hl h4
   |ct e=>exact ih (j+1) e hd hl h4
   |rt t e=>show W (some _) _;rw[ay];exact h4
end
def wsc:type_of% @wc0/\type_of% @wc1/\type_of% @wc2/\type_of% @wc3/\type_of% @wc4/\type_of% @wc5/\type_of% @wc6/\type_of% @wc7/\type_of% @wc8/\type_of% @wc9/\type_of% @IP/\type_of% @IN/\type_of% @IM/\type_of% @IL/\type_of% @IK/\type_of% @IJ/\type_of% @II/\type_of% @IH/\type_of% @IG/\type_of% @IF/\type_of% @IE/\type_of% @ID/\type_of% @IC/\type_of% @IB/\type_of% @IA/\type_of% @Iz:=
 ⟨@wc0,@wc1,@wc2,@wc3,@wc4,@wc5,@wc6,@wc7,@wc8,@wc9,@IP,@IN,@IM,@IL,@IK,@IJ,@II,@IH,@IG,@IF,@IE,@ID,@IC,@IB,@IA,@Iz⟩
end L2
set_option maxHeartbeats 1000000
namespace W45
variable{p r q ys:List Str}{t w x y z:Str}{ps e st:List (List Str)}{n m j i:Nat}{f:Option (Nat×Str)}{fs:List (Option (Nat×Str))}{kvs:NKs}{F:List D->Option (D×En)}{pl:List (List (List Str))}{js:List Nat}{x0 x1 x2 x3 x6 x8:Option D}{Q:Fl->Prop}
open PySem L2 Tg
noncomputable def b5(p:List Str)(t:Str):List Str:=p.filter λw=>decide (li w <+: li t)
def Gx(hl:p.length<=1000):W (b6 [pD p,.str t]) (λr=>r=(.list ((b5 p t).map .str),[none,none])):=by
 simp only[ws,b6,iw,pD];refine lR (λw=>decide (li (txt w) <+: li t)) (λw=>w) (by rw[zad];exact sz (by lia)) (λw hw=>?_) (λw hw _=>?_) λo'=>?_
 .obtain⟨y,hy,rfl⟩:=zaz.mp hw;have s1:Txt.startswith t y=decide (li y <+: li t):=by rw[Bool.eq_iff_iff,iz,decide_eq_true_eq]
  simp only[ws,gi,s1,txt];rfl
 .obtain⟨y,hy,rfl⟩:=zaz.mp hw;simp only[ws,gj]
 .simp only[ws];rw[List.map_id',zbA];rfl
def eY(n:Nat)(z:Str):Str:=⟨(bY z.cps.toList (some (n:Int)) none).toArray⟩
def aL:List (List Str)->Str->List Str×Str
 |[],t=>([],t)
 |p::ps,t=>match b5 p t with
  |[]=>([],t)
  |w::_=>(w::(aL ps (eY w.length t)).1,(aL ps (eY w.length t)).2)
def jP(n:Nat)(z:Str):li (eY n z)=(li z).drop n:=jk _ n
def BX(n:Nat)(z:Str):(eY n z).length<=z.length:=by
 rw[<-ll,<-ll,jP,zaF]
 lia
def vF(hp:ps.length<=100)(hl:∀p∈ps,p.length<=1000)(ht:t.length<=10000):W (dL [sD ps,.str t]) (λr=>r=(.list ((aL ps t).1.map .str),[none,none])):=by
 simp only[ws,wsc,dL,ng,sD];refine KL (λj en=>∃us rest o4 o5,en=[some (sD ps),some (.str t),some (.list (us.map .str)),some (.str rest),o4,o5]/\us.length<=j/\rest.length<=10000/\aL ps t=(us++(aL (ps.drop j) rest).1,(aL (ps.drop j) rest).2)) ⟨[],t,_,_,rfl,zav _,ht,rfl⟩ ?_ ?_
 .rintro j x en hx ⟨us,rest,o4,o5,rfl,hu,hr,e⟩;rw[zao]at hx;obtain⟨p,hp',rfl⟩:=zab.mp hx;have hpm:=zaW hp';have hj:j<ps.length:=(zah.mp hp').1;have hd:ps.drop j=p::ps.drop (j+1):=by rw[zbK hj,(zah.mp hp').2]
  rw[hd]at e;simp only[ws,k5];refine W.use (Gx (hl p hpm)) ?_;rintro _ rfl;simp only[ws];refine⟨_,rfl,?_⟩;cases hb:b5 p rest with
  |nil=>
   simp only[ws,ik,zaZ,List.length_nil];rw[if_pos (by decide)];have e1:(aL ps t).1=us:=by
    rw[e];show us++(aL (p::ps.drop (j+1)) rest).1=us;unfold aL;rw[hb];exact zbr _
   rw[e1]
  |cons w r=>
   simp only[ws,ik,k4,zar,zac];rw[if_neg (by rw[decide_eq_true_eq];lia)];have hw:w.length<=rest.length:=by
    have:w∈b5 p rest:=by rw[hb];exact zaq ..
    have:=(of_decide_eq_true (zbB.mp this).2).length_le
    rwa[ll,ll]at this
   refine⟨sK (by lia),szB (by lia),szB (by lia),us++[w],eY w.length rest,_,_,by rw[zaC];rfl,by rw[zae];show _+1<=_;lia,zau (BX _ _) hr,?_⟩;rw[e];have e2:aL (p::ps.drop (j+1)) rest=(w::(aL (ps.drop (j+1)) (eY w.length rest)).1,(aL (ps.drop (j+1)) (eY w.length rest)).2):=by
    show(match b5 p rest with|[]=>_|w::_=>_)=_;rw[hb]
   rw[e2,zaD];rfl
 .rintro en ⟨us,rest,o4,o5,rfl,hu,hr,e⟩;rw[zad,List.drop_length]at e;have e1:(aL ps t).1=us:=by rw[e];exact zbr _
  simp only[ws,e1]
def rD(h:∀w∈p,¬li w <+: li t):b5 p t=[]:=by
 unfold b5;rw[List.filter_eq_nil_iff];intro w hw;rw[decide_eq_true_eq];exact h w hw
theorem iV{t w:Str}:∀{p:List Str},fr p=true->w∈p->li w <+: li t->b5 p t=[w]
 |[],_,h,_=>by cases h
 |a::r,hf,hw,ht=>by
  obtain⟨ha,hr⟩:=List.pairwise_cons.mp (mD hf);have fr':fr r=true:=zaB hr;unfold b5;by_cases h:li a <+: li t
  .have hwr:w∉r:=λz=>(List.prefix_or_prefix_of_prefix h ht).elim (ha w z).1 (ha w z).2;have e:w=a:=(zay.mp hw).resolve_right hwr;subst e;rw[zbt (by rw[decide_eq_true_eq];exact h)]
   have:r.filter (λw=>decide (li w <+: li t))=[]:=rD λu hu z=>(List.prefix_or_prefix_of_prefix h z).elim (ha u hu).1 (ha u hu).2;rw[this]
  .rw[List.filter_cons_of_neg (by rw[decide_eq_true_eq];exact h)]
   have:w∈r:=(zay.mp hw).resolve_left λe=>h (e▸ht);exact iV fr' this ht
def hV(h:b5 p t=w::r):w∈p/\li w <+: li t:=by
 have:w∈b5 p t:=by rw[h];exact zaq ..
 obtain⟨h1,h2⟩:=zbB.mp this;exact⟨h1,of_decide_eq_true h2⟩
def BY(h:n<=x.length):eY n (x++y)=eY n x++y:=dD (by
 rw[jP,aS,aS,jP,List.drop_append_of_le_length (by rw[ll];exact h)])
def lN(h:li w <+: li t):w++eY w.length t=t:=dD (by
 obtain⟨z,hz⟩:=h;rw[aS,jP,<-hz,<-ll,List.drop_left])
def vJ(h:li w <+: li t):w.length<=t.length:=by
 have:=h.length_le
 rwa[ll,ll]at this
def cH(h:b5 p t=w::r):aL (p::ps) t=(w::(aL ps (eY w.length t)).1,(aL ps (eY w.length t)).2):=by
 show(match b5 p t with|[]=>_|w::_=>_)=_;rw[h]
def cG(h:b5 p t=[]):aL (p::ps) t=([],t):=by
 show(match b5 p t with|[]=>_|w::_=>_)=_;rw[h]
theorem qU:∀{ps:List (List Str)},(∀p∈ps,fr p=true)->∀(x y:Str),aL ps (x++y)=((aL ps x).1++(aL (ps.drop (aL ps x).1.length) ((aL ps x).2++y)).1,(aL (ps.drop (aL ps x).1.length) ((aL ps x).2++y)).2)
 |[],_,x,y=>rfl
 |p::ps,hf,x,y=>by
  cases hb:b5 p x with
  |nil=>
   rw[cG hb];rfl
  |cons w r=>
   obtain⟨h1,h2⟩:=hV hb;have e:b5 p (x++y)=[w]:=iV (hf p (zaq ..)) h1 (by rw[aS];exact h2.trans (List.prefix_append _ _));rw[cH hb,cH e,BY (vJ h2),qU (λq hq=>hf q (zaj _ hq))];rfl
theorem oI:∀(ps:List (List Str)) (t:Str),(aL ps t).1.foldr (λw z=>w++z) (aL ps t).2=t
 |[],_=>rfl
 |p::ps,t=>by
  cases hb:b5 p t with
  |nil=>rw[cG hb];rfl
  |cons w r=>
   rw[cH hb];show w++_=t;rw[oI ps,lN (hV hb).2]
theorem lh:∀(ps:List (List Str)) (t:Str),(aL ps t).1.length<=ps.length
 |[],_=>zav _
 |p::ps,t=>by
  cases hb:b5 p t with
  |nil=>rw[cG hb];exact zbj _
  |cons w r=>
   rw[cH hb];exact Nat.succ_le_succ (lh ps _)
def mT:t∈mkR (p::ps)↔∃w∈p,∃s∈mkR ps,t=w++s:=by
 show t∈(p.flatMap λw=>(mkR ps).map λx=>w++x)↔_;simp only[List.mem_flatMap,zaz];constructor
 .rintro⟨w,hw,s,hs,rfl⟩;exact⟨w,hw,s,hs,rfl⟩
 .rintro⟨w,hw,s,hs,rfl⟩;exact⟨w,hw,s,hs,rfl⟩
theorem tM:∀{ps:List (List Str)} {p:List Str},(∀q∈ps,fr q=true)->∀t:Str,t∈mkR (ps++[p])↔(aL ps t).1.length=ps.length/\(aL ps t).2∈p
 |[],p,_,t=>by
  rw[List.nil_append,mT];constructor
  .rintro⟨w,hw,s,hs,rfl⟩
   have:s="":=zaG.mp hs;subst this;rw[gI];exact⟨rfl,hw⟩
  .rintro⟨_,h⟩;exact⟨t,h,"",zaG.mpr rfl,(gI t).symm⟩
 |q::ps,p,hf,t=>by
  have ih:=tM (ps:=ps) (p:=p) λz hz=>hf z (zaj _ hz);have hq:=hf q (zaq ..);rw[zaY,mT];cases hb:b5 q t with
  |nil=>
   rw[cG hb];constructor
   .rintro⟨w,hw,s,hs,rfl⟩
    have:=iV hq hw (t:=w++s) (by rw[aS];exact List.prefix_append _ _);rw[hb]at this;cases this
   .rintro⟨h,_⟩;cases h
  |cons w r=>
   obtain⟨h1,h2⟩:=hV hb;rw[cH hb];constructor
   .rintro⟨w',hw',s,hs,rfl⟩
    have:=iV hq hw' (t:=w'++s) (by rw[aS];exact List.prefix_append _ _);rw[hb]at this;cases this;have e:eY w.length (w++s)=s:=dD (by rw[jP,aS,<-ll,List.drop_left]);rw[e];obtain⟨g1,g2⟩:=(ih s).mp hs;exact⟨by show _+1=_+1;rw[g1],g2⟩
   .rintro⟨g1,g2⟩;refine⟨w,h1,eY w.length t,(ih _).mpr ⟨Nat.succ.inj g1,g2⟩,(lN h2).symm⟩
noncomputable def iF(q:List Str)(r:Str):Bool:=q.any λw=>decide (li r <+: li w)
def eP(e:List (List Str))(n:Nat)(q:List Str×Str):Option (Nat×Str):=if iF (e.getD (n+q.1.length) []) q.2=true then some (n+q.1.length,q.2)else none
def far(e:List (List Str))(t:Str):Option (Nat×Str):=eP e 0 (aL e.dropLast t)
def iN(e:List (List Str))(f:Option (Nat×Str))(y:Str):Option (Nat×Str):=match f with
 |none=>none
 |some (n,r)=>eP e n (aL (e.dropLast.drop n) (r++y))
def alive_iff{r:Str}:iF q r=true↔∃w∈q,li r <+: li w:=by
 unfold iF;rw[zbL];simp only[decide_eq_true_eq]
def Al{r:Str}(h:iF q (r++y)=true):iF q r=true:=by
 obtain⟨w,hw,h⟩:=alive_iff.mp h;rw[aS]at h;exact alive_iff.mpr ⟨w,hw,(List.prefix_append _ _).trans h⟩
theorem mQ:∀{ps:List (List Str)} {t:Str} {p:List Str},ps[(aL ps t).1.length]?=some p->b5 p (aL ps t).2=[]
 |[],t,p,h=>by cases h
 |q::ps,t,p,h=>by
  cases hb:b5 q t with
  |nil=>
   rw[cG hb]at h ⊢;cases h;exact hb
  |cons w r=>
   rw[cH hb]at h ⊢;exact mQ (ps:=ps) h
def Ad{α:Type}:∀{e:List α} {n:Nat},n<e.dropLast.length->e.dropLast[n]?=e[n]?
 |e,n,h=>by
  rw[List.dropLast_eq_take,List.getElem?_take];rw[List.length_dropLast]at h;rw[if_pos h]
def Gn(hf:∀p∈e.dropLast,fr p=true)(t y:Str):far e (t++y)=iN e (far e t) y:=by
 unfold far;have ra:=qU hf t y;generalize hq:aL e.dropLast t=q at ra ⊢;obtain⟨ws,r⟩:=q;rw[ra];by_cases ha:iF (e.getD (0+ws.length) []) r=true
 .have e1:eP e 0 (ws,r)=some (0+ws.length,r):=if_pos ha;rw[e1];show eP e 0 _=eP e (0+ws.length) _;rw[za3];unfold eP;simp only[zae,za3]
 .have e1:eP e 0 (ws,r)=none:=if_neg ha;rw[e1];show eP e 0 _=none;have key:aL (e.dropLast.drop ws.length) (r++y)=([],r++y):=by
   cases hd:e.dropLast.drop ws.length with
   |nil=>rfl
   |cons p rest=>
    have hn:e.dropLast[ws.length]?=some p:=by
     have:=congrArg (·[0]?) hd;simpa[zbD]using this
    have hl:ws.length<e.dropLast.length:=(zah.mp hn).1;have hst:b5 p r=[]:=by
     have:=mQ (ps:=e.dropLast) (t:=t) (p:=p);rw[hq]at this;exact this hn
    have hp:e.getD (0+ws.length) []=p:=by
     rw[za3,zbh,<-Ad hl,hn];rfl
    rw[hp]at ha;refine cG (rD λw hw z=>?_);rw[aS]at z;rcases List.prefix_or_prefix_of_prefix z (List.prefix_append (li r) (li y))with g|g
    .have:=iV (hf p (zaW hn)) hw g;rw[hst]at this;cases this
    .exact ha (alive_iff.mpr ⟨w,hw,g⟩)
  rw[key];refine if_neg λz=>ha ?_;simp only[zbr]at z;exact Al z
noncomputable def du(e:List (List Str))(f:Option (Nat×Str)):Bool:=match f with
 |none=>false
 |some (n,r)=>decide (n+1=e.length)&&decide (r∈e.getLastD [])
def Ln(hf:∀q∈ps,fr q=true)(t:Str):du (ps++[p]) (far (ps++[p]) t)=decide (t∈mkR (ps++[p])):=by
 rw[Bool.eq_iff_iff,decide_eq_true_eq,tM hf];unfold far;rw[List.dropLast_concat];generalize aL ps t=q;obtain⟨ws,r⟩:=q;unfold eP;constructor
 .intro h;split at h
  .simp only[du,za3,zbm,decide_eq_true_eq,zae,List.length_singleton,List.getLastD_concat]at h;exact⟨by show ws.length=_;lia,h.2⟩
  .cases h
 .rintro⟨h1,h2⟩
  dsimp only at h1 h2
  have ha:iF ((ps++[p]).getD (0+ws.length) []) r=true:=by
   rw[za3,h1,zbh,zbG (zav _),Nat.sub_self];exact alive_iff.mpr ⟨r,h2,List.prefix_refl _⟩
  rw[if_pos ha];simp only[du,za3,zbm,decide_eq_true_eq,zae,List.length_singleton,List.getLastD_concat];exact⟨by lia,h2⟩
noncomputable def eD:Option (Nat×Str)->D
 |none=>.none
 |some (n,r)=>.tuple [.int (n:Nat),.str r]
def BZ{α:Type}(xs:List α)(h:n+1<=xs.length):cq xs (some (n:Int)) (some (-1))=xs.dropLast.drop n:=by
 unfold cq;rw[HT.sIx_nat,vB,Nat.min_eq_left (by lia),List.dropLast_eq_take,List.drop_take]
theorem lj:∀(ps:List (List Str)) (t:Str),li t=aQ (aL ps t).1++li (aL ps t).2
 |[],_=>rfl
 |p::ps,t=>by
  cases hb:b5 p t with
  |nil=>rw[cG hb];rfl
  |cons w r=>
   rw[cH hb];show li t=li w++aQ (aL ps (eY w.length t)).1++li (aL ps (eY w.length t)).2;rw[zaD,<-lj ps,<-aS,lN (hV hb).2]
theorem wu:∀bs:List Bool,gJ (bs.map PyData.bool)=some bs
 |[]=>rfl
 |b::r=>by
  show(gJ (r.map PyData.bool)).map (b::·)=_;rw[wu r];rfl
def EU(bs:List Bool):xU [.list (bs.map PyData.bool)]=some (.bool (bs.any id)):=by
 show(gJ _).map _=_;rw[wu];rfl
def yD(h1:1<=e.length)(he:e.length<=100)(hl:∀p∈e,p.length<=1000)(hf:∀n r,f=some (n,r)->n+1<=e.length/\r.length+y.length<=1000):W (gO [sD e,eD f,.str y]) (λr=>r=(eD (iN e f y),[none,none,none])):=by
 cases f with
 |none=>
  simp only[ws,wsc,gO,oo,eD];rfl
 |some q=>
  obtain⟨n,r⟩:=q;obtain⟨hn,hr⟩:=hf n r rfl;have ec:=BZ (e.map pD) (n:=n) (by rw[zad];exact hn);have e0:atI [PyData.int (n:Nat),PyData.str r] 0=some (.int (n:Nat)):=rfl;have e1:atI [PyData.int (n:Nat),PyData.str r] 1=some (.str r):=rfl;have ed:(e.map pD).dropLast.drop n=(e.dropLast.drop n).map pD:=by rw[List.map_drop,List.map_dropLast]
  have hy:(r++y).length<=1000:=by rw[cb];exact hr
  have hm:∀p∈e.dropLast.drop n,p.length<=1000:=λp hp=>hl p ((List.dropLast_sublist e).subset (List.mem_of_mem_drop hp));have ξ:(e.dropLast.drop n).length<=100:=by rw[zaF,List.length_dropLast];lia
  simp only[ws,wsc,gO,oo,eD,sD,e0,e1,ec,ed];refine⟨szB (by lia),?_⟩;refine W.use (vF (ps:=e.dropLast.drop n) (t:=r++y) ξ hm (by lia)) ?_;rintro _ rfl;have ra:=lj (e.dropLast.drop n) (r++y);have hrl:=lh (e.dropLast.drop n) (r++y);have so:iN e (some (n,r)) y=eP e n (aL (e.dropLast.drop n) (r++y)):=rfl;generalize aL (e.dropLast.drop n) (r++y)=q at ra hrl so ⊢;obtain⟨us,z⟩:=q
  dsimp only at ra hrl
  have hza:(aQ us).length+z.length=(r++y).length:=by rw[<-ll,<-ll,ra,zae]
  have ej:=(jg (ks:=us) (by lia) (by lia)).2;have ez:(⟨(bY (r++y).cps.toList (some (((ofL (aQ us)).length:Nat):Int)) none).toArray⟩:Str)=z:=dD (by
   show bY _ _ _=_;rw[jk];show(li (r++y)).drop _=_;rw[ra,show(ofL (aQ us)).length=(aQ us).length from rfl,List.drop_left])
  simp only[ws,wsc,e0,e1,ej,ez];refine⟨szB (by rw[show(ofL (aQ us)).length=(aQ us).length from rfl];lia),szB (by lia),?_⟩;have hk:n+us.length<e.length:=by
   have:=hrl;rw[zaF,List.length_dropLast]at this
   lia
  have ea:atI (e.map pD) ((n:Int)+(us.length:Int))=some (pD e[n+us.length]):=fm (by lia) (by
   rw[show((n:Int)+(us.length:Int)).toNat=n+us.length by lia,zao,zak hk];rfl)
  have hpl:=hl e[n+us.length] (zaJ hk);simp only[ws,ea,pD];refine pG (λw=>.bool (decide (li z <+: li (txt w)))) (by rw[zad];exact szB (by lia)) (λw hw=>?_) λo'=>?_
  .obtain⟨x,hx,rfl⟩:=zaz.mp hw;have s1:Txt.startswith x z=decide (li z <+: li x):=by rw[Bool.eq_iff_iff,iz,decide_eq_true_eq]
   simp only[ws,pR,s1,txt];rfl
  .have eb:(e[n+us.length].map PyData.str).map (λw=>PyData.bool (decide (li z <+: li (txt w))))=(e[n+us.length].map λw=>decide (li z <+: li w)).map PyData.bool:=by
    rw[zaQ,zaQ];rfl
   have eal:(e[n+us.length].map λw=>decide (li z <+: li w)).any id=iF (e.getD (n+us.length) []) z:=by
    rw[zbh,zak hk,List.any_map];rfl
   have ey:=EU (e[n+us.length].map λw=>decide (li z <+: li w));simp only[ws,eb,ey,eal,so,eP];cases iF (e.getD (n+us.length) []) z with
   |true=>
    simp only[ws];rw[if_pos trivial];show(PyData.tuple [.int ((n:Int)+(us.length:Int)),.str z],_)=(PyData.tuple [.int (((n+us.length:Nat)):Int),.str z],_);rw[show(((n+us.length:Nat)):Int)=(n:Int)+(us.length:Int)by lia]
   |false=>
    simp only[ws];rfl
def zy(h1:1<=e.length)(hl:e.length<=100):W (gQ [sD e,eD f]) (λr=>r=(.bool (du e f),[none,none])):=by
 cases f with
 |none=>
  simp only[ws,wsc,gQ,oq,eD];rfl
 |some q=>
  obtain⟨n,r⟩:=q;have e0:atI [PyData.int (n:Nat),PyData.str r] 0=some (.int (n:Nat)):=rfl;have e1:atI [PyData.int (n:Nat),PyData.str r] 1=some (.str r):=rfl;obtain⟨ps,p,rfl⟩:∃ps p,e=ps++[p]:=⟨e.dropLast,e.getLast (by intro z;rw[z]at h1;cases h1),(List.dropLast_concat_getLast _).symm⟩;have an:atI ((ps++[p]).map pD) (-1)=some (pD p):=by
   unfold atI ixN;rw[if_neg (by decide),if_pos (by simp;lia)];show((ps++[p]).map pD)[(-1+(((ps++[p]).map pD).length:Int)).toNat]?=_;rw[zad,zae,show(-1+((ps.length+[p].length:Nat):Int)).toNat=ps.length by show(-1+((ps.length+1:Nat):Int)).toNat=ps.length;lia,zao,zbG (zav _),Nat.sub_self];rfl
  have ei:=v8 r p;have ed:decide ((n:Int)=((ps++[p]).length:Int)-1)=decide (n+1=(ps++[p]).length):=by
   rw[Bool.eq_iff_iff,decide_eq_true_eq,decide_eq_true_eq]
   lia
  have er:du (ps++[p]) (some (n,r))=(decide (n+1=(ps++[p]).length)&&decide (r∈p)):=by
   unfold du;simp only[List.getLastD_concat]
  rw[er];simp only[ws,wsc,gQ,oq,eD,sD,e0,e1,an,pD,ei,zad,ed];cases decide (n+1=(ps++[p]).length)with
  |true=>
   simp only[ws,wsc,e1,an,pD,ei];rfl
  |false=>
   simp only[ws,wsc];rfl
def cJ(es:List (List (List Str))):D:=.dict [(.none,.list [.str "Fresh"]),(.tuple [.str "elder"],plD es)]
def bH(fs:List (Option (Nat×Str))):D:=.tuple (fs.map eD)
def EO{m:Str}(es:List (List (List Str)))(h:(m != ("known":Str))=true)(h2:(m==("elder":Str))=false):fh "Fresh" m (cJ es)=true:=by
 show(("Fresh":Str)=="Fresh"&&(m != ("known":Str)&&(lookF m [(.tuple [.str "elder"],plD es)]).isNone))=true
 have:lookF m [((.tuple [.str "elder"]:D),plD es)]=none:=by
  show(if(("elder":Str)==m)=true then _ else _)=none;rw[if_neg]
  .rfl
  .intro z;rw[beq_iff_eq]at z;subst z;cases h2
 rw[this,h];rfl
theorem uf(es:List (List (List Str))):lI "Fresh" "elder" (cJ es)=some (plD es):=rfl
def nR{es:List (List (List Str))}(h:es.length<=100):W (bc [cJ es]) (λr=>r=(bH (es.map λ_=>some (0,"")),[none])):=by
 simp only[ws,wsc,bc,jw,uf,plD];refine pG (λ_=>eD (some (0,""))) (by rw[zad];exact szB (by lia)) (λw hw=>?_) λo'=>?_
 .simp only[ws,wsc,iu];rfl
 .simp only[ws,wsc,bH,zaQ];rfl
theorem wy:∀(es:List (List (List Str))) (fs:List (Option (Nat×Str))),dW (es.map sD) (fs.map eD)=(es.zip fs).map λq=>.tuple [sD q.1,eD q.2]
 |[],_=>rfl
 |_::_,[]=>rfl
 |e::es,f::fs=>by
  show .tuple [sD e,eD f]::dW (es.map sD) (fs.map eD)=_;rw[wy es fs];rfl
def kq{es:List (List (List Str))}(h:es.length<=100)(hl:fs.length=es.length)(h1:∀e∈es,1<=e.length/\e.length<=100/\∀p∈e,p.length<=1000)
  (hf:∀q∈es.zip fs,∀n r,q.2=some (n,r)->n+1<=q.1.length/\r.length+y.length<=1000):W (bh [cJ es,bH fs,.str y]) (λr=>r=(bH ((es.zip fs).map λq=>iN q.1 q.2 y),[none,none,none])):=by
 simp only[ws,wsc,bh,j7,uf,plD,bH];rw[wy];have zl:(es.zip fs).length<=100:=by rw[List.length_zip];lia
 refine lQ (λi us en=>us=((es.zip fs).take i).map (λq=>eD (iN q.1 q.2 y))/\∃o0 o1,en=[o0,o1,some (.str y)]) (by rw[zad];exact szB (by lia)) ⟨rfl,_,_,rfl⟩ (λi t us en ht _ ⟨e,o0,o1,hj⟩=>?_) λus en _ ⟨e,o0,o1,hj⟩=>?_
 .subst hj;rw[zao]at ht;obtain⟨q,hq,rfl⟩:=zab.mp ht;have qm:=zaW hq;obtain⟨g1,g2,g3⟩:=h1 q.1 (List.of_mem_zip qm).1;simp only[ws,wsc,i9];refine W.use (yD (f:=q.2) (y:=y) g1 g2 g3 λn r z=>hf q qm n r z) ?_;rintro _ rfl;simp only[ws,wsc];refine⟨?_,_,_,rfl⟩;rw[e,List.take_add_one,hq,zaC];rfl
 .subst hj;rw[zad,bU]at e;subst e;simp only[ws,wsc,zaQ];rfl
def yQ{es:List (List (List Str))}(h:es.length<=100)(h1:∀e∈es,1<=e.length/\e.length<=100):
  W (cF [cJ es,bH fs]) (λr=>r=(.bool (!((es.zip fs).any λq=>du q.1 q.2)),[none,none])):=by
 simp only[ws,wsc,cF,k7,uf,plD,bH];rw[wy];have zl:(es.zip fs).length<=100:=by rw[List.length_zip];lia
 refine lQ (λi us en=>us=(((es.zip fs).take i).map λq=>du q.1 q.2).map PyData.bool/\∃o0 o1,en=[o0,o1]) (by rw[zad];exact szB (by lia)) ⟨rfl,_,_,rfl⟩ (λi t us en ht _ ⟨e,o0,o1,hj⟩=>?_) λus en _ ⟨e,o0,o1,hj⟩=>?_
 .subst hj;rw[zao]at ht;obtain⟨q,hq,rfl⟩:=zab.mp ht;have qm:=zaW hq;obtain⟨g1,g2⟩:=h1 q.1 (List.of_mem_zip qm).1;simp only[ws,wsc,ju];refine W.use (zy (f:=q.2) g1 g2) ?_;rintro _ rfl;simp only[ws,wsc];refine⟨?_,_,_,rfl⟩;rw[e,List.take_add_one,hq,zaC,zaC];rfl
 .subst hj;rw[zad,bU]at e;subst e;have ea:=EU ((es.zip fs).map λq=>du q.1 q.2);have eb:((es.zip fs).map λq=>du q.1 q.2).any id=(es.zip fs).any λq=>du q.1 q.2:=by rw[List.any_map];rfl
  simp only[ws,wsc,ea,eb]
def taF(st:List (List Str))(es:List (List (List Str))):List (D×D):=[(.tuple [.str "step"],sD st),(.tuple [.str "sieve"],cJ es)]
def aK(st:List (List Str))(es:List (List (List Str)))(kvs:NKs):D:=.dict ((.none,.list [.str "Tally",.dict (nkL kvs)])::taF st es)
theorem iG(st es kvs):lI "Tally" "step" (aK st es kvs)=some (sD st):=rfl
theorem dk(st es kvs):lI "Tally" "sieve" (aK st es kvs)=some (cJ es):=rfl
def dQ{m:Str}(st es kvs)(h:(m != ("known":Str))=true)(h1:(("step":Str)==m)=false)(h2:(("sieve":Str)==m)=false):fh "Tally" m (aK st es kvs)=true:=by
 show(("Tally":Str)=="Tally"&&(m != ("known":Str)&&(lookF m (taF st es)).isNone))=true
 have:lookF m (taF st es)=none:=by
  show(if(("step":Str)==m)=true then _ else(if(("sieve":Str)==m)=true then _ else none))=none;rw[h1,h2];rfl
 rw[this,h];rfl
def sI(st es)(h:(kvs.all λq=>bO q.2)=true):cU "Tally" (aK st es kvs)=some (kvs,taF st es):=by
 show(if(("Tally":Str)=="Tally"&&(lookF ("known":Str) (taF st es)).isNone)=true then(xb (nkL kvs)).map λkvs=>(kvs,taF st es)else none)=_;have c:((("Tally":Str)==("Tally":Str))&&(lookF ("known":Str) (taF st es)).isNone)=true:=rfl;rw[if_pos c,tJ h];rfl
theorem E2(st es kvs):nq "Tally" kvs (taF st es)=aK st es kvs:=rfl
theorem IY(st es):kg "Tally" ["step","sieve"] true [sD st,cJ es]=some (aK st es []):=rfl
theorem Kq(es):kg "Fresh" ["elder"] false [plD es]=some (cJ es):=rfl
def fk:Option (Nat×Str)->KyN 2
 |none=>.inl none
 |some (n,r)=>.inr [.inl (some (.inl (n:Int))),.inl (some (.inr r))]
def cS(n:Nat)(fs:List (Option (Nat×Str))):List (KyN 3):=[.inl (some (.inl (n:Int))),.inr (fs.map fk)]
def L4(f:Option (Nat×Str)):kyD 2 (fk f)=eD f:=by
 rcases f with _|⟨n,r⟩<;>rfl
def Lk(n:Nat)(fs:List (Option (Nat×Str))):(cS n fs).map (kyD 3)=[.int (n:Nat),bH fs]:=by
 show[_,PyData.tuple ((fs.map fk).map (kyD 2))]=[_,PyData.tuple (fs.map eD)];rw[zaQ,show kyD 2∘fk=eD from funext L4];rfl
def lB(n:Nat)(fs:List (Option (Nat×Str))):eX (.tuple [.int (n:Nat),bH fs])=some (cS n fs):=by
 rw[<-Lk];exact zn _
def Kt{g:Option (Nat×Str)}(h:fk f=fk g):f=g:=by
 rcases f with _|⟨n,r⟩<;>rcases g with _|⟨m,s⟩
 .rfl
 .cases h
 .cases h
 .injection h with h
  injection h with h1 h2
  injection h2 with h2 _
  injection h1 with h1
  injection h1 with h1
  injection h1 with h1
  injection h2 with h2
  injection h2 with h2
  injection h2 with h2
  have:n=m:=by lia
  subst this;subst h2;rfl
theorem we:∀{fs gs:List (Option (Nat×Str))},fs.map fk=gs.map fk->fs=gs
 |[],[],_=>rfl
 |[],_::_,h=>by cases h
 |_::_,[],h=>by cases h
 |f::fs,g::gs,h=>by
  rw[zar,zar]at h;injection h with h1 h2
  rw[Kt h1,we h2]
def FR{gs:List (Option (Nat×Str))}(h:cS n fs=cS m gs):n=m/\fs=gs:=by
 injection h with h1 h2
 injection h2 with h2 _
 injection h1 with h1
 injection h1 with h1
 injection h1 with h1
 injection h2 with h2
 exact⟨by lia,we h2⟩
def bf(es:List (List (List Str))):List (List Str)->List (Option (Nat×Str))->Nat
 |[],fs=>if((es.zip fs).any λq=>du q.1 q.2)=true then 0 else 1
 |p::ps,fs=>(p.map λw=>bf es ps ((es.zip fs).map λq=>iN q.1 q.2 w)).sum
structure TabOk(st:List (List Str))(es:List (List (List Str)))(kvs:NKs):Prop where
 sc:(kvs.all λq=>bO q.2)=true
 ok:∀q∈kvs,∃n fs,q.1=cS n fs/\q.2=.int (bf es (st.drop n) fs:Nat)
def TabOk.new(st es):TabOk st es []:=⟨rfl,λ_ z=>by cases z⟩
def TabOk.get{st es kvs n fs}{v:D}(h:TabOk st es kvs)(g:dR kvs (cS n fs)=some v):v=.int (bf es (st.drop n) fs:Nat):=by
 obtain⟨q,hq,rfl⟩:=zab.mp g;obtain⟨m,gs,e1,e2⟩:=h.ok q (List.mem_of_find?_eq_some hq);have e3:q.1=cS n fs:=of_decide_eq_true (p:=q.1=cS n fs) (List.find?_some (p:=λq:List (KyN 3)×D=>decide (q.1=cS n fs)) hq);obtain⟨rfl,rfl⟩:=FR (e1.symm.trans e3);exact e2
def TabOk.put{st es kvs n fs}(h:TabOk st es kvs):TabOk st es (cR kvs (cS n fs) (.int (bf es (st.drop n) fs:Nat))):=by
 refine⟨qW h.sc rfl,λq hq=>?_⟩;unfold cR at hq;split at hq
 .obtain⟨r,hr,rfl⟩:=zaz.mp hq;by_cases e:r.1=cS n fs
  .rw[if_pos e];exact⟨n,fs,e,rfl⟩
  .rw[if_neg e];exact h.ok r hr
 .rcases zax.mp hq with z|z
  .exact h.ok q z
  .rw[zaG.mp z];exact⟨n,fs,rfl,rfl⟩
def Fg(kvs:NKs)(k:List (KyN 3))(t:D):(cR kvs k t).length<=kvs.length+1:=by
 unfold cR;split
 .rw[zad];lia
 .rw[zae];exact zav _
def tO{es:List (List (List Str))}(j:Nat)(hs:st.length<=100)(h:es.length<=100)(h1:∀e∈es,1<=e.length/\e.length<=100):
  W (aj (j+1) [aK st es kvs,.int (st.length:Nat),bH fs]) (λr=>r=(.int (bf es [] fs:Nat),[some (aK st es kvs),none,none])):=by
 have a1:bZ "Fresh" "passes" (cJ es)=some (cJ es):=by
  unfold bZ;rw[if_pos (EO es (by decide) (by decide))]
 have nn:isN (bH fs) .none=some (.bool false):=rfl;simp only[ws,wsc,aj,cw,nn,iG,dk,sD,zad,a1];refine W.use (yQ (fs:=fs) h h1) ?_;rintro _ rfl;cases hc:(es.zip fs).any λq=>du q.1 q.2 with
 |true=>
  have e0:bf es [] fs=0:=if_pos hc;rw[e0];simp only[ws,wsc,Bool.not_true];rfl
 |false=>
  have e1:bf es [] fs=1:=if_neg (by rw[hc];exact zbn);rw[e1];simp only[ws,wsc,Bool.not_false];rfl
structure StOk(es:List (List (List Str)))(fs:List (Option (Nat×Str))):Prop where
 len:fs.length=es.length
 ok:∀q∈es.zip fs,∀n r,q.2=some (n,r)->n+1<=q.1.length/\r.length<=6
structure EsOk(es:List (List (List Str))):Prop where
 n:es.length<=100
 e:∀e∈es,1<=e.length/\e.length<=100/\∀p∈e,p.length<=1000/\∀w∈p,w.length<=6
noncomputable def bnd:List (List Str)->Nat
 |[]=>0
 |p::ps=>1+p.length*bnd ps
def aN(es:List (List (List Str)))(fs:List (Option (Nat×Str)))(w:Str):List (Option (Nat×Str)):=(es.zip fs).map λq=>iN q.1 q.2 w
def BT(h:∀p∈e,∀w∈p,w.length<=6){q:List Str×Str}{r:Str}(g:eP e n q=some (m,r)):m+1<=e.length/\r.length<=6:=by
 unfold eP at g;split at g
 case isFalse=>cases g
 next ha=>
 injection g with g
 injection g with g1 g2
 subst g1 g2;obtain⟨w,hw,hp⟩:=alive_iff.mp ha;rw[zbh]at hw;cases hx:e[n+q.1.length]? with
 |none=>rw[hx]at hw;cases hw
 |some p=>
  rw[hx]at hw;exact⟨(zah.mp hx).1,zau (vJ hp) (h p (zaW hx) w hw)⟩
def StOk.step{es fs}(h:StOk es fs)(k:EsOk es)(w:Str):StOk es (aN es fs w):=by
 have hl:(aN es fs w).length=es.length:=by
  unfold aN;rw[zad,List.length_zip,h.len,Nat.min_self]
 refine⟨hl,λq hq n r e=>?_⟩;obtain⟨i,hi,rfl⟩:=List.mem_iff_getElem.mp hq;rw[List.getElem_zip]at e ⊢
 dsimp only at e ⊢
 unfold aN at e;rw[List.getElem_map,List.getElem_zip]at e
 dsimp only at e
 have hie:i<es.length:=by rw[List.length_zip]at hi;lia
 generalize hf:fs[i]'(by rw[h.len];exact hie)=f at e;cases f with
 |none=>cases e
 |some z=>
  obtain⟨a,b⟩:=z;exact BT (λp hp=>((k.e _ (zaJ hie)).2.2 p hp).2) e
section
variable{es:List (List (List Str))}
def MOk(st:List (List Str))(es:List (List (List Str)))(F:List D->Option (D×En))(n:Nat):Prop:=∀kvs fs,StOk es fs->TabOk st es kvs->kvs.length+bnd (st.drop n)<=50000 ->
 W (F [aK st es kvs,.int (n:Nat),bH fs]) (λr=>∃kvs',r=(.int (bf es (st.drop n) fs:Nat),[some (aK st es kvs'),none,none])/\TabOk st es kvs'/\kvs'.length<=kvs.length+bnd (st.drop n))
def jS{m:Str}(es:List (List (List Str)))(h:(m != ("known":Str))=true)(h2:(m==("elder":Str))=false):bZ "Fresh" m (cJ es)=some (cJ es):=by
 unfold bZ;rw[if_pos (EO es h h2)]
def LR{kvs fs}(K:EsOk es)(M:MOk st es F (n+1))(hs:StOk es fs)(ht:TabOk st es kvs)(hb:kvs.length+bnd (st.drop (n+1))<=50000)(hw:w.length<=6):
  W (bQ F [aK st es kvs,.int (n:Nat),bH fs,.str w]) (λr=>∃kvs',r=(.int (bf es (st.drop (n+1)) (aN es fs w):Nat),[some (aK st es kvs'),none,none,none])/\TabOk st es kvs'/\kvs'.length<=kvs.length+bnd (st.drop (n+1))):=by
 have a1:=jS (m:="further") es (by decide) (by decide);have a2:=dQ (m:="many_from") st es kvs (by decide) (by decide) (by decide);simp only[ws,wsc,bQ,mo,dk,a1,a2];refine W.use (kq (fs:=fs) (y:=w) K.n hs.len (λe he=>⟨(K.e e he).1,(K.e e he).2.1,λp hp=>((K.e e he).2.2 p hp).1⟩) λq hq m r e=>⟨(hs.ok q hq m r e).1,by have:=(hs.ok q hq m r e).2;lia⟩) ?_;rintro _ rfl;simp only[ws,wsc];have en:(n:Int)+1=((n+1:Nat):Int):=by lia
 rw[en];refine W.use (M kvs (aN es fs w) (hs.step K w) ht hb) ?_;rintro _ ⟨kvs',rfl,t1,t2⟩;simp only[ws,wsc];exact⟨kvs',rfl,t1,t2⟩
end
def qD{α:Type}(ts:List α)(k:Nat):cq ts none (some (k:Int))=ts.take k:=by
 unfold cq;rw[HT.sIx_none,HT.sIx_nat,za2,Nat.sub_zero];rcases Nat.le_total k ts.length with h|h
 .rw[Nat.min_eq_left h]
 .rw[Nat.min_eq_right h,List.take_of_length_le (zav _),List.take_of_length_le h]
section
variable{es:List (List (List Str))}
def ji{kvs fs}(K:EsOk es)(M:MOk st es F (n+1))(hs:StOk es fs)(ht:TabOk st es kvs)(hp:st[n]?=some p)(hl:st.length<=100)(hp1:p.length<=1000)(hw:∀w∈p,w.length<=6)
  (hb:kvs.length+p.length*bnd (st.drop (n+1))<=50000):
  W (aD F [aK st es kvs,.int (n:Nat),bH fs,.int (m:Nat)]) (λr=>∃kvs',r=(.int (((p.take m).map λw=>bf es (st.drop (n+1)) (aN es fs w)).sum:Nat),[some (aK st es kvs'),none,none,none])/\TabOk st es kvs'/\kvs'.length<=kvs.length+p.length*bnd (st.drop (n+1))):=by
 have ea:atI (st.map pD) (n:Int)=some (pD p):=fm (by lia) (by rw[zaK,zao,hp];rfl);simp only[ws,wsc,aD,gh,iG,sD,ea,pD];have hk:(p.take m).length<=p.length:=by rw[zaE];lia
 rw[qD,<-List.map_take];refine lQ (λi us en=>us=(((p.take m).take i).map λw=>((bf es (st.drop (n+1)) (aN es fs w):Nat):Int)).map PyData.int/\∃o kvs',en=[o,some (aK st es kvs'),some (.int (n:Nat)),some (bH fs)]/\TabOk st es kvs'/\kvs'.length<=kvs.length+i*bnd (st.drop (n+1)))
  (by rw[zad];exact szB (by lia)) ⟨rfl,_,kvs,rfl,ht,by lia⟩ (λi t us en hx _ ⟨e,o,kvs',hj,t1,t2⟩=>?_) λus en _ ⟨e,o,kvs',hj,t1,t2⟩=>?_
 .subst hj;rw[zao]at hx;obtain⟨w,hq,rfl⟩:=zab.mp hx;have wm:w∈p:=List.mem_of_mem_take (zaW hq);have hi:i<p.length:=zag (zah.mp hq).1 hk;have mul:(i+1)*bnd (st.drop (n+1))<=p.length*bnd (st.drop (n+1)):=Nat.mul_le_mul_right _ hi;rw[Nat.succ_mul]at mul;have a2:=dQ (m:="by") st es kvs' (by decide) (by decide) (by decide);simp only[ws,wsc,ir,a2];refine W.use (LR (n:=n) (w:=w) K M hs t1 (by lia) (hw w wm)) ?_;rintro _ ⟨kvs2,rfl,u1,u2⟩;simp only[ws,wsc];refine⟨?_,_,kvs2,rfl,u1,by rw[Nat.succ_mul];lia⟩;rw[e,List.take_add_one,hq,zaC,zaC];rfl
 .subst hj;rw[zad,bU]at e;subst e;have m2:(p.take m).length*bnd (st.drop (n+1))<=p.length*bnd (st.drop (n+1)):=Nat.mul_le_mul_right _ hk;rw[zad]at t2;have es1:=nr ((p.take m).map λw=>((bf es (st.drop (n+1)) (aN es fs w):Nat):Int));have es2:((p.take m).map λw=>((bf es (st.drop (n+1)) (aN es fs w):Nat):Int)).sum=((((p.take m).map λw=>bf es (st.drop (n+1)) (aN es fs w)).sum:Nat):Int):=by
   rw[<-qc,zaQ];rfl
  rw[es2]at es1;simp only[ws,wsc,es1];exact⟨kvs',rfl,t1,by lia⟩
end
def FZ(kvs:NKs)(k:List (KyN 3))(t:D):dR (cR kvs k t) k=some t:=by
 unfold dR cR;by_cases h:(kvs.any λq=>decide (q.1=k))=true
 .rw[if_pos h]
  induction kvs with
  |nil=>cases h
  |cons q r ih=>
   rw[zar,zbo];by_cases e:q.1=k
   .rw[if_pos e];simp only[e,decide_true];rfl
   .rw[if_neg e];simp only[e,decide_false];refine ih ?_;rw[List.any_cons]at h;simpa[e]using h
 .rw[if_neg h,List.find?_append]
  have:kvs.find? (λq=>decide (q.1=k))=none:=by
   rw[List.find?_eq_none];intro q hq z;exact h (zbL.mpr ⟨q,hq,z⟩)
  rw[this];simp
section
variable{es:List (List (List Str))}
def y9(K:EsOk es)(M:MOk st es (aj j) (n+1))(hp:st[n]?=some p)(hl:st.length<=100)(hp1:p.length<=1000)(hw:∀w∈p,w.length<=6):
  ∀kvs fs,StOk es fs->TabOk st es kvs->kvs.length+bnd (st.drop n)<=50000->W (aj (j+1) [aK st es kvs,.int (n:Nat),bH fs]) (λr=>∃kvs',r=(.int (bf es (st.drop n) fs:Nat),[some (aK st es kvs'),none,none])/\TabOk st es kvs'/\kvs'.length<=kvs.length+bnd (st.drop n)):=by
 intro kvs fs hs ht hb;have hn:n<st.length:=(zah.mp hp).1;have hd:st.drop n=p::st.drop (n+1):=by rw[zbK hn,(zah.mp hp).2]
 have hc:bf es (st.drop n) fs=(p.map λw=>bf es (st.drop (n+1)) (aN es fs w)).sum:=by rw[hd];rfl
 have hbd:bnd (st.drop n)=1+p.length*bnd (st.drop (n+1)):=by rw[hd];rfl
 have nn:isN (bH fs) .none=some (.bool false):=rfl;have ne:decide ((n:Int)=(st.length:Int))=false:=zaA (by lia);have ky:eX (.tuple [.int (n:Nat),bH fs])=some (cS n fs):=lB n fs;have tb:=sI (kvs:=kvs) st es ht.sc;have ea:atI (st.map pD) (n:Int)=some (pD p):=fm (by lia) (by rw[zaK,zao,hp];rfl);cases hg:dR kvs (cS n fs)with
 |some v=>
  have e:=ht.get hg;subst e;simp only[ws,wsc,aj,cw,nn,iG,dk,sD,zad,ne,ky,tb,hg,Option.isSome_some,Bool.not_true];exact⟨kvs,rfl,ht,by lia⟩
 |none=>
  have a2:=dQ (m:="by_first") st es kvs (by decide) (by decide) (by decide);simp only[ws,wsc,aj,cw,nn,iG,dk,sD,zad,ne,ky,tb,hg,Option.isSome_none,Bool.not_false,ea,a2,pD];refine W.use (ji (m:=p.length) K M hs ht hp hl hp1 hw (by lia)) ?_;rintro _ ⟨kvs',rfl,t1,t2⟩;rw[List.take_of_length_le (zav _),<-hc];have tb':=sI (kvs:=kvs') st es t1.sc;have t3:=t1.put (n:=n) (fs:=fs);have tb2:=sI (kvs:=cR kvs' (cS n fs) (.int (bf es (st.drop n) fs:Nat))) st es t3.sc;have gp:=FZ kvs' (cS n fs) (.int (bf es (st.drop n) fs:Nat));have pl:=Fg kvs' (cS n fs) (.int (bf es (st.drop n) fs:Nat));have s1:kvs'.length<sizeLine/\bO (.int (bf es (st.drop n) fs:Nat))=true:=⟨sK (by lia),rfl⟩;simp only[ws,wsc,ky,tb',E2,tb2,gp];exact⟨s1,_,rfl,t3,by lia⟩
structure SOkS(st:List (List Str)):Prop where
 l:st.length<=100
 p:∀p∈st,p.length<=1000/\∀w∈p,w.length<=6
 b:bnd st<=20000
theorem nY:∀(st:List (List Str)) (n:Nat),(∀p∈st.take n,1<=p.length)->bnd (st.drop n)<=bnd st
 |_,0,_=>zav _
 |[],n+1,_=>zav _
 |p::st,n+1,h=>by
  have h1:=h p (zaq ..);have ih:=nY st n λq hq=>h q (zaj _ hq)
  have:bnd st<=p.length*bnd st:=Nat.le_mul_of_pos_left _ h1;show bnd (st.drop n)<=1+p.length*bnd st
  lia
def nO(K:EsOk es)(S:SOkS st):∀(j n:Nat),n<=st.length->st.length-n<=j->MOk st es (aj (j+1)) n:=by
 intro j
 induction j with
 |zero=>
  intro n hn hj kvs fs hs ht hb;have e:n=st.length:=by lia
  subst e;refine(tO 0 S.l K.n λe he=>⟨(K.e e he).1,(K.e e he).2.1⟩).use ?_;rintro _ rfl;rw[List.drop_length];exact⟨kvs,rfl,ht,Nat.le_add_right _ _⟩
 |succ j ih=>
  intro n hn hj;by_cases e:n=st.length
  .intro kvs fs hs ht hb;subst e;refine(tO (j+1) S.l K.n λe he=>⟨(K.e e he).1,(K.e e he).2.1⟩).use ?_;rintro _ rfl;rw[List.drop_length];exact⟨kvs,rfl,ht,Nat.le_add_right _ _⟩
  .have hp:=zak (l:=st) (i:=n) (by lia);have hm:=S.p _ (zaW hp);exact y9 K (ih (n+1) (by lia) (by lia)) hp S.l hm.1 hm.2
end
noncomputable def st0(es:List (List (List Str))):List (Option (Nat×Str)):=es.map λ_=>some (0,"")
section
variable{es:List (List (List Str))}
def sP(K:EsOk es):StOk es (st0 es):=by
 refine⟨zad _,λq hq n r e=>?_⟩;obtain⟨i,hi,rfl⟩:=List.mem_iff_getElem.mp hq;rw[List.getElem_zip]at e ⊢
 dsimp only at e ⊢
 unfold st0 at e;rw[List.getElem_map]at e;injection e with e
 injection e with e1 e2
 subst e1 e2;rw[List.length_zip]at hi;exact⟨(K.e _ (zaJ _)).1,zbj _⟩
def j8(K:EsOk es)(S:SOkS st)(h5:st.length<=5)(ht:TabOk st es kvs)(hb:kvs.length+bnd st<=50000):
  W (bq [aK st es kvs]) (λr=>∃kvs',r=(.int (bf es st (st0 es):Nat),[some (aK st es kvs')])/\TabOk st es kvs'/\kvs'.length<=kvs.length+bnd st):=by
 have a1:=jS (m:="at_first") es (by decide) (by decide);have a2:=dQ (m:="many_from") st es kvs (by decide) (by decide) (by decide);have M:=nO K S 5 0 (zbj _) (by lia);simp only[ws,wsc,bq,mn,dk,a1,a2];refine W.use (nR K.n) ?_;rintro _ rfl;simp only[ws,wsc];refine W.use (M kvs (st0 es) (sP K) ht hb) ?_;rintro _ ⟨kvs',rfl,t1,t2⟩;simp only[ws,wsc];exact⟨kvs',rfl,t1,t2⟩
end
def kz(h:pl[i]?=some ps)(hl:pl.length<=100):W (bP [plD pl,.int (i:Nat)]) (λr=>r=(aK ps (pl.take i) [],[none,none])):=by
 have ea:atI (pl.map sD) (i:Int)=some (sD ps):=fm (by lia) (by rw[zaK,zao,h];rfl);have en:kg "Fresh" ["elder"] false [.tuple ((pl.take i).map sD)]=some (cJ (pl.take i)):=Kq _;have et:=IY ps (pl.take i);simp only[ws,wsc,bP,mi,plD,ea,qD,<-List.map_take,en,et]
structure PlS(pl:List (List (List Str))):Prop where
 l:pl.length<=100
 s:∀ps∈pl,SOkS ps/\1<=ps.length/\ps.length<=5
def PlS.es(P:PlS pl)(i:Nat):EsOk (pl.take i):=
 ⟨by rw[zaE];have:=P.l;lia,λe he=>by
  obtain⟨a,b,c⟩:=P.s e (List.mem_of_mem_take he);exact⟨b,a.l,a.p⟩⟩
def cZ(pl:List (List (List Str)))(i:Nat):Nat:=match pl[i]? with
 |some ps=>bf (pl.take i) ps (st0 (pl.take i))
 |none=>0
def Ka(P:PlS pl):W (fM [plD pl]) (λr=>r=(.int (((List.range pl.length).map (cZ pl)).sum:Nat),[none])):=by
 simp only[ws,wsc,fM,rN,plD,zad];have l:=P.l;refine⟨⟨by lia,by lia⟩,?_⟩;rw[zaK];have rl:(kb 0 pl.length).length=pl.length:=by unfold kb;rw[zad,zbe]
 refine lQ (λi us en=>us=((List.range i).map λk=>((cZ pl k:Nat):Int)).map PyData.int/\∃o,en=[o,some (plD pl)]) (by rw[rl];exact szB (by lia)) ⟨rfl,_,rfl⟩ (λi t us en hx _ ⟨e,o,hj⟩=>?_) λus en _ ⟨e,o,hj⟩=>?_
 .subst hj;obtain⟨hi,rfl⟩:=eJ hx;have hp:=zak (l:=pl) hi;obtain⟨S,b,c⟩:=P.s _ (zaW hp);have K:=P.es i;have a1:bZ "Tally" "whole" (aK pl[i] (pl.take i) [])=some (aK pl[i] (pl.take i) []):=by
   unfold bZ;rw[if_pos (dQ _ _ _ (by decide) (by decide) (by decide))]
  have ei:(0:Int)+(i:Int)=((i:Nat):Int):=by lia
  rw[ei];simp only[ws,wsc,nc];refine W.use (kz hp l) ?_;rintro _ rfl;simp only[ws,wsc,a1];refine W.use (j8 K S c (TabOk.new _ _) (by have:=S.b;show 0+_<=_;lia)) ?_;rintro _ ⟨kvs',rfl,t1,t2⟩;simp only[ws,wsc];refine⟨?_,_,rfl⟩;have en:cZ pl i=bf (pl.take i) pl[i] (st0 (pl.take i)):=by unfold cZ;rw[hp]
  rw[e,zbJ,zaC,zaC,List.map_singleton,List.map_singleton,en]
 .subst hj;rw[rl]at e;subst e;have es1:=nr ((List.range pl.length).map λk=>((cZ pl k:Nat):Int));have es2:((List.range pl.length).map λk=>((cZ pl k:Nat):Int)).sum=((((List.range pl.length).map (cZ pl)).sum:Nat):Int):=by
   rw[<-qc,zaQ];rfl
  rw[es2]at es1;simp only[ws,wsc,es1]
def bB(es:List (List (List Str)))(t:Str):Bool:=es.all λe=>!decide (t∈mkR e)
def fV(es:List (List (List Str)))(t:Str):List (Option (Nat×Str)):=if t="" then st0 es else es.map λe=>far e t
def uF(h:1<=w.length):t++w≠"":=λz=>by
 have:=congrArg Str.length z;rw[cb]at this;have e:(("":Str)).length=0:=rfl
 lia
def ni{α β:Type}(es:List α)(f:α->β):es.zip (es.map f)=es.map λe=>(e,f e):=by
 induction es with
 |nil=>rfl
 |cons e es ih=>rw[zar,List.zip_cons_cons,ih,zar]
def jj{es:List (List (List Str))}(hf:∀e∈es,∀p∈e.dropLast,fr p=true)(h:1<=w.length):aN es (fV es t) w=fV es (t++w):=by
 unfold aN fV;rw[if_neg (uF h)];by_cases ht:t=""
 .subst ht;rw[if_pos rfl];unfold st0;rw[ni,zaQ];refine zbv λe he=>?_;rfl
 .rw[if_neg ht,ni,zaQ];refine zbv λe he=>?_;exact(Gn (hf e he) t w).symm
def vT{es:List (List (List Str))}(hf:∀e∈es,∀p∈e.dropLast,fr p=true)(h1:∀e∈es,e≠[])(ht:t≠""):((es.zip (fV es t)).any λq=>du q.1 q.2)=!bB es t:=by
 unfold fV bB;rw[if_neg ht,ni,List.any_map]
 have:∀e∈es,du e (far e t)=decide (t∈mkR e):=λe he=>by
  have e1:=List.dropLast_concat_getLast (h1 e he)
  have:=Ln (ps:=e.dropLast) (p:=e.getLast (h1 e he)) (hf e he) t
  rwa[e1]at this
 rw[Bool.eq_iff_iff,zbL,Bool.not_eq_true',List.all_eq_false];constructor
 .rintro⟨e,he,z⟩;exact⟨e,he,by rw[<-this e he];show ¬(!du e (far e t))=true;rw[show du e (far e t)=true from z];decide⟩
 .rintro⟨e,he,z⟩;rw[<-this e he]at z;refine⟨e,he,?_⟩;show du e (far e t)=true;cases hh:du e (far e t)with
  |true=>rfl
  |false=>rw[hh]at z;exact absurd rfl z
theorem qF{es:List (List (List Str))}(hf:∀e∈es,∀p∈e.dropLast,fr p=true)(h1:∀e∈es,e≠[]):∀{ps:List (List Str)} {t:Str},(∀p∈ps,∀w∈p,1<=w.length)->(t≠""\/ps≠[])->bf es ps (fV es t)=((mkR ps).filter λs=>bB es (t++s)).length
 |[],t,_,ht=>by
  have ht:t≠"":=ht.resolve_right λz=>z rfl;show(if _ then 0 else 1)=(([""]:List Str).filter _).length;rw[vT hf h1 ht,List.filter_cons,gI];cases bB es t<;>rfl
 |p::ps,t,hw,_=>by
  show(p.map λw=>bf es ps (aN es (fV es t) w)).sum=((p.flatMap λw=>(mkR ps).map λx=>w++x).filter _).length;rw[List.filter_flatMap,List.length_flatMap];congr 1;refine zbv λw hwp=>?_;have l:=hw p (zaq ..) w hwp;rw[jj hf l,qF hf h1 (λq hq=>hw q (zaj _ hq)) (.inl (uF l)),zbA,zad];congr 2
  funext s
  show bB es (t++w++s)=bB es (t++(w++s));rw[jU]
theorem uA:∀(B acc:List Str),B.Nodup->ddF acc B=acc++B.filter λx=>!decide (x∈acc)
 |[],acc,_=>by simp[ddF]
 |x::B,acc,h=>by
  obtain⟨hx,hB⟩:=zbc.mp h;show ddF (if x∈acc then acc else acc++[x]) B=_;by_cases hm:x∈acc
  .rw[if_pos hm,uA B acc hB,List.filter_cons];simp[hm]
  .rw[if_neg hm,uA B _ hB,List.filter_cons,zaD]
   have:B.filter (λy=>!decide (y∈acc++[x]))=B.filter λy=>!decide (y∈acc):=by
    refine List.filter_congr λy hy=>?_
    have:y≠x:=λe=>hx (e▸hy);simp[this]
   rw[this];simp[hm]
theorem qo:∀(l acc:List Str) (x:Str),x∈ddF acc l↔x∈acc\/x∈l
 |[],acc,x=>by simp[ddF]
 |y::l,acc,x=>by
  show x∈ddF (if y∈acc then acc else acc++[y]) l↔_;rw[qo l];by_cases hm:y∈acc
  .rw[if_pos hm,zay];constructor
   .rintro (h|h);exact .inl h;exact .inr (.inr h)
   .rintro (h|h|h)
    .exact .inl h
    .exact .inl (h▸hm)
    .exact .inr h
  .rw[if_neg hm,zax,zaG,zay,or_assoc]
def Gs(A B:List Str)(h:B.Nodup):dd (A++B)=dd A++B.filter λx=>!decide (x∈A):=by
 show ddF [] (A++B)=_
 have:ddF [] (A++B)=ddF (ddF [] A) B:=List.foldl_append;rw[this,uA B _ h];congr 1;refine List.filter_congr λx _=>?_
 have:x∈ddF [] A↔x∈A:=by rw[qo];simp
 simp only[this]
def FG(es:List (List (List Str)))(x:Str):bB es x=!decide (x∈es.flatMap mkR):=by
 rw[Bool.eq_iff_iff];simp[bB,List.mem_flatMap]
def eW(pl:List (List (List Str)))(i:Nat):List Str:=match pl[i]? with
 |some ps=>(mkR ps).filter (bB (pl.take i))
 |none=>[]
theorem nz{pl:List (List (List Str))}(hn:∀ps∈pl,(mkR ps).Nodup):∀i,i<=pl.length->dd ((pl.take i).flatMap mkR)=(List.range i).flatMap (eW pl)
 |0,_=>rfl
 |i+1,h=>by
  have hp:=zak (l:=pl) (i:=i) (by lia);have e:pl.take (i+1)=pl.take i++[pl[i]]:=by rw[List.take_add_one,hp];rfl
  have e2:(pl.take (i+1)).flatMap mkR=(pl.take i).flatMap mkR++mkR pl[i]:=by
   rw[e,List.flatMap_append];simp
  rw[e2,Gs _ _ (hn _ (zaW hp)),nz hn i (by lia),zbJ,List.flatMap_append];congr 1
  have:eW pl i=(mkR pl[i]).filter (bB (pl.take i)):=by unfold eW;rw[hp]
  rw[show[i].flatMap (eW pl)=eW pl i by simp,this];exact List.filter_congr λx _=>(FG _ x).symm
structure PlG(pl:List (List (List Str))):Prop where
 s:PlS pl
 fre:∀ps∈pl,∀p∈ps.dropLast,fr p=true
 nd:∀ps∈pl,(mkR ps).Nodup
 w1:∀ps∈pl,∀p∈ps,∀w∈p,1<=w.length
def tK(P:PlG pl)(i:Nat):cZ pl i=(eW pl i).length:=by
 unfold cZ eW;cases hp:pl[i]? with
 |none=>rfl
 |some ps=>
  have pm:=zaW hp;have hne:∀e∈pl,e≠[]:=λe he z=>by have:=(P.s.s e he).2.1;rw[z]at this;exact absurd this (by decide)
  have:=qF (es:=pl.take i) (λe he=>P.fre e (List.mem_of_mem_take he)) (λe he=>hne e (List.mem_of_mem_take he)) (ps:=ps) (t:="") (P.w1 ps pm) (.inr (hne ps pm));have f0:fV (pl.take i) ""=st0 (pl.take i):=if_pos rfl;rw[f0]at this;show bf (pl.take i) ps (st0 (pl.take i))=_;rw[this];congr 2
  funext s
  rw[mz]
def FY(P:PlG pl):W (fM [plD pl]) (λr=>r=(.int ((dd (pl.flatMap mkR)).length:Nat),[none])):=by
 have e:((List.range pl.length).map (cZ pl)).sum=(dd (pl.flatMap mkR)).length:=by
  have:=nz P.nd pl.length (zav _);rw[zaP]at this;rw[this,List.length_flatMap];congr 1;exact zbv λi _=>tK P i
 rw[<-e];exact Ka P.s
def bI(es:List (List (List Str))):List (List Str)->List Nat->List (Option (Nat×Str))->Nat
 |p::ps,j::js,fs=>((p.take j).map λw=>bf es ps (aN es fs w)).sum+bI es ps js (aN es fs (p.getD j ""))
 |_,_,_=>0
section
variable{es:List (List (List Str))}
def B7(K:EsOk es)(S:SOkS st)(h5:st.length<=5)(hj:js.length=st.length)(hjl:∀(i j:Nat) p,js[i]?=some j->st[i]?=some p->j<p.length)(ht:TabOk st es kvs)(hb:kvs.length+st.length*bnd st<=40000):
  W (bT [aK st es kvs,.list (js.map λj=>.int (j:Nat))]) (λr=>∃kvs',r=(.int (bI es st js (st0 es):Nat),[some (aK st es kvs'),none])/\TabOk st es kvs'):=by
 have a1:=jS (m:="at_first") es (by decide) (by decide);simp only[ws,wsc,bT,jv,dk,a1];refine W.use (nR K.n) ?_;rintro _ rfl;simp only[ws,wsc];have fl:(cy (js.map λj=>PyData.int (j:Nat))).length=st.length:=by unfold cy;rw[zad,List.length_zipIdx,zad,hj]
 refine bS (λi en=>∃(m:Nat) (fs:List (Option (Nat×Str))) (kvs':NKs) (o4 o5:Option D),en=[some (aK st es kvs'),some (.list (js.map λj=>.int (j:Nat))),some (.int (m:Nat)),some (bH fs),o4,o5]/\StOk es fs/\TabOk st es kvs'/\kvs'.length<=kvs.length+i*bnd st/\m+bI es (st.drop i) (js.drop i) fs=bI es st js (st0 es))
  ⟨0,st0 es,kvs,_,_,rfl,sP K,ht,by lia,by rw[za2,za2,za3]⟩ (λi t en hx ⟨m,fs,kvs',o4,o5,e,s1,t1,t2,t3⟩=>?_) λen ⟨m,fs,kvs',o4,o5,e,s1,t1,t2,t3⟩=>?_
 .subst e;obtain⟨u,hu,rfl⟩:=hR hx;rw[zao]at hu;obtain⟨j,hj',rfl⟩:=zab.mp hu;have hi:i<st.length:=by rw[<-hj];exact(zah.mp hj').1
  have hp:=zak (l:=st) hi;generalize hpp:st[i]=p at hp;have hm:=S.p p (zaW hp);have hjp:=hjl i j p hj' hp;have M:=nO K S 5 (i+1) (by lia) (by lia);have hd:st.drop i=p::st.drop (i+1):=by rw[zbK hi,hpp]
  have hdj:js.drop i=j::js.drop (i+1):=by rw[zbK (by lia),(zah.mp hj').2]
  have ne1:∀q∈st.take i,1<=q.length:=λq hq=>by
   obtain⟨k,hk,rfl⟩:=List.mem_iff_getElem.mp hq;rw[zaE]at hk;rw[List.getElem_take]
   have:=hjl k (js[k]'(by lia)) (st[k]'(by lia)) (zak (by lia)) (zak (by lia))
   lia
  have bd:=nY st i ne1;have bp:bnd (st.drop i)=1+p.length*bnd (st.drop (i+1)):=by rw[hd];rfl
  have mul:(i+1)*bnd st<=st.length*bnd st:=Nat.mul_le_mul_right _ hi;rw[Nat.succ_mul]at mul;have a2:=dQ (m:="by_first") st es kvs' (by decide) (by decide) (by decide);have a3:=jS (m:="further") es (by decide) (by decide);simp only[ws,wsc,iq,a2];refine W.use (ji (m:=j) K M s1 t1 hp S.l hm.1 hm.2 (by lia)) ?_;rintro _ ⟨kvs2,rfl,u1,u2⟩;have ea:atI (st.map pD) (i:Int)=some (pD p):=fm (by lia) (by rw[zaK,zao,hp];rfl);have eb:atI (p.map PyData.str) (j:Int)=some (.str p[j]):=fm (by lia) (by rw[zaK,zao,zak hjp];rfl);simp only[ws,wsc,dk,iG,sD,a3,ea,pD,eb];refine W.use (kq (fs:=fs) (y:=p[j]) K.n s1.len (λe he=>⟨(K.e e he).1,(K.e e he).2.1,λq hq=>((K.e e he).2.2 q hq).1⟩) λq hq a r e=>⟨(s1.ok q hq a r e).1,by have:=(s1.ok q hq a r e).2;have:=hm.2 p[j] (zaJ hjp);lia⟩) ?_;rintro _ rfl;simp only[ws,wsc];refine⟨m+((p.take j).map λw=>bf es (st.drop (i+1)) (aN es fs w)).sum,aN es fs p[j],kvs2,some (.int (i:Nat)),some (.int (j:Nat)),?_,s1.step K _,u1,by rw[Nat.succ_mul];lia,?_⟩
  .rw[Int.natCast_add];rfl
  .rw[<-t3,hd,hdj];show _=m+(_+bI es (st.drop (i+1)) (js.drop (i+1)) (aN es fs (p.getD j "")));rw[zbh,zak hjp];show _+bI es (st.drop (i+1)) (js.drop (i+1)) (aN es fs p[j])=_+(_+bI es (st.drop (i+1)) (js.drop (i+1)) (aN es fs p[j]))
   lia
 .subst e;rw[fl,List.drop_length]at t3
  have:bI es [] (js.drop st.length) fs=0:=by cases js.drop st.length<;>rfl
  rw[this,Nat.add_zero]at t3;simp only[ws,wsc];rw[t3];exact⟨kvs',rfl,t1⟩
def dX(es:List (List (List Str)))(ps:List (List Str))(p:List Str)(fs:List (Option (Nat×Str)))(k:Nat):Nat:=((p.take k).map λw=>bf es ps (aN es fs w)).sum
def yj{left:Nat}{kvs fs}(K:EsOk es)(M:MOk st es (aj 6) (n+1))(hs:StOk es fs)(ht:TabOk st es kvs)(hp:st[n]?=some p)(hl:st.length<=100)(hp1:p.length<=1000)(hw:∀w∈p,w.length<=6)
  (hlt:left<dX es (st.drop (n+1)) p fs p.length) (hb:kvs.length+p.length*(p.length*bnd (st.drop (n+1)))<=40000) (hb1:p.length*bnd (st.drop (n+1))<=9000):
  W (bv [aK st es kvs,.int (n:Nat),bH fs,.int (left:Nat)]) (λr=>∃(j:Nat) (kvs':NKs),r=(.int (j:Nat),[some (aK st es kvs'),none,none,none])/\j<p.length/\dX es (st.drop (n+1)) p fs j<=left/\left<dX es (st.drop (n+1)) p fs (j+1)/\TabOk st es kvs'/\kvs'.length<=kvs.length+(p.length+1)*(p.length*bnd (st.drop (n+1)))):=by
 simp only[ws,wsc,bv,gn];refine wv (λm en=>∃(j:Nat) (kvs':NKs),m=p.length-j/\en=[some (aK st es kvs'),some (.int (n:Nat)),some (bH fs),some (.int (left:Nat)),some (.int (j:Nat))]/\j<p.length/\dX es (st.drop (n+1)) p fs j<=left/\TabOk st es kvs'/\kvs'.length<=kvs.length+j*(p.length*bnd (st.drop (n+1))))
  (λm en ⟨j,kvs',hm,e,hj,hle,t1,t2⟩=>?_) (n:=p.length) ⟨0,kvs,rfl,rfl,?_,zbj _,ht,by lia⟩
 .subst e;have a2:=dQ (m:="by_first") st es kvs' (by decide) (by decide) (by decide);have mul:j*(p.length*bnd (st.drop (n+1)))<=p.length*(p.length*bnd (st.drop (n+1))):=Nat.mul_le_mul_right _ (Nat.le_of_lt hj);have en1:(j:Int)+1=((j+1:Nat):Int):=by lia
  simp only[ws,wsc,fL,a2,en1];refine W.use (ji (m:=j+1) K M hs t1 hp hl hp1 hw (by lia)) ?_;rintro _ ⟨kvs2,rfl,u1,u2⟩;simp only[ws,wsc];show kWh da _ _ (decide (((dX es (st.drop (n+1)) p fs (j+1):Nat):Int)<=(left:Int)),_);by_cases hc:dX es (st.drop (n+1)) p fs (j+1)<=left
  .have hc2:decide (((dX es (st.drop (n+1)) p fs (j+1):Nat):Int)<=(left:Int))=true:=zaB (by lia);have hj2:j+1<p.length:=by
    rcases Nat.lt_or_ge (j+1) p.length with z|z
    .exact z
    .have:j+1=p.length:=by lia
     rw[this]at hc
     lia
   rw[hc2];simp only[ws,wsc,da];rw[en1];exact⟨p.length-(j+1),by lia,j+1,kvs2,rfl,rfl,hj2,hc,u1,by rw[Nat.succ_mul];lia⟩
  .have hc2:decide (((dX es (st.drop (n+1)) p fs (j+1):Nat):Int)<=(left:Int))=false:=zaA (by lia);rw[hc2];simp only[ws,wsc];exact⟨j,kvs2,rfl,hj,hle,by lia,u1,by rw[Nat.succ_mul];lia⟩
 .rcases Nat.eq_zero_or_pos p.length with z|z
  .rw[za7.mp z]at hlt;exact absurd hlt (Nat.not_lt_zero _)
  .exact z
def yn(h:j<p.length):dX es ps p fs (j+1)=dX es ps p fs j+bf es ps (aN es fs p[j]):=by
 unfold dX;rw[List.take_add_one,zak h,zaC,List.sum_append];simp
def AC:dX es ps p fs p.length=bf es (p::ps) fs:=by
 unfold dX;rw[List.take_of_length_le (zav _)];rfl
noncomputable def wat:List (List Str)->List Nat->Str
 |p::ps,j::js=>p.getD j ""++wat ps js
 |_,_=>""
theorem sG:∀{ps:List (List Str)} {js:List Nat} {p:List Str} {j:Nat},js.length=ps.length->wat (ps++[p]) (js++[j])=wat ps js++p.getD j ""
 |[],[],p,j,_=>by
  show p.getD j ""++""=""++p.getD j "";rw[gI,mz]
 |[],_::_,_,_,h=>by cases h
 |_::_,[],_,_,h=>by cases h
 |q::ps,i::js,p,j,h=>by
  show q.getD i ""++wat (ps++[p]) (js++[j])=q.getD i ""++wat ps js++p.getD j "";rw[sG (Nat.succ.inj h),jU]
structure PI2(st:List (List Str))(es:List (List (List Str)))(num:Nat)(kvs:NKs)(i:Nat)(js:List Nat)(fs:List (Option (Nat×Str)))(left:Nat)(kvs':NKs):Prop where
 len:js.length=i
 val:∀(k j:Nat) p,js[k]?=some j->st[k]?=some p->j<p.length
 s:StOk es fs
 t:TabOk st es kvs'
 fa:fs=fV es (wat (st.take i) js)
 tl:kvs'.length<=kvs.length+i*(15*bnd st)
 lt:left<bf es (st.drop i) fs
 ah:∀rest,bI es st (js++rest) (st0 es)+left=num+bI es (st.drop i) rest fs
def yK{num:Nat}(hf:∀e∈es,∀p∈e.dropLast,fr p=true)(hw1:∀p∈st,∀w∈p,1<=w.length)(K:EsOk es)(S:SOkS st)(h5:st.length<=5)(h13:∀p∈st,p.length<=13)(hn:num<bf es st (st0 es))(ht:TabOk st es kvs)(hb:kvs.length+st.length*(15*bnd st)<=40000)(hb2:bnd st<=9000):
  W (bK [aK st es kvs,.int (num:Nat)]) (λr=>∃js fs kvs',r=(.list (js.map λj=>.int (j:Nat)),[some (aK st es kvs'),none])/\PI2 st es num kvs st.length js fs 0 kvs'):=by
 have a1:=jS (m:="at_first") es (by decide) (by decide);simp only[ws,wsc,bK,ja,dk,a1];refine W.use (nR K.n) ?_;rintro _ rfl;simp only[ws,wsc,iG,sD];refine bS (λi en=>∃(js:List Nat) (fs:List (Option (Nat×Str))) (left:Nat) (kvs':NKs) (o5 o6:Option D),en=[some (aK st es kvs'),some (.int (num:Nat)),some (.list (js.map λj=>.int (j:Nat))),some (bH fs),some (.int (left:Nat)),o5,o6]/\PI2 st es num kvs i js fs left kvs')
  ⟨[],st0 es,num,kvs,_,_,rfl,rfl,(λk j p h=>by simp at h),sP K,ht,(if_pos rfl).symm,by lia,hn,λrest=>by rw[List.nil_append,za2];lia⟩ (λi t en hx ⟨js,fs,left,kvs',o5,o6,e,I⟩=>?_) λen ⟨js,fs,left,kvs',o5,o6,e,I⟩=>?_
 .subst e;rw[zao]at hx;obtain⟨p,hp,rfl⟩:=zab.mp hx;have hi:i<st.length:=(zah.mp hp).1;have hm:=S.p p (zaW hp);have p13:=h13 p (zaW hp);have M:=nO K S 5 (i+1) (by lia) (by lia);have hd:st.drop i=p::st.drop (i+1):=by rw[zbK hi,(zah.mp hp).2]
  have ne1:∀q∈st.take i,1<=q.length:=λq hq=>by
   obtain⟨k,hk,rfl⟩:=List.mem_iff_getElem.mp hq;rw[zaE]at hk;rw[List.getElem_take]
   have:=I.val k (js[k]'(by rw[I.len];lia)) (st[k]'(by lia)) (zak _) (zak _)
   lia
  have bd:=nY st i ne1;have bp:bnd (st.drop i)=1+p.length*bnd (st.drop (i+1)):=by rw[hd];rfl
  have mul:(i+1)*(15*bnd st)<=st.length*(15*bnd st):=Nat.mul_le_mul_right _ hi;rw[Nat.succ_mul]at mul;have tl:=I.tl;have lt:=I.lt;rw[hd,<-AC]at lt;generalize hX:p.length*bnd (st.drop (i+1))=X at bp;have m1:p.length*X<=13*X:=Nat.mul_le_mul_right _ p13;have m2:(p.length+1)*X<=14*X:=Nat.mul_le_mul_right _ (by lia);have a2:=dQ (m:="place_within") st es kvs' (by decide) (by decide) (by decide);have il:(js.length:Int)=(i:Int):=by rw[I.len]
  simp only[ws,wsc,ia,a2,il];refine W.use (yj (left:=left) K M I.s I.t hp S.l hm.1 hm.2 lt (by rw[hX];lia) (by rw[hX];lia)) ?_;rintro _ ⟨j,kvs2,rfl,j1,j2,j3,u1,u2⟩;rw[hX]at u2;have a3:=dQ (m:="by_first") st es kvs2 (by decide) (by decide) (by decide);have a4:=jS (m:="further") es (by decide) (by decide);simp only[ws,wsc,a3,il];refine W.use (ji (m:=j) K M I.s u1 hp S.l hm.1 hm.2 (by rw[hX];lia)) ?_;rintro _ ⟨kvs3,rfl,v1,v2⟩;rw[hX]at v2;have eb:atI (p.map PyData.str) (j:Int)=some (.str p[j]):=fm (by lia) (by rw[zaK,zao,zak j1];rfl);simp only[ws,wsc,dk,a4,pD,eb];refine W.use (kq (fs:=fs) (y:=p[j]) K.n I.s.len (λe he=>⟨(K.e e he).1,(K.e e he).2.1,λq hq=>((K.e e he).2.2 q hq).1⟩) λq hq a r e=>⟨(I.s.ok q hq a r e).1,by have:=(I.s.ok q hq a r e).2;have:=hm.2 p[j] (zaJ j1);lia⟩) ?_;rintro _ rfl;have us:=yn (es:=es) (ps:=st.drop (i+1)) (fs:=fs) j1;have le:(left:Int)-((((p.take j).map λw=>bf es (st.drop (i+1)) (aN es fs w)).sum:Nat):Int)=((left-dX es (st.drop (i+1)) p fs j:Nat):Int):=by
   show(left:Int)-((dX es (st.drop (i+1)) p fs j:Nat):Int)=_
   lia
  have jl:js.length<sizeLine:=sK (by rw[I.len];have:=S.l;lia);simp only[ws,wsc,le,jl,zad];refine⟨js++[j],aN es fs p[j],left-dX es (st.drop (i+1)) p fs j,kvs3,some (pD p),some (.int (j:Nat)),by rw[zaC];rfl,by rw[zae,I.len];rfl,λk q pp h1 h2=>?_,I.s.step K _,v1,?_,by rw[Nat.succ_mul];lia,by lia,λrest=>?_⟩
  .rcases Nat.lt_or_ge k js.length with z|z
   .rw[zaR z]at h1;exact I.val k q pp h1 h2
   .rw[zbG z]at h1;have hk:k-js.length=0:=by
     rcases Nat.eq_zero_or_pos (k-js.length)with y|y
     .exact y
     .rw[zbl (by rw[List.length_singleton];exact y)]at h1;cases h1
    rw[hk]at h1;cases h1
    have:k=i:=by have:=I.len;lia
    subst this;rw[hp]at h2;cases h2;exact j1
  .have et:st.take (i+1)=st.take i++[p]:=by rw[List.take_add_one,hp];rfl
   have eg:p.getD j ""=p[j]:=by rw[zbh,zak j1];rfl
   rw[et,sG (by rw[I.len,zaE];lia),eg,<-jj hf (hw1 p (zaW hp) _ (zaJ j1)),<-I.fa]
  .have ah:=I.ah (j::rest);rw[hd]at ah;have e5:bI es (p::st.drop (i+1)) (j::rest) fs=dX es (st.drop (i+1)) p fs j+bI es (st.drop (i+1)) rest (aN es fs p[j]):=by
    show _+bI es (st.drop (i+1)) rest (aN es fs (p.getD j ""))=_;rw[zbh,zak j1];rfl
   rw[e5]at ah;rw[zaD];show bI es st (js++(j::rest)) (st0 es)+_=_
   lia
 .subst e;rw[zad]at I;have lt:=I.lt;rw[List.drop_length]at lt;have l0:left=0:=by
   have:bf es [] fs<=1:=by
    show(if _ then 0 else 1)<=1;split<;>lia
   lia
  subst l0;simp only[ws,wsc];exact⟨js,fs,kvs',rfl,I⟩
end
def VP:List (List Str)->List Nat->Prop
 |[],[]=>True
 |p::ps,j::js=>j<p.length/\VP ps js
 |_,_=>False
theorem VP.len:∀{ps:List (List Str)} {js:List Nat},VP ps js->js.length=ps.length
 |[],[],_=>rfl
 |[],_::_,h=>h.elim
 |_::_,[],h=>h.elim
 |_::_,_::_,h=>congrArg (·+1) h.2.len
theorem VP.at:∀{ps:List (List Str)} {js:List Nat},VP ps js->∀(k j:Nat) p,js[k]?=some j->ps[k]?=some p->j<p.length
 |[],[],_,_,_,_,h,_=>by cases h
 |[],_::_,h,_,_,_,_,_=>h.elim
 |_::_,[],h,_,_,_,_,_=>h.elim
 |q::ps,i::js,h,0,j,p,h1,h2=>by cases h1;cases h2;exact h.1
 |q::ps,i::js,h,k+1,j,p,h1,h2=>h.2.at k j p h1 h2
theorem VP.of:∀{ps:List (List Str)} {js:List Nat},js.length=ps.length->(∀(k j:Nat) p,js[k]?=some j->ps[k]?=some p->j<p.length)->VP ps js
 |[],[],_,_=>trivial
 |[],_::_,h,_=>by cases h
 |_::_,[],h,_=>by cases h
 |q::ps,i::js,h,g=>⟨g 0 i q rfl rfl,VP.of (Nat.succ.inj h) λk j p h1 h2=>g (k+1) j p h1 h2⟩
theorem rF{es:List (List (List Str))}(hf:∀e∈es,∀p∈e.dropLast,fr p=true)(h1:∀e∈es,e≠[]):∀{ps:List (List Str)} {js:List Nat} {t:Str},VP ps js->(∀p∈ps,∀w∈p,1<=w.length)->∃A B,mkR ps=A++wat ps js::B/\bI es ps js (fV es t)=(A.filter λs=>bB es (t++s)).length
 |[],[],t,_,_=>⟨[],[],rfl,rfl⟩
 |[],_::_,_,h,_=>h.elim
 |_::_,[],_,h,_=>h.elim
 |p::ps,j::js,t,⟨hj,hv⟩,hw=>by
  obtain⟨P1,w,P2,rfl,rfl⟩:∃P1 w P2,p=P1++w::P2/\P1.length=j:=
   ⟨p.take j,p[j],p.drop (j+1),by rw[<-zbK hj,List.take_append_drop],by rw[zaE];lia⟩
  have eg:(P1++w::P2).getD P1.length ""=w:=by simp
  have et:(P1++w::P2).take P1.length=P1:=List.take_left;have hp:=hw _ (zaq ..);have lw:=hp w (by simp);obtain⟨A,B,e,ea⟩:=rF hf h1 (t:=t++w) hv λq hq=>hw q (zaj _ hq);refine⟨(P1.flatMap λu=>(mkR ps).map λx=>u++x)++A.map (λx=>w++x),B.map (λx=>w++x)++P2.flatMap λu=>(mkR ps).map λx=>u++x,?_,?_⟩
  .show((P1++w::P2).flatMap λu=>(mkR ps).map λx=>u++x)=_;show _=_++((P1++w::P2).getD P1.length ""++wat ps js)::_;rw[eg,List.flatMap_append,List.flatMap_cons]
   conv=>lhs;rhs;lhs;rw[e]
   rw[zaC,zar,zaD,zaD];rfl
  .show(((P1++w::P2).take P1.length).map λu=>bf es ps (aN es (fV es t) u)).sum+bI es ps js (aN es (fV es t) ((P1++w::P2).getD P1.length ""))=_;rw[eg,et,jj hf lw,ea,List.filter_append,zae,List.filter_flatMap,List.length_flatMap];congr 1
   .congr 1;refine zbv λu hu=>?_;have l:=hp u (by simp[hu]);rw[jj hf l,qF hf h1 (λq hq=>hw q (zaj _ hq)) (.inl (uF l)),zbA,zad];congr 2
    funext s
    show bB es (t++u++s)=bB es (t++(u++s));rw[jU]
   .rw[zbA,zad];congr 2
    funext s
    show bB es (t++w++s)=bB es (t++(w++s));rw[jU]
def aP(pl:List (List (List Str))):List Str:=dd (pl.flatMap mkR)
def cW(pl:List (List (List Str)))(i:Nat):Nat:=((List.range i).map (cZ pl)).sum
def qR(pl:List (List (List Str)))(i:Nat):cW pl (i+1)=cW pl i+cZ pl i:=by
 unfold cW;rw[zbJ,zaC,List.sum_append];simp
def sM(P:PlG pl)(i:Nat):((List.range i).flatMap (eW pl)).length=cW pl i:=by
 rw[List.length_flatMap];unfold cW;congr 1;exact zbv λk _=>(tK P k).symm
def vE(P:PlG pl):aP pl=(List.range pl.length).flatMap (eW pl):=by
 have:=nz P.nd pl.length (zav _)
 rwa[zaP]at this
def AM(P:PlG pl):(aP pl).length=cW pl pl.length:=by rw[vE P,sM P]
def yC(P:PlG pl)(hi:i<pl.length)(h:(eW pl i)[m]?=some x):(aP pl)[cW pl i+m]?=some x:=by
 obtain⟨d,hd⟩:∃d,pl.length=i+1+d:=⟨pl.length-(i+1),by lia⟩;have l:=sM P i;have hm:m<(eW pl i).length:=(zah.mp h).1;rw[vE P,hd,List.range_add,List.flatMap_append,zbJ,List.flatMap_append,show[i].flatMap (eW pl)=eW pl i by simp,zaR (by rw[zae];lia),zbG (by lia),l,Nat.add_sub_cancel_left];exact h
theorem lM:∀(l acc:List Str),acc.Nodup->(ddF acc l).Nodup
 |[],_,h=>h
 |x::l,acc,h=>by
  show(ddF (if x∈acc then acc else acc++[x]) l).Nodup;by_cases hm:x∈acc
  .rw[if_pos hm];exact lM l acc h
  .rw[if_neg hm];refine lM l _ (zbd.mpr ⟨h,by simp,λa ha b hb e=>hm ?_⟩);rw[zaG.mp hb]at e;exact e▸ha
def Jj(pl:List (List (List Str))):(aP pl).Nodup:=lM _ [] List.nodup_nil
def row_mem:t∈aP pl↔∃ps∈pl,t∈mkR ps:=by
 show t∈ddF [] (pl.flatMap mkR)↔_;rw[qo,List.mem_flatMap];simp
def PlG.ne(P:PlG pl):∀e∈pl,e≠[]:=λe he z=>by have:=(P.s.s e he).2.1;rw[z]at this;exact absurd this (by decide)
def vU(P:PlG pl)(hp:pl[i]?=some ps)(hv:VP ps js)(hn:bB (pl.take i) (wat ps js)=true):(eW pl i)[bI (pl.take i) ps js (st0 (pl.take i))]?=some (wat ps js):=by
 obtain⟨A,B,e,ea⟩:=rF (es:=pl.take i) (λe he=>P.fre e (List.mem_of_mem_take he)) (λe he=>P.ne e (List.mem_of_mem_take he)) (t:="") hv (P.w1 ps (zaW hp));have f0:fV (pl.take i) ""=st0 (pl.take i):=if_pos rfl;have en:eW pl i=(mkR ps).filter (bB (pl.take i)):=by unfold eW;rw[hp]
 have fe:(λs=>bB (pl.take i) (""++s))=bB (pl.take i):=by funext s;rw[mz]
 rw[f0,fe]at ea;rw[en,e,List.filter_append,zbt hn,ea,zbG (zav _),Nat.sub_self];rfl
def KI{M:Nat}(h3:ps.length<=3)(hc:∀i,cnt (ps.take i)<=M):bnd ps<=1+M+M:=by
 have c1:=hc 1;have c2:=hc 2
 match ps,h3 with
 |[],_=>exact zbj _
 |[a],_=>
  show 1+a.length*0<=_
  lia
 |[a,b],_=>
  simp only[List.take_succ_cons,List.take_zero,gF,show cnt []=1 from rfl]at c1;show 1+a.length*(1+b.length*0)<=_
  lia
 |[a,b,c],_=>
  simp only[List.take_succ_cons,List.take_zero,gF,show cnt []=1 from rfl]at c1 c2;show 1+a.length*(1+b.length*(1+c.length*0))<=_;rw[Nat.mul_zero,Nat.add_zero,Nat.mul_add]
  lia
structure PlB(pl:List (List (List Str))):Prop extends PlG pl where
 n3:pl.length<=3
 l3:∀ps∈pl,ps.length<=3
 l13:∀ps∈pl,∀p∈ps,p.length<=13
 b:∀ps∈pl,bnd ps<=433
def PlB.of(h:pl.length<=3)(g:∀ps∈pl,GT ps):PlB pl:=by
 have b:∀ps∈pl,bnd ps<=433:=λps hp=>KI (M:=216) (g ps hp).l3 (g ps hp).c;refine⟨⟨⟨by lia,λps hp=>?_⟩,λps hp=>(g ps hp).fre,λps hp=>?_,λps hp=>(g ps hp).w1⟩,h,λps hp=>(g ps hp).l3,λps hp=>(g ps hp).l13,b⟩
 .have G:=g ps hp
  have:=G.l3
  have:=b ps hp;exact⟨⟨by lia,λp hq=>⟨by have:=G.l13 p hq;lia,G.w p hq⟩,by lia⟩,G.l1,by lia⟩
 .rw[<-sr];exact Lq (g ps hp)
noncomputable def idx(x:Str):List Str->Nat
 |[]=>0
 |y::r=>if y=x then 0 else idx x r+1
theorem ue{x:Str}:∀{q:List Str},x∈q->idx x q<q.length
 |y::r,h=>by
  show(if y=x then 0 else idx x r+1)<r.length+1;by_cases e:y=x
  .rw[if_pos e];lia
  .rw[if_neg e]
   have:=ue ((zay.mp h).resolve_left λz=>e z.symm)
   lia
theorem qy{x:Str}:∀{q:List Str},x∈q->q.getD (idx x q) ""=x
 |y::r,h=>by
  show(y::r).getD (if y=x then 0 else idx x r+1) ""=x;by_cases e:y=x
  .rw[if_pos e];exact e
  .rw[if_neg e];exact qy ((zay.mp h).resolve_left λz=>e z.symm)
theorem lJ{x:Str}:∀{q:List Str},x∈q->((q.map PyData.str).findIdx? λt=>peq t (.str x))=some (idx x q)
 |y::r,h=>by
  have e0:peq (.str y) (.str x)=decide (y=x):=vM _ x;rw[zar,List.findIdx?_cons,e0];show _=some (if y=x then 0 else idx x r+1);by_cases e:y=x
  .rw[if_pos e,if_pos (zaB e)]
  .rw[if_neg e,if_neg (by rw[decide_eq_true_eq];exact e),lJ ((zay.mp h).resolve_left λz=>e z.symm)];rfl
def xC(h:x∈q):iH (.tuple (q.map .str)) (.str x)=some (.int (idx x q:Nat)):=by
 show(if aA (.str x)=true/\aB (q.map PyData.str)=true/\bC (q.map PyData.str)<=60 then((q.map PyData.str).findIdx? λt=>peq t (.str x)).map (λj=>PyData.int (j:Nat))else none)=_;rw[if_pos ⟨rfl,dH q,by rw[cN];lia⟩,lJ h];rfl
theorem qT:∀(qs:List (List Str)) (t:Str),∀q∈qs.zip (aL qs t).1,q.2∈q.1
 |[],_,q,h=>by cases h
 |p::ps,t,q,h=>by
  cases hb:b5 p t with
  |nil=>rw[cG hb]at h;cases h
  |cons w r=>
   rw[cH hb]at h;rcases zay.mp h with rfl|h
   .exact(hV hb).1
   .exact qT ps _ q h
theorem vw:∀{ps:List (List Str)} {us:List Str},us.length=ps.length->(∀q∈ps.zip us,q.2∈q.1)->VP ps ((ps.zip us).map λq=>idx q.2 q.1)/\wat ps ((ps.zip us).map λq=>idx q.2 q.1)=us.foldr (λw z=>w++z) ("":Str)
 |[],[],_,_=>⟨trivial,rfl⟩
 |[],_::_,h,_=>by cases h
 |_::_,[],h,_=>by cases h
 |p::ps,u::us,h,g=>by
  obtain⟨a,b⟩:=vw (Nat.succ.inj h) λq hq=>g q (zaj _ hq);have m:u∈p:=g (p,u) (zaq ..);refine⟨⟨ue m,a⟩,?_⟩;show p.getD (idx u p) ""++wat ps ((ps.zip us).map λq=>idx q.2 q.1)=u++_;rw[qy m,b]
theorem Cg:∀(ps:List (List Str)) (us:List Str),dW (ps.map pD) (us.map PyData.str)=(ps.zip us).map λq=>.tuple [pD q.1,.str q.2]
 |[],_=>rfl
 |_::_,[]=>rfl
 |e::es,f::fs=>by
  show .tuple [pD e,.str f]::dW (es.map pD) (fs.map PyData.str)=_;rw[Cg es fs];rfl
def Gz:atI ((ps++[p]).map pD) (-1)=some (pD p):=by
 unfold atI ixN;rw[if_neg (by decide),if_pos (by simp;lia)];show((ps++[p]).map pD)[(-1+(((ps++[p]).map pD).length:Int)).toNat]?=_;rw[zad,zae,show(-1+((ps.length+[p].length:Nat):Int)).toNat=ps.length by show(-1+((ps.length+1:Nat):Int)).toNat=ps.length;lia,zao,zbG (zav _),Nat.sub_self];rfl
def yV(z:Str)(ys:List Str):lu (.str z) (.tuple (ys.map .str))=some (.bool (!decide (z∈ys))):=by
 show grd _ _=_;unfold grd;rw[if_pos ⟨rfl,dH ys,by rw[cN];decide⟩,jV]
def u5{qs:List (List Str)}(hl:qs.length+1<=100)(hp:∀q∈qs++[p],q.length<=1000)(hf:∀q∈qs,fr q=true)(ht:t.length<=1000):
  W (eT [sD (qs++[p]),.str t]) (λr=>(t∉mkR (qs++[p])/\r=(.none,[none,none]))\/∃js,VP (qs++[p]) js/\wat (qs++[p]) js=t/\r=(.list (js.map λj=>.int (j:Nat)),[none,none])):=by
 have ec:cq ((qs++[p]).map pD) none (some (-1))=qs.map pD:=by rw[rn,zaC];exact List.dropLast_concat
 have an:=Gz (ps:=qs) (p:=p);simp only[ws,wsc,eT,pS,sD,ec];refine W.use (vF (ps:=qs) (t:=t) (by lia) (λq hq=>hp q (by simp[hq])) (by lia)) ?_;rintro _ rfl;have ra:=lj qs t;have hrl:=lh qs t;have hm:=tM (ps:=qs) (p:=p) hf t;have rm:=qT qs t;have rj:=oI qs t;generalize aL qs t=q at ra hrl hm rm rj ⊢;obtain⟨us,z⟩:=q
 dsimp only at ra hrl hm rm rj
 have hza:(aQ us).length+z.length=t.length:=by rw[<-ll,<-ll,ra,zae]
 have ej:=(jg (ks:=us) (by lia) (by lia)).2;have ez:(⟨(bY t.cps.toList (some (((ofL (aQ us)).length:Nat):Int)) none).toArray⟩:Str)=z:=dD (by
  show bY _ _ _=_;rw[jk];show(li t).drop _=_;rw[ra,show(ofL (aQ us)).length=(aQ us).length from rfl,List.drop_left])
 have ei:=yV z p;have el:((qs++[p]).length:Int)-1=(qs.length:Int):=by rw[zae];show((qs.length+1:Nat):Int)-1=_;lia
 simp only[ws,wsc,ej,ez,an,pD,ei,zad,el];refine⟨szB (by rw[show(ofL (aQ us)).length=(aQ us).length from rfl];lia),?_⟩;by_cases hc:us.length=qs.length/\z∈p
 .obtain⟨c1,c2⟩:=hc;have d1:decide ((us.length:Int)<(qs.length:Int))=false:=zaA (by lia);have d2:decide (z∈p)=true:=zaB c2;simp only[ws,wsc,d1,d2,an,pD,ei];have zl:((qs++[p]).zip (us++[z])).length<=100:=by rw[List.length_zip,zae];have:[p].length=1:=rfl;lia
  have em:us.map PyData.str++[.str z]=(us++[z]).map PyData.str:=by rw[zaC];rfl
  have ul:(us++[z]).length=(qs++[p]).length:=by rw[zae,zae,c1];rfl
  have mem:∀q∈(qs++[p]).zip (us++[z]),q.2∈q.1:=λq hq=>by
   rw[List.zip_append c1.symm]at hq;rcases zax.mp hq with h|h
   .exact rm q h
   .rw[show[p].zip [z]=[(p,z)]from rfl]at h;rw[zaG.mp h];exact c2
  obtain⟨v1,v2⟩:=vw ul mem;refine⟨szB (by lia),szB (by show us.length+1<=_;lia),?_⟩;rw[em,Cg];refine lQ (λi rs en=>rs=(((qs++[p]).zip (us++[z])).take i).map (λq=>PyData.int (idx q.2 q.1:Nat))/\∃o0 o1,en=[o0,o1]) (by rw[zad];exact szB (by lia)) ⟨rfl,_,_,rfl⟩ (λi t us en ht _ ⟨e,o0,o1,hj⟩=>?_) λus en _ ⟨e,o0,o1,hj⟩=>?_
  .subst hj;rw[zao]at ht;obtain⟨q,hq,rfl⟩:=zab.mp ht;have ix:=xC (mem q (zaW hq));simp only[ws,wsc,me,pD,ix];refine⟨?_,_,_,rfl⟩;rw[e,List.take_add_one,hq,zaC];rfl
  .subst hj;rw[zad,bU]at e;subst e;simp only[ws,wsc];refine .inr ⟨_,v1,?_,by rw[zaQ];rfl⟩;rw[v2,List.foldr_append];show us.foldr (λw z=>w++z) (z++"")=t;rw[gI,rj]
 .have hnm:t∉mkR (qs++[p]):=λh=>hc (hm.mp h);by_cases c1:us.length<qs.length
  .have d1:decide ((us.length:Int)<(qs.length:Int))=true:=zaB (by lia);simp only[ws,wsc,d1];exact⟨szB (by lia),.inl hnm⟩
  .have d1:decide ((us.length:Int)<(qs.length:Int))=false:=zaA (by lia);have d2:decide (z∈p)=false:=zaA λh=>hc ⟨by lia,h⟩;simp only[ws,wsc,d1,d2,an,pD,ei];exact⟨szB (by lia),.inl hnm⟩
def E8(h:1<=ps.length):∃qs p,ps=qs++[p]:=⟨ps.dropLast,ps.getLast (by intro z;rw[z]at h;cases h),(List.dropLast_concat_getLast _).symm⟩
def BC(h:∀k<i,∀ps,pl[k]?=some ps->t∉mkR ps):bB (pl.take i) t=true:=by
 unfold bB;rw[List.all_eq_true];intro e he;obtain⟨k,hk,rfl⟩:=List.mem_iff_getElem.mp he;rw[zaE]at hk;rw[List.getElem_take]
 have:=h k (by lia) _ (zak (by lia));rw[Bool.not_eq_true',decide_eq_false_iff_not];exact this
def nE(P:PlB pl)(ht:t.length<=1000):W (i8 [plD pl,.str t]) (λr=>(t∉aP pl/\r=(.none,[none,none]))\/∃k,(aP pl)[k]?=some t/\r=(.int (k:Nat),[none,none])):=by
 have n3:=P.n3;simp only[ws,wsc,i8,Ax,plD];refine bS (λi en=>∃o3 o4 o5,en=[some (plD pl),some (.str t),some (.int (cW pl i:Nat)),o3,o4,o5]/\∀k<i,∀ps,pl[k]?=some ps->t∉mkR ps)
  ⟨_,_,_,rfl,λk hk=>absurd hk (Nat.not_lt_zero k)⟩ (λi x en hx ⟨o3,o4,o5,e,hn⟩=>?_) λen ⟨o3,o4,o5,e,hn⟩=>?_
 .subst e;obtain⟨u,hu,rfl⟩:=hR hx;rw[zao]at hu;obtain⟨ps,hp,rfl⟩:=zab.mp hu;have hm:=zaW hp;have hi:i<pl.length:=(zah.mp hp).1;obtain⟨S,s1,s5⟩:=P.s.s ps hm;have K:=P.s.es i;have bl:=P.b ps hm;have l3:=P.l3 ps hm;have P5:W (eT [sD ps,.str t]) (λr=>(t∉mkR ps/\r=(.none,[none,none]))\/∃js,VP ps js/\wat ps js=t/\r=(.list (js.map λj=>.int (j:Nat)),[none,none])):=by
   have hf:=P.fre ps hm;obtain⟨qs,p,rfl⟩:=E8 s1;rw[List.dropLast_concat]at hf;rw[zae]at l3;exact u5 (by show qs.length+1<=_;have:[p].length=1:=rfl;lia) (λq hq=>(S.p q hq).1) hf ht
  simp only[ws,wsc,uN];refine W.use P5 ?_;rintro _ (⟨nm,rfl⟩|⟨js,hv,hw,rfl⟩)
  .have a1:bZ "Tally" "whole" (aK ps (pl.take i) [])=some (aK ps (pl.take i) []):=by
    unfold bZ;rw[if_pos (dQ _ _ _ (by decide) (by decide) (by decide))]
   simp only[ws,wsc];refine W.use (kz hp P.s.l) ?_;rintro _ rfl;simp only[ws,wsc,a1];refine W.use (j8 K S s5 (TabOk.new _ _) (by have:=S.b;show 0+_<=_;lia)) ?_;rintro _ ⟨kvs',rfl,t1,t2⟩;simp only[ws,wsc];have en:cZ pl i=bf (pl.take i) ps (st0 (pl.take i)):=by unfold cZ;rw[hp]
   refine⟨_,_,_,by rw[qR,en,Int.natCast_add],λk hk qs hq=>?_⟩;rcases Nat.lt_or_ge k i with z|z
   .exact hn k z qs hq
   .have:k=i:=by lia
    subst this;rw[hp]at hq;cases hq;exact nm
  .have a1:bZ "Tally" "ahead_of" (aK ps (pl.take i) [])=some (aK ps (pl.take i) []):=by
    unfold bZ;rw[if_pos (dQ _ _ _ (by decide) (by decide) (by decide))]
   simp only[ws,wsc];refine W.use (kz hp P.s.l) ?_;rintro _ rfl;simp only[ws,wsc,a1];have mul:ps.length*bnd ps<=3*bnd ps:=Nat.mul_le_mul_right _ l3;refine W.use (B7 K S s5 hv.len hv.at (TabOk.new _ _) (by show 0+_<=_;lia)) ?_;rintro _ ⟨kvs',rfl,t1⟩;have hnw:bB (pl.take i) (wat ps js)=true:=by rw[hw];exact BC hn
   have:=yC P.toPlG hi (vU P.toPlG hp hv hnw);rw[hw]at this;simp only[ws,wsc];refine .inr ⟨_,this,?_⟩;rw[Int.natCast_add]
 .subst e;simp only[ws,wsc];refine .inl λz=>?_;obtain⟨ps,hp,hm⟩:=row_mem.mp z;obtain⟨k,hk,rfl⟩:=List.mem_iff_getElem.mp hp;exact hn k (by rw[show(cy (pl.map sD)).length=pl.length by unfold cy;rw[zad,List.length_zipIdx,zad]];exact hk) _ (zak hk) hm
noncomputable def la(ps:List (List Str))(js:List Nat):List Str:=(ps.zip js).map λq=>q.1.getD q.2 ""
theorem ze:∀{ps:List (List Str)} {js:List Nat},js.length=ps.length->aQ (la ps js)=li (wat ps js)
 |[],[],_=>rfl
 |[],_::_,h=>by cases h
 |_::_,[],h=>by cases h
 |p::ps,j::js,h=>by
  show li (p.getD j "")++aQ (la ps js)=li (p.getD j ""++wat ps js);rw[ze (Nat.succ.inj h),aS]
theorem vx:∀{ps:List (List Str)} {js:List Nat},VP ps js->(∀p∈ps,∀w∈p,w.length<=6)->(wat ps js).length<=6*ps.length
 |[],[],_,_=>zbj _
 |[],_::_,h,_=>h.elim
 |_::_,[],h,_=>h.elim
 |p::ps,j::js,⟨hj,hv⟩,hw=>by
  have a:=vx hv λq hq=>hw q (zaj _ hq);have b:=hw p (zaq ..) _ (zaJ hj);show(p.getD j ""++wat ps js).length<=6*(ps.length+1);rw[zbh,zak hj,cb];show p[j].length+_<=_
  lia
def IQ(h:VP ps js)(h1:1<=ps.length)(hw:∀p∈ps,∀w∈p,1<=w.length):wat ps js≠"":=by
 match ps,js,h with
 |[],[],_=>cases h1
 |p::ps,j::js,⟨hj,hv⟩=>
  intro z
  have:=congrArg Str.length z;have b:=hw p (zaq ..) _ (zaJ hj);have e:(wat (p::ps) (j::js)).length=(p.getD j "").length+(wat ps js).length:=cb _ _;rw[e,zbh,zak hj]at this;have e0:(("":Str)).length=0:=rfl;rw[e0]at this
  have:p[j].length+_=0:=this
  lia
theorem Ch:∀(ps:List (List Str)) (js:List Nat),dW (ps.map pD) (js.map λj=>PyData.int (j:Nat))=(ps.zip js).map λq=>.tuple [pD q.1,.int (q.2:Nat)]
 |[],_=>rfl
 |_::_,[]=>rfl
 |e::es,f::fs=>by
  show .tuple [pD e,.int (f:Nat)]::dW (es.map pD) (fs.map λj=>PyData.int (j:Nat))=_;rw[Ch es fs];rfl
theorem VP.zip:∀{ps:List (List Str)} {js:List Nat},VP ps js->∀q∈ps.zip js,q.2<q.1.length
 |[],[],_,_,h=>by cases h
 |[],_::_,h,_,_=>h.elim
 |_::_,[],h,_,_=>h.elim
 |p::ps,j::js,⟨hj,hv⟩,q,h=>by
  rcases zay.mp h with rfl|h
  .exact hj
  .exact hv.zip q h
def IU(P:PlB pl)(hn:n<cW pl pl.length):W (j5 [plD pl,.int (n:Nat)]) (λr=>∃x,(aP pl)[n]?=some x/\r=(.str x,[none,none])):=by
 have n3:=P.n3;have n0:decide ((n:Int)<0)=false:=zaA (by lia);simp only[ws,wsc,j5,wx,plD,jr,rM,n0];refine bS (λi en=>∃o3 o4 o5,en=[some (plD pl),some (.int (n:Nat)),some (.int ((n-cW pl i:Nat):Nat)),o3,o4,o5]/\cW pl i<=n)
  ⟨_,_,_,rfl,zbj _⟩ (λi x en hx ⟨o3,o4,o5,e,hs⟩=>?_) λen ⟨o3,o4,o5,e,hs⟩=>?_
 .subst e;obtain⟨u,hu,rfl⟩:=hR hx;rw[zao]at hu;obtain⟨ps,hp,rfl⟩:=zab.mp hu;have hm:=zaW hp;have hi:i<pl.length:=(zah.mp hp).1;obtain⟨S,s1,s5⟩:=P.s.s ps hm;have K:=P.s.es i;have bl:=P.b ps hm;have l3:=P.l3 ps hm;have en:cZ pl i=bf (pl.take i) ps (st0 (pl.take i)):=by unfold cZ;rw[hp]
  have ss:=qR pl i;simp only[ws,wsc,rK];refine W.use (kz hp P.s.l) ?_;rintro _ rfl;have a1:fh "Tally" "whole" (aK ps (pl.take i) [])=true:=dQ _ _ _ (by decide) (by decide) (by decide);simp only[ws,wsc,a1];refine W.use (j8 K S s5 (TabOk.new _ _) (by have:=S.b;show 0+_<=_;lia)) ?_;rintro _ ⟨kvs',rfl,t1,t2⟩;rw[<-en];by_cases hc:n<cW pl (i+1)
  .have hlt:n-cW pl i<cZ pl i:=by lia
   have d1:decide (((n-cW pl i:Nat):Int)<(cZ pl i:Int))=true:=zaB (by lia);have a2:fh "Tally" "places_at" (aK ps (pl.take i) kvs')=true:=dQ _ _ _ (by decide) (by decide) (by decide);have hf:∀e∈pl.take i,∀p∈e.dropLast,fr p=true:=λe he=>P.fre e (List.mem_of_mem_take he);have hne:∀e∈pl.take i,e≠[]:=λe he=>P.ne e (List.mem_of_mem_take he);have mul:ps.length*(15*bnd ps)<=3*(15*bnd ps):=Nat.mul_le_mul_right _ l3;have t2':kvs'.length<=0+bnd ps:=t2;simp only[ws,wsc,d1,a2];refine W.use (yK hf (P.w1 ps hm) K S s5 (P.l13 ps hm) (by rw[<-en];exact hlt) t1 (by lia) (by lia)) ?_;rintro _ ⟨js,fs,kvs2,rfl,I⟩;have hv:VP ps js:=VP.of I.len I.val;have ne:=IQ hv s1 (P.w1 ps hm);have fa:=I.fa;rw[zaP]at fa;have hnw:bB (pl.take i) (wat ps js)=true:=by
    have lt:=I.lt;rw[List.drop_length,fa]at lt;have na:=vT hf hne ne;cases hh:bB (pl.take i) (wat ps js)with
    |true=>rfl
    |false=>
     rw[hh]at na
     have:bf (pl.take i) [] (fV (pl.take i) (wat ps js))=0:=if_pos na
     lia
   have ah:=I.ah [];rw[zbr,List.drop_length]at ah;have ah':bI (pl.take i) ps js (st0 (pl.take i))=n-cW pl i:=ah;have rw0:=yC P.toPlG hi (vU P.toPlG hp hv hnw);rw[ah',show cW pl i+(n-cW pl i)=n by lia]at rw0;have zl:(ps.zip js).length<=3:=by rw[List.length_zip];lia
   have wl:=vx hv λp hq=>(S.p p hq).2;have lw:=ze (ps:=ps) (js:=js) I.len;have jl:(la ps js).length<=1000:=by unfold la;rw[zad];lia
   have ej:=(jg (ks:=la ps js) (by rw[lw,ll];lia) jl).2;have ew:ofL (aQ (la ps js))=wat ps js:=by rw[lw];exact dD rfl
   rw[ew]at ej;simp only[ws,wsc,sD];rw[Ch];refine lQ (λi rs en=>rs=((ps.zip js).take i).map (λq=>PyData.str (q.1.getD q.2 ""))/\∃o0 o1,en=[o0,o1]) (by rw[zad];exact szB (by lia)) ⟨rfl,_,_,rfl⟩ (λi t us en ht _ ⟨e,o0,o1,hj⟩=>?_) λus en _ ⟨e,o0,o1,hj⟩=>?_
   .subst hj;rw[zao]at ht;obtain⟨q,hq,rfl⟩:=zab.mp ht;have hz:=hv.zip q (zaW hq);have ea:atI (q.1.map PyData.str) (q.2:Int)=some (.str (q.1.getD q.2 "")):=fm (by lia) (by rw[zaK,zao,zbh,zak hz];rfl);simp only[ws,wsc,rL,pD,ea];refine⟨?_,_,_,rfl⟩;rw[e,List.take_add_one,hq,zaC];rfl
   .subst hj;rw[zad,bU]at e;subst e;have eq:(ps.zip js).map (λq=>PyData.str (q.1.getD q.2 ""))=(la ps js).map PyData.str:=by unfold la;rw[zaQ];rfl
    rw[eq];simp only[ws,wsc,ej];exact⟨_,rw0,rfl⟩
  .have d1:decide (((n-cW pl i:Nat):Int)<(cZ pl i:Int))=false:=zaA (by lia);have a2:fh "Tally" "whole" (aK ps (pl.take i) kvs')=true:=dQ _ _ _ (by decide) (by decide) (by decide);have t2':kvs'.length<=0+bnd ps:=t2;simp only[ws,wsc,d1,a2];refine W.use (j8 K S s5 t1 (by lia)) ?_;rintro _ ⟨kvs2,rfl,u1,u2⟩;rw[<-en];simp only[ws,wsc];rw[show((n-cW pl i:Nat):Int)-((cZ pl i:Nat):Int)=((n-cW pl (i+1):Nat):Int)by lia];exact⟨_,_,_,rfl,by lia⟩
 .subst e;rw[show(cy (pl.map sD)).length=pl.length by unfold cy;rw[zad,List.length_zipIdx,zad]]at hs
  lia
def KM{f:ME}{ts0:List D}{en:En}{Q:D×En->Prop}(h0:en[i]?=some (some (.list ts0)))(h:W (f en) (λr=>∃us ts,r.1=.tuple us/\r.2[i]?=some (some (.list ts))/\ts.length+us.length<=sizeLine/\Q (.none,r.2.set i (some (.list (ts++us)))))):W (mH i f en) Q:=by
 obtain⟨⟨t,en1⟩,e,us,ts,g1,g2,g3,g4⟩:=h.ex;have g1':t=.tuple us:=g1;subst g1';refine W.of ?_ g4;unfold mH;rw[h0];show(f en).bind _=_;rw[e];show(match PyData.tuple us,(en1[i]?).join with
  |.tuple us,some (.list ts)=>if ts.length+us.length<=sizeLine then some (PyData.none,en1.set i (some (.list (ts++us))))else none
  |_,_=>none)=_
 rw[show en1[i]?=some (some (.list ts))from g2];exact if_pos g3
def FN(z:Str):(⟨z.cps.toList.reverse.toArray⟩:Str).length=z.length:=by
 rw[<-ll,<-ll];show z.cps.toList.reverse.length=_;rw[List.length_reverse]
def FO(z:Str)(lo hi:Option Int):(⟨(bY z.cps.toList lo hi).toArray⟩:Str).length<=z.length:=by
 rw[<-ll,<-ll];show(bY z.cps.toList lo hi).length<=_;unfold bY;rw[zaE,zaF];show min _ ((li z).length-_)<=_
 lia
structure TxS(ys:List Str)(n:Nat):Prop where
 l:ys.length<=n
 w:∀y∈ys,y.length<=100
def wI(P:PlB pl){row:List Str}(hr:∀x∈row,x.length<=40)(hrl:row.length<=10000){p:D}(hp:Pn n p)(hn:n<=100000):
  W (dF [p,plD pl,.list (row.map .str)]) (λr=>∃(ys:List Str) (p':D),r=(.list (ys.map .str),[some p',none,none])/\(∀y∈ys,y.length<=100)):=by
 have n3:=P.n3;have ne:=vV row;simp only[ws,wsc,dF,k6,plD];refine bS (λi en=>∃(ys:List Str) (o4 o5 o6:Option D),en=[some p,some (plD pl),some (.list (row.map .str)),some (.list (ys.map .str)),o4,o5,o6]/\TxS ys (4+6*i))
  ⟨["","a b","\n","0"],_,_,_,rfl,zav _,by decide⟩ (λi x en hx ⟨ys,o4,o5,o6,e,hy⟩=>?_) λen ⟨ys,o4,o5,o6,e,hy⟩=>?_
 .subst e;rw[zao]at hx;obtain⟨ps,hps,rfl⟩:=zab.mp hx;have hm:=zaW hps;have S:=(P.s.s ps hm).1;have l3:=P.l3 ps hm;have hi:i<pl.length:=(zah.mp hps).1;simp only[ws,wsc,jp,sD];refine bS (λj en=>∃(ys:List Str) (o5:Option D),en=[some p,some (plD pl),some (.list (row.map .str)),some (.list (ys.map .str)),some (sD ps),o5,o6]/\TxS ys (4+6*i+2*j))
   ⟨ys,_,rfl,by rw[Nat.mul_zero];exact hy⟩ (λj x en hx ⟨ys,o5,e,hy⟩=>?_) λen ⟨ys,o5,e,hy⟩=>?_
  .subst e;rw[zao]at hx;obtain⟨q,hq,rfl⟩:=zab.mp hx;have hj:j<ps.length:=(zah.mp hq).1;have c2:cq (q.map PyData.str) none (some 2)=(q.take 2).map .str:=by rw[show(2:Int)=((2:Nat):Int)from rfl,qD,List.map_take]
   have yl:=hy.l;have tl:(q.take 2).length<=2:=by rw[zaE];lia
   simp only[ws,wsc,jq,pD];refine KM (ts0:=ys.map .str) rfl ?_;simp only[ws,wsc,c2];refine⟨(q.take 2).map .str,ys.map .str,rfl,rfl,szB (by rw[zad,zad];lia),ys++q.take 2,_,by rw[zaC],by rw[zae];lia,λy z=>?_⟩;rcases zax.mp z with z|z
   .exact hy.w y z
   .have:=(S.p q (zaW hq)).2 y (List.mem_of_mem_take z)
    lia
  .subst e;rw[zad]at hy;exact⟨ys,_,_,_,rfl,by have:=hy.l;lia,hy.w⟩
 .subst e;have yl:=hy.l;rw[zad]at yl;simp only[ws,wsc,ne];by_cases h0:row=[]
  .have d0:decide (row=[])=true:=zaB h0;simp only[ws,wsc,d0];exact⟨ys,p,rfl,hy.w⟩
  .have d0:decide (row=[])=false:=zaA h0;have rl:1<=row.length:=by
    rcases Nat.eq_zero_or_pos row.length with z|z
    .exact absurd (za7.mp z) h0
    .exact z
   simp only[ws,wsc,d0,zad];refine cr hp (by lia) (by lia) (by lia) λr p1 r0 r1 hp1=>?_;obtain⟨k,rfl⟩:=zaL r0;have hk:k<row.length:=by lia
   have ea:atI (row.map PyData.str) (k:Int)=some (.str row[k]):=fm (by lia) (by rw[zaK,zao,zak hk];rfl);have zl:=hr _ (zaJ hk);generalize row[k]=z at ea zl;have L:∀y:Str,y.length<=100->y.length<=sizeLine:=λy h=>szB (by lia);have zc:=λlo hi=>FO z lo hi;have zr:=FN z;simp only[ws,wsc,ea,zad,cb,zac,List.length_nil];have b1:=zc none (some 1);have b2:=zc none (some (-1));have b3:=zc (some 1) none;have b4:=zc none (some 2);generalize ({ cps:=(bY z.cps.toList none (some 1)).toArray }:Str)=z1 at b1 ⊢;generalize ({ cps:=(bY z.cps.toList none (some (-1))).toArray }:Str)=z2 at b2 ⊢;generalize ({ cps:=(bY z.cps.toList (some 1) none).toArray }:Str)=z3 at b3 ⊢;generalize ({ cps:=(bY z.cps.toList none (some 2)).toArray }:Str)=z4 at b4 ⊢;generalize ({ cps:=z.cps.toList.reverse.toArray }:Str)=z5 at zr ⊢;have n1:(("\n":Str)).length=1:=rfl;have n2:((" ":Str)).length=1:=rfl;have sz:z.length<=sizeLine:=szB (by lia);refine⟨sz,szB (by lia),sz,sz,sz,szB (by rw[n1];lia),szB (by rw[n2];lia),szB (by lia),sz,szB (by lia),szB (by lia),ys++[z++z1,z2,z3,z5,z++"\n"," "++z,z++z,z4],p1,by rw[zaC];rfl,λy hm=>?_⟩;rcases zax.mp hm with h|h
   .exact hy.w y h
   .simp only[zay,List.not_mem_nil,or_false]at h;rcases h with rfl|rfl|rfl|rfl|rfl|rfl|rfl|rfl
    .rw[cb];lia
    .lia
    .lia
    .lia
    .rw[cb,n1];lia
    .rw[cb,n2];lia
    .rw[cb];lia
    .lia
def nj(a b:Nat)(h:a=b):W (cQ [.int (a:Nat),.int (b:Nat)]) (λr=>r=(.bool true,[none,none])):=by
 subst h;simp only[ws,wsc,cQ,nh]
def FX(z:Str)(ys:List Str):inL (.str z) (.list (ys.map .str))=some (.bool (decide (z∈ys))):=by
 show grd _ _=_;unfold grd;rw[if_pos ⟨rfl,dH ys,by rw[cN];decide⟩,jV]
def IV(h:∀s∈pl,GT s):tot pl<=216*pl.length:=by
 induction pl with
 |nil=>exact zbj _
 |cons a r ih=>
  have h1:=(h a zaq).cn;have h2:=ih λs hs=>h s (zaj _ hs);show cnt a+tot r<=_;rw[zac]
  lia
def vD(pl:List (List (List Str))):dd (pl.flatMap mk)=aP pl:=by
 unfold aP;rw[show mk=mkR from funext sr]
def vC(P:PlB pl):∀x∈aP pl,x.length<=40:=λx hx=>by
 obtain⟨ps,hp,hm⟩:=row_mem.mp hx;have S:=(P.s.s ps hp).1;have l3:=P.l3 ps hp
 have:=xh (ps:=ps) (λp hq=>(S.p p hq).2) ps.length x (by rw[bU,sr];exact hm)
 lia
def sY{a b:Nat}(h1:(aP pl)[a]?=some x)(h2:(aP pl)[b]?=some x):a=b:=
 (List.getElem?_inj (zah.mp h1).1 (Jj pl)).mp (h1.trans h2.symm)
def JM(P:PlB pl){x9:Option D}{v:Int}(hv:aP pl≠[]->∃k:Nat,v=k/\k<(aP pl).length)(hq:∀o8,Q (.nx [x0,x1,x2,x3,some (plD pl),some (.list ((aP pl).map .str)),x6,some (.int v),o8,x9])):
  W (pP [x0,x1,x2,x3,some (plD pl),some (.list ((aP pl).map .str)),x6,some (.int v),x8,x9]) Q:=by
 have ne:=vV (aP pl);have n3:=P.n3;by_cases h0:aP pl=[]
 .have d0:decide (aP pl=[])=true:=zaB h0;simp only[ws,wsc,pP,ne,d0];exact hq _
 .have d0:decide (aP pl=[])=false:=zaA h0;obtain⟨k,rfl,hk⟩:=hv h0;simp only[ws,wsc,pP,ne,d0];refine W.use (IU P (n:=k) (by rw[<-AM P.toPlG];exact hk)) ?_;rintro _ ⟨x,hx,rfl⟩;have ea:atI ((aP pl).map PyData.str) (k:Int)=some (.str x):=fm (by lia) (by rw[zaK,zao,hx];rfl);have xl:=vC P x (zaW hx);simp only[ws,wsc,ea];refine W.use (nE P (by lia)) ?_;rintro _ (⟨hn,rfl⟩|⟨m,hm,rfl⟩)
  .exact absurd (zaW hx) hn
  .simp only[ws,wsc];refine W.use (nj m k (sY hm hx)) ?_;rintro _ rfl;simp only[ws,wsc];exact hq _
def zC(h:z∈ys)(hl:ys.length<=100000):iI (.list (ys.map .str)) (.str z)=some (.int (idx z ys:Nat)):=by
 show(if aA (.str z)=true/\aB (ys.map PyData.str)=true/\bC (ys.map PyData.str)<=60/\(ys.map PyData.str).length<=sizeLine then((ys.map PyData.str).findIdx? λt=>peq t (.str z)).map (λj=>PyData.int (j:Nat))else none)=_;rw[if_pos ⟨rfl,dH ys,by rw[cN];lia,by rw[zad];exact szB hl⟩,lJ h];rfl
def J9(h:z∈ys):ys[idx z ys]?=some z:=by
 have l:=ue h;have g:=qy h;rw[zbh,zak l]at g;rw[zak l];exact congrArg some g
def IT(P:PlB pl){x7:Option D}(hz:z.length<=100)(hl:(aP pl).length<=100000)(hq:Q (.nx [x0,x1,x2,x3,some (plD pl),some (.list ((aP pl).map .str)),x6,x7,x8,some (.str z)])):
  W (pO [x0,x1,x2,x3,some (plD pl),some (.list ((aP pl).map .str)),x6,x7,x8,some (.str z)]) Q:=by
 have ei:=FX z (aP pl);by_cases h:z∈aP pl
 .have d0:decide (z∈aP pl)=true:=zaB h;have ix:=zC h hl;simp only[ws,wsc,pO,ei,d0];refine W.use (nE P (by lia)) ?_;rintro _ (⟨hn,rfl⟩|⟨m,hm,rfl⟩)
  .exact absurd h hn
  .simp only[ws,wsc,ix];refine W.use (nj m _ (sY hm (J9 h))) ?_;rintro _ rfl;simp only[ws,wsc];exact hq
 .have d0:decide (z∈aP pl)=false:=zaA h;simp only[ws,wsc,pO,ei,d0];refine W.use (nE P (by lia)) ?_;rintro _ (⟨hn,rfl⟩|⟨m,hm,rfl⟩)
  .simp only[ws,wsc];exact hq
  .exact absurd (zaW hm) h
def A8:JT yi:=by
 intro ns hn
 suffices W (yi [.list (ns.map .int)]) (λr=>∃o,r=(.bool true,o))by
  obtain⟨_,e,o,rfl⟩:=this.ex;exact⟨o,e⟩
 have t2:Int.toNat 2=2:=rfl;have t8:Int.toNat 8=8:=rfl;simp only[ws,yi,KW,t2];refine⟨by decide,?_⟩;refine bS (λi en=>∃o1 o2 o3 o4 o5 o6 o7 o8 o9,en=[some (.list (ns.map .int)),o1,o2,o3,o4,o5,o6,o7,o8,o9]) ⟨none,none,none,none,none,none,none,none,none,rfl⟩ (λi t en ht ⟨o1,o2,o3,o4,o5,o6,o7,o8,o9,e⟩=>?_) λen ⟨o1,o2,o3,o4,o5,o6,o7,o8,o9,e⟩=>?_
 .subst e;obtain⟨hi,rfl⟩:=eJ ht;simp only[ws,Aq];refine EV (by lia) hn λp hp=>?_;simp only[ws];refine W.use (yu hp) ?_;rintro _ ⟨ks,p1,rfl,T,hp1⟩;simp only[ws];refine W.use (Fp T hp1) ?_;rintro _ ⟨pl,p2,rfl,h3,hg,hp2⟩;have P:=PlB.of h3 hg;have tt:=IV hg;have B:PB pl:=⟨by lia,λs hs=>(hg s hs).sb⟩;have fl:=um pl;have dl:=sA (pl.flatMap mk) [];have rl:(aP pl).length<=1000:=by
   rw[<-vD];unfold dd;have z:([]:List Str).length=0:=rfl
   lia
  simp only[ws];refine W.use (Ji B (by lia)) ?_;rintro _ rfl;rw[vD];simp only[ws];refine W.use (FY P.toPlG) ?_;rintro _ rfl;simp only[ws,zad];refine W.use (nj _ _ rfl) ?_;rintro _ rfl;simp only[ws,t8];refine⟨by decide,?_⟩;refine lQ (λk us en=>∃(vs:List Int) (o:Option D) (p':D),us=vs.map PyData.int/\vs.length=k/\(∀v∈vs,0<=v/\(aP pl≠[]->v<(aP pl).length))/\en=[o,some p',some (.list ((aP pl).map .str))]/\Pn (10000+k) p') (szB (by rw[dG];lia)) ⟨[],none,p2,rfl,rfl,by simp,rfl,hp2⟩ (λk t us en ht _ ⟨vs,o,p',e1,e2,e3,e4,e5⟩=>?_) λus en _ ⟨vs,o,p',e1,e2,e3,e4,e5⟩=>?_
  .subst e4;obtain⟨hk,rfl⟩:=eJ ht;simp only[ws,wsc,Aw,zad];have hm:∃M:Int,(if((aP pl).length:Int)>1 then((aP pl).length:Int)else 1)=M/\1<=M/\M<=1000/\(aP pl≠[]->M<=(aP pl).length):=by
    refine⟨_,rfl,?_⟩;split
    .exact⟨by lia,by lia,λ_=>by lia⟩
    .refine⟨by lia,by lia,λz=>?_⟩;rcases Nat.eq_zero_or_pos (aP pl).length with y|y
     .exact absurd (za7.mp y) z
     .lia
   obtain⟨M,eM,m1,m2,m3⟩:=hm;rw[eM];refine cr e5 (by lia) (by lia) (by lia) λr p4 r0 r1 hp4=>?_;simp only[ws,wsc];subst e1;refine⟨vs++[r],_,p4,by rw[zaC];rfl,by rw[zae,e2];rfl,λv hv=>?_,rfl,hp4⟩;rcases zax.mp hv with z|z
   .exact e3 v z
   .rw[zaG.mp z];exact⟨r0,λy=>by have:=m3 y;lia⟩
  .subst e4 e1;rw[dG]at e2;simp only[ws,wsc,zad];refine⟨szB (by show vs.length+2<=_;lia),?_⟩;have em:vs.map PyData.int++[PyData.int 0,PyData.int (((aP pl).length:Int)-1)]=(vs++[0,((aP pl).length:Int)-1]).map PyData.int:=by rw[zaC];rfl
   have hv:∀v∈vs++[0,((aP pl).length:Int)-1],aP pl≠[]->∃k:Nat,v=k/\k<(aP pl).length:=λv h z=>by
    have l1:1<=(aP pl).length:=by
     rcases Nat.eq_zero_or_pos (aP pl).length with y|y
     .exact absurd (za7.mp y) z
     .exact y
    rcases zax.mp h with h|h
    .obtain⟨a,b⟩:=e3 v h
     have:=b z;exact⟨v.toNat,by lia,by lia⟩
    .simp only[zay,List.not_mem_nil,or_false]at h;rcases h with rfl|rfl
     .exact⟨0,rfl,by lia⟩
     .exact⟨(aP pl).length-1,by lia,by lia⟩
   rw[em];generalize vs++[0,((aP pl).length:Int)-1]=us at hv ⊢;refine bS (λk en=>∃o7 o8,en=[some (.list (ns.map .int)),some (.int (0+(i:Nat))),some p',some (tD ks),some (plD pl),some (.list ((aP pl).map .str)),some (.list (us.map .int)),o7,o8,o9]) ⟨_,_,rfl⟩ (λk t en ht ⟨o7,o8,e⟩=>?_) λen ⟨o7,o8,e⟩=>?_
   .subst e;rw[zao]at ht;obtain⟨v,hvk,rfl⟩:=zab.mp ht;simp only[ws,wsc];refine JM P (hv v (zaW hvk)) λo8=>?_;simp only[ws,wsc];exact⟨_,_,rfl⟩
   .subst e;simp only[ws,wsc];refine W.use (wI P (vC P) (by lia) e5 (by rw[dG];lia)) ?_;rintro _ ⟨ys,p5,rfl,hy⟩;simp only[ws,wsc];refine bS (λk en=>∃o9,en=[some (.list (ns.map .int)),some (.int (0+(i:Nat))),some p5,some (tD ks),some (plD pl),some (.list ((aP pl).map .str)),some (.list (us.map .int)),o7,o8,o9]) ⟨_,rfl⟩ (λk t en ht ⟨o9,e⟩=>?_) λen ⟨o9,e⟩=>?_
    .subst e;rw[zao]at ht;obtain⟨z,hz,rfl⟩:=zab.mp ht;simp only[ws,wsc];refine IT P (hy z (zaW hz)) (by lia) ?_;simp only[ws,wsc];exact⟨_,rfl⟩
    .subst e;simp only[ws,wsc];exact⟨_,_,_,_,_,_,_,_,_,rfl⟩
 .subst e;simp only[ws];exact⟨_,rfl⟩
end W45
set_option maxHeartbeats 4000000
namespace W45
variable{w:World}{K:zbU}{h:Heap}{j:Nat}
open PySem L2
def A5{α β:Type}{us:List α}{x0:β}(h:us.length=[x0].length):∃a0,us=[a0]:=by
 cases us with
 |nil=>cases h
 |cons a0 r=>exact⟨a0,by rw[za7.mp (show r.length=0 from Nat.succ.inj h)]⟩
def tR{α β:Type}{us:List α}{x0 x1:β}(h:us.length=[x0,x1].length):∃a0 a1,us=[a0,a1]:=by
 cases us with
 |nil=>cases h
 |cons a0 r=>obtain⟨a1,rfl⟩:=A5 (us:=r) (x0:=x1) (Nat.succ.inj h);exact⟨a0,a1,rfl⟩
def jA{α β:Type}{us:List α}{x0 x1 x2:β}(h:us.length=[x0,x1,x2].length):∃a0 a1 a2,us=[a0,a1,a2]:=by
 cases us with
 |nil=>cases h
 |cons a0 r=>obtain⟨a1,a2,rfl⟩:=tR (us:=r) (x0:=x1) (x1:=x2) (Nat.succ.inj h);exact⟨a0,a1,a2,rfl⟩
def ft{α β:Type}{us:List α}{x0 x1 x2 x3:β}(h:us.length=[x0,x1,x2,x3].length):∃a0 a1 a2 a3,us=[a0,a1,a2,a3]:=by
 cases us with
 |nil=>cases h
 |cons a0 r=>obtain⟨a1,a2,a3,rfl⟩:=jA (us:=r) (x0:=x1) (x1:=x2) (x2:=x3) (Nat.succ.inj h);exact⟨a0,a1,a2,a3,rfl⟩
section
variable{P:Program}{mg:Str->Option Value}{base:Heap}{k dr:Nat}{x:Str}{ps:List Str}{dps:List Nat}{f:Addr}{st:Stmt}{sp:L2.Sp}
abbrev L9(x:Str)(st:Stmt)(ps:List Str):Prop:=∀(kV doc pm:Value) (an:Option Addr) (cdv ct:Value) (us:List Value),us.length=ps.length->bindArgs (PySem.W.fnOf x x (bR st) (bu st) (am st) .none kV doc pm an cdv ct) ⟨us,[]⟩=pure (ps.zip us)
def _root_.L2.Kn.up(G:Kn P w K mg base j x ps sp)(h:j<=k:=by decide):Kn P w K mg base k x ps sp:=G.mono h
def _root_.L2.KnM.up{c m:Str}(G:KnM P w K mg base j c m ps sp)(h:j<=k:=by decide):KnM P w K mg base k c m ps sp:=G.mono h
def knA(d:Df K x st f)(X:K.In h)(G:h.Ns mainGlobals mg)(ok:∀fd,Fun K x x st f fd->FnOk P w K mg base CX0 k f fd ps sp)(b:L9 x st ps:=by intro _ _ _ _ _ _ us hl;rcases us with _|⟨_,_|⟨_,_|⟨_,_|⟨_,_|⟨_,_|⟨_,_⟩⟩⟩⟩⟩⟩<;>first|rfl|cases hl):Kn P w K mg base k x ps sp:=d.kn X G b ok
end
def all_mk{l:PySem.W.OpenLaw}{mg:Str->Option Value}{fa f0 f1 f2 f3 f4 f5 f6 f7 f8 f9 f10 f11 f12 f13 f14 f15 f16 f17 f18 f19 f20 f21 f22 f23 f24 f25 f26 f27 f28 f29 f30 f31 f32:Addr}(X:K.In h)(G:h.Ns mainGlobals mg)(hfa:mg "law"=some (.ref fa))
  {CFresh:Addr} (cFresh:PySem.W.nsIn K mainGlobals "Fresh"=some (some (.ref CFresh)))
  {CTally:Addr} (cTally:PySem.W.nsIn K mainGlobals "Tally"=some (some (.ref CTally)))
  (d0:Df K "is_whole" lV f0)
  (d1:Df K "words_that_begin" eZ f1)
  (d2:Df K "words_read" jD f2)
  (d3:Df K "read_on" n8 f3)
  (d4:DfM K CFresh "further" "Fresh.further" gK f4)
  (d5:DfM K CTally "by" "Tally.by" lY f5)
  (d6:DfM K CTally "by_first" "Tally.by_first" dU f6)
  (d7:Df K "is_read" n9 f7)
  (d8:DfM K CFresh "passes" "Fresh.passes" io f8)
  (d9:DfM K CTally "many_from" "Tally.many_from" fF f9)
  (d10:DfM K CFresh "at_first" "Fresh.at_first" gb f10)
  (d11:DfM K CTally "whole" "Tally.whole" iY f11)
  (d12:Df K "fresh_words" iW f12)
  (d13:Df K "how_many" jn f13)
  (d14:Df K "places_in" kJ f14)
  (d15:DfM K CTally "ahead_of" "Tally.ahead_of" ga f15)
  (d16:Df K "place" uH f16)
  (d17:DfM K CTally "place_within" "Tally.place_within" dP f17)
  (d18:DfM K CTally "places_at" "Tally.places_at" fE f18)
  (d19:Df K "try_at" qL f19)
  (d20:Df K "_law_pen" lX f20)
  (d21:Df K "_law_draw" kR f21)
  (d22:Df K "_law_tongue" fZ f22)
  (d23:Df K "_law_text" kK f23)
  (d24:Df K "_law_part" kP f24)
  (d25:Df K "_law_step" kL f25)
  (d26:Df K "_law_merged" iX f26)
  (d27:Df K "_law_more" kQ f27)
  (d28:Df K "_law_plan" kO f28)
  (d29:Df K "_law_row" lW f29)
  (d30:Df K "_law_whole" jE f30)
  (d31:Df K "_law_strange" im f31)
  (d32:Df K "law" lU f32)
  {fFresh:Addr} (iFresh:DfM K CFresh "__init__" "Fresh.__init__" kT fFresh)
  {fTally:Addr} (iTally:DfM K CTally "__init__" "Tally.__init__" kS fTally)
  (eFresh:nX K CFresh=true) (nFresh:naB K CFresh ((["elder"]:List Str)++(["known"]:List Str))=true) (kFresh:mkB K CFresh=true)
  (eTally:nX K CTally=true) (nTally:naB K CTally ((["step","sieve"]:List Str)++(["known"]:List Str))=true) (kTally:mkB K CTally=true)
  (z0:PySem.W.nsIn K mainGlobals "any"=some none)
  (z1:PySem.W.nsIn K mainGlobals "bool"=some none)
  (z2:PySem.W.nsIn K mainGlobals "enumerate"=some none)
  (z3:PySem.W.nsIn K mainGlobals "int"=some none)
  (z4:PySem.W.nsIn K mainGlobals "isinstance"=some none)
  (z5:PySem.W.nsIn K mainGlobals "len"=some none)
  (z6:PySem.W.nsIn K mainGlobals "max"=some none)
  (z7:PySem.W.nsIn K mainGlobals "range"=some none)
  (z8:PySem.W.nsIn K mainGlobals "str"=some none)
  (z9:PySem.W.nsIn K mainGlobals "sum"=some none)
  (z10:PySem.W.nsIn K mainGlobals "tuple"=some none)
  (z11:PySem.W.nsIn K mainGlobals "zip"=some none):
  ∃fd:FuncData,(∀(s:Shared) (v:Value),BindsTo s fd ⟨[v],[]⟩ [("_law_script",v)])/\∀base:Heap,K.In base->base.Ns mainGlobals mg->FnOk l.prog w K mg base CX0 28 fa fd ["_law_script"] (oA K):=by
 have e:=hfa.symm.trans (PySem.W.mg_of X G d32.a);cases e;have m:=λ{x:Str} (z:PySem.W.nsIn K mainGlobals x=some none)=>PySem.W.mg_none_of X G z;have T:Bl mg:=⟨(m z0),(m z1),(m z2),(m z3),(m z4),(m z5),(m z6),(m z7),(m z8),(m z9),(m z10),(m z11)⟩;obtain⟨oc,od,kV,dc,pm,an,cd,ct,sl,ll,lc⟩:=d32.l;have FL:=pb (st:=lU) ll lc d32.k;refine⟨PySem.W.fnOf "law" "law" (bR lU) (bu lU) (am lU) .none kV dc pm an cd ct,λs v=>.of_eq rfl,λbase _ _=>?_⟩;have gC_Fresh:KnC l.prog w K mg base 2 "Fresh" ["elder"] false:=iFresh.make (ps:=["self","elder"]) X G cFresh kFresh (λ_ _ _ _ _ _ us hl=>by obtain⟨a0,a1,rfl⟩:=tR hl;rfl) λ_ F=>ve (k:=0) F cFresh (pz eFresh) (λg hg=>oO nFresh g (zbf _ hg)) (oO nFresh _ (zbg _ (zaG.mpr rfl)));have gC_Tally:KnC l.prog w K mg base 2 "Tally" ["step","sieve"] true:=iTally.make (ps:=["self","step","sieve"]) X G cTally kTally (λ_ _ _ _ _ _ us hl=>by obtain⟨a0,a1,a2,rfl⟩:=jA hl;rfl) λ_ F=>vd (k:=0) F cTally (pz eTally) (λg hg=>oO nTally g (zbf _ hg)) (oO nTally _ (zbg _ (zaG.mpr rfl)));have g0:pH l.prog w K mg base 1:=knA d0 X G λ_ F=>wY (k:=0) T      F;have g1:hW l.prog w K mg base 1:=knA d1 X G λ_ F=>lr (k:=0) T      F;have g2:iZ l.prog w K mg base 2:=knA d2 X G λ_ F=>tw (k:=1) T  g1.up    F;have g3:rG l.prog w K mg base 3:=knA d3 X G λ_ F=>yR (k:=2) T  g2.up    F;have g4:KnM l.prog w K mg base 4 "Fresh" "further" ["self","mind","word"] (spF K [0,0,0] 0 bh):=d4.kn cFresh eFresh (λ_ _ _ _ _ _ us hl=>by obtain⟨a0,a1,a2,rfl⟩:=jA hl;rfl) λ_ F=>oM (k:=3) T  g3.up (aI cFresh eFresh nFresh (by decide))   F;have g7:rH l.prog w K mg base 1:=knA d7 X G λ_ F=>yS (k:=0) T      F;have g8:KnM l.prog w K mg base 2 "Fresh" "passes" ["self","mind"] (spF K [0,0] 3 cF):=d8.kn cFresh eFresh (λ_ _ _ _ _ _ us hl=>by obtain⟨a0,a1,rfl⟩:=tR hl;rfl) λ_ F=>ql (k:=1) T  g7.up (aI cFresh eFresh nFresh (by decide))   F;have g9r0:KnM l.prog w K mg base 4 "Tally" "many_from" ["self","number","mind"] (spF K [5,0,0] 3 (aj 0)):=d9.none cTally eTally (λ_ _ _ _ _ _ us hl=>by obtain⟨a0,a1,a2,rfl⟩:=jA hl;rfl);have g5r0:KnM l.prog w K mg base 5 "Tally" "by" ["self","number","mind","word"] (spF K [5,0,0,0] 3 (bQ (aj 0))):=d5.kn cTally eTally (λ_ _ _ _ _ _ us hl=>by obtain⟨a0,a1,a2,a3,rfl⟩:=ft hl;rfl) λ_ F=>dq (k:=4) T  (g9r0.mono (by decide)) g4.up (aI cTally eTally nTally (by decide)) F;have g6r0:KnM l.prog w K mg base 6 "Tally" "by_first" ["self","number","mind","many"] (spF K [5,0,0,0] 3 (aD (aj 0))):=d6.kn cTally eTally (λ_ _ _ _ _ _ us hl=>by obtain⟨a0,a1,a2,a3,rfl⟩:=ft hl;rfl) λ_ F=>bx (k:=5) T  (g5r0.mono (by decide)) (aI cTally eTally nTally (by decide)) F;have g9r1:KnM l.prog w K mg base 7 "Tally" "many_from" ["self","number","mind"] (spF K [5,0,0] 3 (aj 1)):=d9.kn cTally eTally (λ_ _ _ _ _ _ us hl=>by obtain⟨a0,a1,a2,rfl⟩:=jA hl;rfl) λ_ F=>bF (k:=6) T  (g6r0.mono (by decide)) g8.up (aI cTally eTally nTally (by decide)) (aI cTally eTally nTally (by decide)) (aI cTally eTally nTally (by decide)) F;have g5r1:KnM l.prog w K mg base 8 "Tally" "by" ["self","number","mind","word"] (spF K [5,0,0,0] 3 (bQ (aj 1))):=d5.kn cTally eTally (λ_ _ _ _ _ _ us hl=>by obtain⟨a0,a1,a2,a3,rfl⟩:=ft hl;rfl) λ_ F=>dq (k:=7) T  (g9r1.mono (by decide)) g4.up (aI cTally eTally nTally (by decide)) F;have g6r1:KnM l.prog w K mg base 9 "Tally" "by_first" ["self","number","mind","many"] (spF K [5,0,0,0] 3 (aD (aj 1))):=d6.kn cTally eTally (λ_ _ _ _ _ _ us hl=>by obtain⟨a0,a1,a2,a3,rfl⟩:=ft hl;rfl) λ_ F=>bx (k:=8) T  (g5r1.mono (by decide)) (aI cTally eTally nTally (by decide)) F;have g9r2:KnM l.prog w K mg base 10 "Tally" "many_from" ["self","number","mind"] (spF K [5,0,0] 3 (aj 2)):=d9.kn cTally eTally (λ_ _ _ _ _ _ us hl=>by obtain⟨a0,a1,a2,rfl⟩:=jA hl;rfl) λ_ F=>bF (k:=9) T  (g6r1.mono (by decide)) g8.up (aI cTally eTally nTally (by decide)) (aI cTally eTally nTally (by decide)) (aI cTally eTally nTally (by decide)) F;have g5r2:KnM l.prog w K mg base 11 "Tally" "by" ["self","number","mind","word"] (spF K [5,0,0,0] 3 (bQ (aj 2))):=d5.kn cTally eTally (λ_ _ _ _ _ _ us hl=>by obtain⟨a0,a1,a2,a3,rfl⟩:=ft hl;rfl) λ_ F=>dq (k:=10) T  (g9r2.mono (by decide)) g4.up (aI cTally eTally nTally (by decide)) F;have g6r2:KnM l.prog w K mg base 12 "Tally" "by_first" ["self","number","mind","many"] (spF K [5,0,0,0] 3 (aD (aj 2))):=d6.kn cTally eTally (λ_ _ _ _ _ _ us hl=>by obtain⟨a0,a1,a2,a3,rfl⟩:=ft hl;rfl) λ_ F=>bx (k:=11) T  (g5r2.mono (by decide)) (aI cTally eTally nTally (by decide)) F;have g9r3:KnM l.prog w K mg base 13 "Tally" "many_from" ["self","number","mind"] (spF K [5,0,0] 3 (aj 3)):=d9.kn cTally eTally (λ_ _ _ _ _ _ us hl=>by obtain⟨a0,a1,a2,rfl⟩:=jA hl;rfl) λ_ F=>bF (k:=12) T  (g6r2.mono (by decide)) g8.up (aI cTally eTally nTally (by decide)) (aI cTally eTally nTally (by decide)) (aI cTally eTally nTally (by decide)) F;have g5r3:KnM l.prog w K mg base 14 "Tally" "by" ["self","number","mind","word"] (spF K [5,0,0,0] 3 (bQ (aj 3))):=d5.kn cTally eTally (λ_ _ _ _ _ _ us hl=>by obtain⟨a0,a1,a2,a3,rfl⟩:=ft hl;rfl) λ_ F=>dq (k:=13) T  (g9r3.mono (by decide)) g4.up (aI cTally eTally nTally (by decide)) F;have g6r3:KnM l.prog w K mg base 15 "Tally" "by_first" ["self","number","mind","many"] (spF K [5,0,0,0] 3 (aD (aj 3))):=d6.kn cTally eTally (λ_ _ _ _ _ _ us hl=>by obtain⟨a0,a1,a2,a3,rfl⟩:=ft hl;rfl) λ_ F=>bx (k:=14) T  (g5r3.mono (by decide)) (aI cTally eTally nTally (by decide)) F;have g9r4:KnM l.prog w K mg base 16 "Tally" "many_from" ["self","number","mind"] (spF K [5,0,0] 3 (aj 4)):=d9.kn cTally eTally (λ_ _ _ _ _ _ us hl=>by obtain⟨a0,a1,a2,rfl⟩:=jA hl;rfl) λ_ F=>bF (k:=15) T  (g6r3.mono (by decide)) g8.up (aI cTally eTally nTally (by decide)) (aI cTally eTally nTally (by decide)) (aI cTally eTally nTally (by decide)) F;have g5r4:KnM l.prog w K mg base 17 "Tally" "by" ["self","number","mind","word"] (spF K [5,0,0,0] 3 (bQ (aj 4))):=d5.kn cTally eTally (λ_ _ _ _ _ _ us hl=>by obtain⟨a0,a1,a2,a3,rfl⟩:=ft hl;rfl) λ_ F=>dq (k:=16) T  (g9r4.mono (by decide)) g4.up (aI cTally eTally nTally (by decide)) F;have g6r4:KnM l.prog w K mg base 18 "Tally" "by_first" ["self","number","mind","many"] (spF K [5,0,0,0] 3 (aD (aj 4))):=d6.kn cTally eTally (λ_ _ _ _ _ _ us hl=>by obtain⟨a0,a1,a2,a3,rfl⟩:=ft hl;rfl) λ_ F=>bx (k:=17) T  (g5r4.mono (by decide)) (aI cTally eTally nTally (by decide)) F;have g9r5:KnM l.prog w K mg base 19 "Tally" "many_from" ["self","number","mind"] (spF K [5,0,0] 3 (aj 5)):=d9.kn cTally eTally (λ_ _ _ _ _ _ us hl=>by obtain⟨a0,a1,a2,rfl⟩:=jA hl;rfl) λ_ F=>bF (k:=18) T  (g6r4.mono (by decide)) g8.up (aI cTally eTally nTally (by decide)) (aI cTally eTally nTally (by decide)) (aI cTally eTally nTally (by decide)) F;have g5r5:KnM l.prog w K mg base 20 "Tally" "by" ["self","number","mind","word"] (spF K [5,0,0,0] 3 (bQ (aj 5))):=d5.kn cTally eTally (λ_ _ _ _ _ _ us hl=>by obtain⟨a0,a1,a2,a3,rfl⟩:=ft hl;rfl) λ_ F=>dq (k:=19) T  (g9r5.mono (by decide)) g4.up (aI cTally eTally nTally (by decide)) F;have g6r5:KnM l.prog w K mg base 21 "Tally" "by_first" ["self","number","mind","many"] (spF K [5,0,0,0] 3 (aD (aj 5))):=d6.kn cTally eTally (λ_ _ _ _ _ _ us hl=>by obtain⟨a0,a1,a2,a3,rfl⟩:=ft hl;rfl) λ_ F=>bx (k:=20) T  (g5r5.mono (by decide)) (aI cTally eTally nTally (by decide)) F;have g9:KnM l.prog w K mg base 22 "Tally" "many_from" ["self","number","mind"] (spF K [5,0,0] 3 (aj 6)):=d9.kn cTally eTally (λ_ _ _ _ _ _ us hl=>by obtain⟨a0,a1,a2,rfl⟩:=jA hl;rfl) λ_ F=>bF (k:=21) T  (g6r5.mono (by decide)) g8.up (aI cTally eTally nTally (by decide)) (aI cTally eTally nTally (by decide)) (aI cTally eTally nTally (by decide)) F;have g5:KnM l.prog w K mg base 23 "Tally" "by" ["self","number","mind","word"] (spF K [5,0,0,0] 3 (bQ (aj 6))):=d5.kn cTally eTally (λ_ _ _ _ _ _ us hl=>by obtain⟨a0,a1,a2,a3,rfl⟩:=ft hl;rfl) λ_ F=>dq (k:=22) T  g9.up g4.up (aI cTally eTally nTally (by decide)) F;have g6:KnM l.prog w K mg base 24 "Tally" "by_first" ["self","number","mind","many"] (spF K [5,0,0,0] 3 (aD (aj 6))):=d6.kn cTally eTally (λ_ _ _ _ _ _ us hl=>by obtain⟨a0,a1,a2,a3,rfl⟩:=ft hl;rfl) λ_ F=>bx (k:=23) T  g5.up (aI cTally eTally nTally (by decide)) F;have g10:KnM l.prog w K mg base 1 "Fresh" "at_first" ["self"] (spF K [0] 0 bc):=d10.kn cFresh eFresh (λ_ _ _ _ _ _ us hl=>by obtain⟨a0,rfl⟩:=A5 hl;rfl) λ_ F=>nM (k:=0) T   (aI cFresh eFresh nFresh (by decide))   F;have g11:KnM l.prog w K mg base 23 "Tally" "whole" ["self"] (spF K [5] 3 bq):=d11.kn cTally eTally (λ_ _ _ _ _ _ us hl=>by obtain⟨a0,rfl⟩:=A5 hl;rfl) λ_ F=>rY (k:=22) T  g9.up g10.up (aI cTally eTally nTally (by decide))   F;have g12:fq l.prog w K mg base 3:=knA d12 X G λ_ F=>rV (k:=2) T   (gC_Tally.mono (by decide)) (gC_Fresh.mono (by decide))   F;have g13:pI l.prog w K mg base 24:=knA d13 X G λ_ F=>wZ (k:=23) T  g11.up g12.up    F;have g14:m6 l.prog w K mg base 3:=knA d14 X G λ_ F=>u6 (k:=2) T  g2.up    F;have g15:KnM l.prog w K mg base 25 "Tally" "ahead_of" ["self","places"] (spF K [5,0] 0 bT):=d15.kn cTally eTally (λ_ _ _ _ _ _ us hl=>by obtain⟨a0,a1,rfl⟩:=tR hl;rfl) λ_ F=>nL (k:=24) T  g10.up g4.up g6.up (aI cTally eTally nTally (by decide)) (aI cTally eTally nTally (by decide))   F;have g16:ww l.prog w K mg base 26:=knA d16 X G λ_ F=>FE (k:=25) T  g14.up g11.up g15.up g12.up    F;have g17:KnM l.prog w K mg base 25 "Tally" "place_within" ["self","number","mind","left"] (spF K [5,0,0,0] 0 bv):=d17.kn cTally eTally (λ_ _ _ _ _ _ us hl=>by obtain⟨a0,a1,a2,a3,rfl⟩:=ft hl;rfl) λ_ F=>kf (k:=24) T  g6.up    F;have g18:KnM l.prog w K mg base 26 "Tally" "places_at" ["self","number"] (spF K [5,0] 0 bK):=d18.kn cTally eTally (λ_ _ _ _ _ _ us hl=>by obtain⟨a0,a1,rfl⟩:=tR hl;rfl) λ_ F=>mL (k:=25) T  g10.up g17.up g4.up g6.up (aI cTally eTally nTally (by decide)) (aI cTally eTally nTally (by decide))   F;have g19:uI l.prog w K mg base 27:=knA d19 X G λ_ F=>A0 (k:=26) T  g12.up g0.up g11.up g18.up    F;have g20:pK l.prog w K mg base 1:=knA d20 X G λ_ F=>w6 (k:=0) T      F;have g21:cP l.prog w K mg base 1:=knA d21 X G λ_ F=>vc (k:=0) T      F;have g22:kY l.prog w K mg base 2:=knA d22 X G λ_ F=>rW (k:=1) T  g21.up    F;have g23:jF l.prog w K mg base 2:=knA d23 X G λ_ F=>u7 (k:=1) T  g21.up    F;have g24:jG l.prog w K mg base 3:=knA d24 X G λ_ F=>va (k:=2) T  g23.up    F;have g25:m7 l.prog w K mg base 4:=knA d25 X G λ_ F=>u8 (k:=3) T  g21.up g24.up    F;have g26:kZ l.prog w K mg base 1:=knA d26 X G λ_ F=>rX (k:=0) T      F;have g27:m9 l.prog w K mg base 3:=knA d27 X G λ_ F=>vb (k:=2) T  g23.up    F;have g28:m8 l.prog w K mg base 5:=knA d28 X G λ_ F=>u9 (k:=4) T  g21.up g25.up g26.up g24.up g27.up    F;have g29:pJ l.prog w K mg base 1:=knA d29 X G λ_ F=>w4 (k:=0) T      F;have g30:lZ l.prog w K mg base 1:=knA d30 X G λ_ F=>tE (k:=0) T      F;have g31:jZ l.prog w K mg base 2:=knA d31 X G λ_ F=>qk (k:=1) T  g21.up    F;exact(Le (k:=27) T  g20.up g22.up g28.up g29.up g31.up g30.up g13.up g21.up g19.up g16.up    FL).imp λvs H Q E h=>JS A8 h
def walk{l:PySem.W.OpenLaw}{q:Program}{bX:List Str}{XP:(Str->Option Value)->Heap->Prop}{YP:World->Heap->Prop}{d:DefRec}{K:Params->zbU}(hn:l.most=some 63)(hdf:d.params.defaults=[])(hq:PyProof.Rows.importsNone q=true)
  (hY:∀(w:World) (h:Heap),YP w h->(K w.params).In h) (hreg:∀w:World,((K w.params).all λq=>!isR q)=true)
  (F:∀(w:World) (mg:Str->Option Value) (fa:Addr) (h:Heap),(K w.params).In h->h.Ns mainGlobals mg->mg d.name=some (.ref fa) ->
   ∃fd:FuncData,(∀(s:Shared) (u:Value),BindsTo s fd ⟨[u],[]⟩ [("_law_script",u)])/\∀base:Heap,(K w.params).In base->base.Ns mainGlobals mg->FnOk l.prog w (K w.params) mg base CX0 28 fa fd ["_law_script"] (oA (K w.params))):
  PySem.W.WalkO q bX XP YP l.row.toRowW d [] (λf vs=>PySem.call f vs):=
 L2.walk_C (n:=63) (k:=28) (x:="_law_script") (sp:=λw=>oA (K w.params)) hn (by decide) hdf ⟨rfl,by decide,by decide,rfl⟩ hq hY hreg F λ_ _ a ns hl hS=>⟨a,ns,rfl,hS,hl,λ_=>rfl⟩
end W45
open PySem PySem.W PyProof.Rows
set_option maxRecDepth 100000 in
set_option maxHeartbeats 0 in
theorem PySem.Challenge.cw_wordrules_k45_places_in_small_plans_holds : PySem.Challenge.rw_wordrules_k45_places_in_small_plans.Holds := by
 w_on;o_law;k_head;(case hw=>w_witness2)
 k_fill
 refine W45.walk (l:=PySem.Challenge.rw_wordrules_k45_places_in_small_plans) rfl rfl rfl (λw h Y=>PySem.W.kIn_of Y) ?R ?F
 case R=>
  intro w
  kernel_rfl
 case F=>
  intro w mg fa h KX G hmg;refine' W45.all_mk KX G hmg ?_ ?_ (.mk' ?_ ?_ ?_ ?_) (.mk' ?_ ?_ ?_ ?_) (.mk' ?_ ?_ ?_ ?_) (.mk' ?_ ?_ ?_ ?_) (.mk' ?_ ?_ ?_ ?_ ?_) (.mk' ?_ ?_ ?_ ?_ ?_) (.mk' ?_ ?_ ?_ ?_ ?_) (.mk' ?_ ?_ ?_ ?_) (.mk' ?_ ?_ ?_ ?_ ?_) (.mk' ?_ ?_ ?_ ?_ ?_) (.mk' ?_ ?_ ?_ ?_ ?_) (.mk' ?_ ?_ ?_ ?_ ?_) (.mk' ?_ ?_ ?_ ?_) (.mk' ?_ ?_ ?_ ?_) (.mk' ?_ ?_ ?_ ?_) (.mk' ?_ ?_ ?_ ?_ ?_) (.mk' ?_ ?_ ?_ ?_) (.mk' ?_ ?_ ?_ ?_ ?_) (.mk' ?_ ?_ ?_ ?_ ?_) (.mk' ?_ ?_ ?_ ?_) (.mk' ?_ ?_ ?_ ?_) (.mk' ?_ ?_ ?_ ?_) (.mk' ?_ ?_ ?_ ?_) (.mk' ?_ ?_ ?_ ?_) (.mk' ?_ ?_ ?_ ?_) (.mk' ?_ ?_ ?_ ?_) (.mk' ?_ ?_ ?_ ?_) (.mk' ?_ ?_ ?_ ?_) (.mk' ?_ ?_ ?_ ?_) (.mk' ?_ ?_ ?_ ?_) (.mk' ?_ ?_ ?_ ?_) (.mk' ?_ ?_ ?_ ?_) (.mk' ?_ ?_ ?_ ?_) (.mk' ?_ ?_ ?_ ?_ ?_) (.mk' ?_ ?_ ?_ ?_ ?_) ?keFresh ?knFresh ?kmFresh ?keTally ?knTally ?kmTally ?_ ?_ ?_ ?_ ?_ ?_ ?_ ?_ ?_ ?_ ?_ ?_
  all_goals (try k_is)
  case keFresh=>kernel_rfl
  case knFresh=>kernel_rfl
  case kmFresh=>kernel_rfl
  case keTally=>kernel_rfl
  case knTally=>kernel_rfl
  case kmTally=>kernel_rfl

