import PyProof.Rows.All
import Wide.All
import OpenK.AllK
import Wide.FinOn
import Lean
import PyProof.EqAt
import PyProof.EqKinds
import PyProof.TupleCall
import PyProof.NeKinds
import PyProof.ConsumeWalk
import PyProof.ZipIter
import PyProof.EnumMake
import PyProof.EnumFor
import PyProof.StrWalks
import PyProof.ListStr
import PyProof.SliceStr2
import PyProof.StrBlockI
import PyProof.Rows.StrWeight2
import PyProof.Rows.ZipGen
import PyProof.Rows.StrIndexOr
import PyProof.Draws
import PyProof.RaisesStr
import PyProof.Rows.StrCountLaw
import PyProof.SumWalk
import PyProof.ReprRoads
import PyProof.ReprLen
import PyProof.CallFns
import PyProof.SumAny
import PyProof.SumAnyB
import KE.KRevIter
import KE.KIntText
import PyProof.Rows.SetFrom
import PySem.Challenge.RW_wordrules_k59_no_plan_texts
set_option Elab.async false
set_option linter.all false
set_option maxRecDepth 100000
section
open PySem PyProof.Rows
def zaa:=@Option.bind_eq_some_iff
def zab:=@Option.map_eq_some_iff
def zac:=@List.length_cons
def zad:=@List.length_map
def zae:=@List.length_append
def zaf:=@Heap.get?_push_of_some
def zag:=@Nat.lt_of_lt_of_le
def zah:=@List.getElem?_eq_some_iff
def zai:=@List.size_toArray
def zaj:=@List.mem_cons_of_mem
def zak:=@List.getElem?_eq_getElem
def zal:=@Heap.lt_size
def zam:=@wpAny_bind
def zan:=@Heap.get?_push_size
def zao:=@List.getElem?_map
def zap:=@List.not_mem_nil
def zaq:=@List.mem_cons_self
def zar:=@List.map_cons
def zas:=@List.lookup_cons
def zat:=@Option.some.inj
def zau:=@Nat.le_trans
def zav:=@Nat.le_refl
def zaw:=@Nat.ne_of_lt
def zax:=@List.mem_append
def zay:=@List.mem_cons
def zaz:=@List.mem_map
def zaA:=@decide_eq_false
def zaB:=@decide_eq_true
def zaC:=@List.map_append
def zaD:=@List.append_assoc
def zaE:=@List.length_take
def zaF:=@List.length_drop
def zaG:=@Bool.true_and
def zaH:=@List.mem_singleton
def zaI:=@Nat.lt_irrefl
def zaK:=@List.getElem_mem
def zaL:=@Int.toNat_natCast
def zaM:=@Int.eq_ofNat_of_zero_le
def zaN:=@List.length_replicate
def zaO:=@List.getElem?_set_ne
def zaP:=@List.getElem?_set_self
def zaQ:=@List.take_length
def zaR:=@List.map_map
def zaS:=@List.getElem?_append_left
def zaT:=@wpAny_pure
def zaU:=@PySem.mem_of_lookup
def zaV:=@List.length_set
def zaX:=@List.mem_of_getElem?
def zaY:=@Array.length_toList
def zaZ:=@List.cons_append
def za0:=@List.map_nil
def za1:=@Prod.mk.injEq
def za6:=@List.length_eq_zero_iff
def za8:=@PySem.W.mg_of
def za9:=@Int.emod_nonneg
def zba:=@Int.emod_lt_of_pos
def zbb:=@List.nodup_cons
def zbd:=@List.length_range
def zbe:=@List.mem_append_left
def zbf:=@List.mem_append_right
def zbg:=@List.getD_eq_getElem?_getD
def zbh:=@Nat.zero_le
def zbi:=@Bool.and_self
def zbj:=@List.getElem?_eq_none
def zbk:=@Bool.and_eq_true
def zbl:=@Bool.false_ne_true
def zbm:=@List.find?_cons
def zbn:=@List.mem_range
def zbo:=@List.append_nil
def zbr:=@Heap.size_push
def zbv:=@wpAny_truthy_bool
def zbw:=@wpAny_callSpecial?_slot
def zby:=@List.mem_filter
def zbD:=@List.getElem?_append_right
def zbI:=@List.drop_eq_getElem_cons
def zbK:=@beq_eq_false_iff_ne
def zbM:=@wpAny_holding
def zbQ:=@Bool.and_true
def zbR:=@Bool.and_false
abbrev zbS:=PySem.W.Frag
end
namespace PySem.W.Fast
def tw10017754456619859142:=0
def tw10031791106814280739:=0
def tw10078560920611444400:=0
def tw1019197401665841949:=0
def tw1023112258803564570:=0
def tw10241436440879902406:=0
def tw10302864956715022758:=0
def tw10586149962497961770:=0
def tw10654506121573554285:=0
def tw10765242722221565503:=0
def tw10888735512058811743:=0
def tw11119660038339991514:=0
def tw11294820638853698636:=0
def tw11309425354111289489:=0
def tw1137207559496201837:=0
def tw11435873557825354586:=0
def tw11631374831233154420:=0
def tw11659840636941116817:=0
def tw11693658238540945104:=0
def tw11766891003074831139:=0
def tw11900309959960484968:=0
def tw11997496624231182959:=0
def tw12058813694630471076:=0
def tw12286326547782216426:=0
def tw12297645302010376286:=0
def tw12320711807170910182:=0
def tw12323420471746923182:=0
def tw12375109598931589482:=0
def tw1249558962166719181:=0
def tw12506048331916894383:=0
def tw12523702167380973135:=0
def tw12559916768443340397:=0
def tw1260729618839658370:=0
def tw12708721708502422495:=0
def tw12852449940119231183:=0
def tw1286586105394897241:=0
def tw12881470921078910474:=0
def tw12881693549401274645:=0
def tw12970819167288101694:=0
def tw12974146464719250119:=0
def tw13059230731331557548:=0
def tw13065080554464095257:=0
def tw13135969981664312030:=0
def tw13152320388957824840:=0
def tw13235162835602627323:=0
def tw13268279130982537274:=0
def tw13467115452237374236:=0
def tw13521242165380232711:=0
def tw13543519766218437345:=0
def tw13601130930523996637:=0
def tw13671392358489426297:=0
def tw13676064994761418785:=0
def tw13682452206647641835:=0
def tw13783787556845414876:=0
def tw13968147209579382833:=0
def tw14041160907813492681:=0
def tw14094071954795139451:=0
def tw14101712521250263286:=0
def tw14160166472124814488:=0
def tw1424721294443820076:=0
def tw14280986153660382336:=0
def tw1435605632155124005:=0
def tw14456735298552824287:=0
def tw14598282691402829398:=0
def tw14647671163943921900:=0
def tw14676887817069695873:=0
def tw14909574296623571799:=0
def tw14912071042288426267:=0
def tw1496768011353288645:=0
def tw14975337882025600449:=0
def tw15052063397215537356:=0
def tw1513349270786175765:=0
def tw1516026383899145552:=0
def tw15231883811476609543:=0
def tw15242977661003015815:=0
def tw15250228222234578954:=0
def tw15256575950766264838:=0
def tw1528232767080500817:=0
def tw15434636103040833027:=0
def tw15474807960785932568:=0
def tw15657508721627595597:=0
def tw1570687867192207782:=0
def tw15876831593101417524:=0
def tw16029966311770994760:=0
def tw16095503309716836081:=0
def tw16371980403814162233:=0
def tw16504833376811311958:=0
def tw16518245558873442116:=0
def tw16575170682410749603:=0
def tw16620971214458138920:=0
def tw16643225559229854014:=0
def tw16712081453098712365:=0
def tw16731292543455727938:=0
def tw16851522270517943177:=0
def tw16871239642418756388:=0
def tw16943320327522732289:=0
def tw16944448175110654601:=0
def tw17026719961757093073:=0
def tw1707899927678973091:=0
def tw17083340108255639212:=0
def tw17356134668520390784:=0
def tw17487515850313361096:=0
def tw17514721967640690941:=0
def tw17528456195275704912:=0
def tw17549720451402324489:=0
def tw1762897351830479249:=0
def tw17686534351053563713:=0
def tw17688618347498923167:=0
def tw18073328421575477553:=0
def tw18150852834655562811:=0
def tw18239255384082396098:=0
def tw18258975702659046701:=0
def tw18325589097481561112:=0
def tw188600504666205162:=0
def tw1938922792525272693:=0
def tw1960263952271647360:=0
def tw2059213791555554734:=0
def tw2199311148189886724:=0
def tw2204389793418396743:=0
def tw2229867038144823260:=0
def tw2398212654008281870:=0
def tw2517351140841556483:=0
def tw257115725586111477:=0
def tw2636098229938666737:=0
def tw2727255091432680479:=0
def tw2767390421637028428:=0
def tw2788926158542475935:=0
def tw2808344473181111021:=0
def tw2930151612368886610:=0
def tw2981970967148329498:=0
def tw3071558498849881527:=0
def tw3201161725683120459:=0
def tw3228240946765931327:=0
def tw340637707312052344:=0
def tw344333166936421176:=0
def tw3550415348346973317:=0
def tw3766478819421997405:=0
def tw3808835801356141452:=0
def tw4209314558615618699:=0
def tw4288491141692883391:=0
def tw4436180748827146389:=0
def tw4497899840757646756:=0
def tw4535560373446173800:=0
def tw4606671958188532207:=0
def tw4746908623926259300:=0
def tw5004748818257433248:=0
def tw5457924908631505154:=0
def tw5585816590660893698:=0
def tw5631659367139439116:=0
def tw5992820008128882131:=0
def tw6057956086579130248:=0
def tw6080094463327168667:=0
def tw611321611207033992:=0
def tw6311499563020568903:=0
def tw6442578813195049902:=0
def tw6669701343375191577:=0
def tw6721267568645747186:=0
def tw6939271312015982386:=0
def tw7020338174664175866:=0
def tw7109853003380127015:=0
def tw7350865028685944171:=0
def tw7459548624085300077:=0
def tw7476304682290068546:=0
def tw7536662111901865572:=0
def tw7635320060966289671:=0
def tw7652870648006508066:=0
def tw7697805654504099436:=0
def tw7772299892815885793:=0
def tw7783847215127305283:=0
def tw7918405242183613344:=0
def tw7959565497958525184:=0
def tw8029546145239161333:=0
def tw8099425142811743599:=0
def tw8140791583309860535:=0
def tw8181872486676184927:=0
def tw8301830956077001061:=0
def tw8334119684131888260:=0
def tw8353727484938736730:=0
def tw8446697976512165121:=0
def tw8486971311530214355:=0
def tw8508727939188175112:=0
def tw8552776636036668225:=0
def tw8711156026353903330:=0
def tw8832934299984455433:=0
def tw8885673481116807533:=0
def tw8968582389474208968:=0
def tw9087163018462897261:=0
def tw9109804115878961261:=0
def tw9307439266142006017:=0
def tw9310436121298122477:=0
def tw937032460135365785:=0
def tw9376079088383183959:=0
def tw9467984693840815886:=0
def tw9601904222580111185:=0
def tw9712098019084002199:=0
def tw9719754058414965491:=0
def tw986331582073511261:=0
def tw9924366231105388472:=0
def tw9930410424782199517:=0
def tw9940232155166540856:=0
end PySem.W.Fast
namespace L2
variable{w:World}{A:Around}{E Q:Value->Shared->Prop}{s s':Shared}{a b it dx C f:Addr}{u:Value}{h h' base:Heap}{P:Program}{x qual:Str}{e c tg:Expr}{ρ:List (Addr×Obj)}{g':Array GenState}{t' i j k n:Nat}{d':Drawn}{ch fp:List Addr}{N ps:List Str}{M:Model}{pos p:Pos}{K:zbS}{es:List Expr}{body:List Stmt}{g:Int->Int->Int}{op op':CmpOp}{us:List Value}{mA mg:Str->Option Value}{fd:FuncData}{scope:Scope}
open PySem PySem.Spec PyProof.Rows
abbrev Key:=Sum Int Str
def jJ:Key->Value->Bool
 |.inl k,v=>Value.isInt k v
 |.inr x,v=>Value.isStrOf x v
def J3(w:World):Key->Int
 |.inl k=>hashInt k
 |.inr x=>hashStr w x
def br:∀{k:Key} {v:Value},jJ k v=true->(∃i t,k=Sum.inl i/\v=Value.int i t)\/(∃x t,k=Sum.inr x/\v=Value.str x t)
 |.inl i,v,h=>by
  obtain⟨t,e⟩:=Value.isInt_shape (k:=i) (v:=v) h;exact .inl ⟨i,t,rfl,e⟩
 |.inr x,v,h=>by
  obtain⟨t,e⟩:=Value.isStrOf_shape (x:=x) (v:=v) h;exact .inr ⟨x,t,rfl,e⟩
def zb(i:Int)(t:Tok):jJ (.inl i) (.int i t)=true:=by simp[jJ,Value.isInt]
def y9(x:Str)(t:Tok):jJ (.inr x) (.str x t)=true:=by simp[jJ,Value.isStrOf]
def y8(a b:Int):decide ((Sum.inl a:Key)=Sum.inl b)=(a==b):=by
 by_cases e:a=b
 ·subst e;simp
 ·have h:¬(Sum.inl a:Key)=Sum.inl b:=fun q=>e (Sum.inl.inj q);rw[zaA h];exact(zbK.mpr e).symm
def yX(a b:Str):decide ((Sum.inr a:Key)=Sum.inr b)=decide (a=b):=by
 by_cases e:a=b
 ·subst e;simp
 ·have h:¬(Sum.inr a:Key)=Sum.inr b:=fun q=>e (Sum.inr.inj q);rw[zaA h,zaA e]
def yZ(a:Int)(b:Str):decide ((Sum.inl a:Key)=Sum.inr b)=false:=zaA (fun q=>nomatch q)
def yY(a:Str)(b:Int):decide ((Sum.inr a:Key)=Sum.inl b)=false:=zaA (fun q=>nomatch q)
def bT(prog:Program)(w:World):PySem.KeyKind prog w Key where
 is:=jJ
 hash:=J3 w
 inj:=fun v a b ha hb=>by
  rcases br ha with⟨i,t,rfl,rfl⟩|⟨x,t,rfl,rfl⟩
  ·rcases br hb with⟨j,u,rfl,e⟩|⟨y,u,rfl,e⟩
   ·injection e with e1 _;rw[e1]
   ·exact nomatch e
  ·rcases br hb with⟨j,u,rfl,e⟩|⟨y,u,rfl,e⟩
   ·exact nomatch e
   ·injection e with e1 _;rw[e1]
 byValue:=fun k v h=>by
  rcases br h with⟨i,t,rfl,rfl⟩|⟨x,t,rfl,rfl⟩<;>rfl
 pyHash:=fun hv h=>by
  rcases br hv with⟨i,t,rfl,rfl⟩|⟨x,t,rfl,rfl⟩
  ·exact wpAny_pyHash_int h
  ·exact wpAny_pyHash_str h
 eqBool:=fun hu hv h=>by
  rcases br hu with⟨i,t,rfl,rfl⟩|⟨x,t,rfl,rfl⟩
  ·rcases br hv with⟨j,u,rfl,rfl⟩|⟨y,u,rfl,rfl⟩
   ·rw[y8]at h;exact wpAny_eqBool_int h
   ·rw[yZ]at h;exact SeqAt.EqAt.int_str i t y u _ _ _ _ h
  ·rcases br hv with⟨j,u,rfl,rfl⟩|⟨y,u,rfl,rfl⟩
   ·rw[yY]at h;exact SeqAt.EqAt.str_int x t j u _ _ _ _ h
   ·rw[yX]at h;exact wpAny_eqBool_str h
 «strs»:=fun k x t v h=>by
  rcases br h with⟨i,u,rfl,e⟩|⟨y,u,rfl,e⟩
  ·exact nomatch e
  ·injection e with e1 _
   subst e1;cases v<;>rfl
def vF(prog:Program)(w:World)(i:Int)(t:Tok):(bT prog w).is (.inl i) (.int i t)=true:=zb i t
def vD(prog:Program)(w:World)(x:Str)(t:Tok):(bT prog w).is (.inr x) (.str x t)=true:=y9 x t
section
variable{prog:Program}   
def zr{Q:Int->Shared->Prop}(h:Q (reduceHash 0xFCA86420) { s with toks:=s.toks+1 }):wpAny (model prog w) A (pyHash .none) Q E s:=by
 have ty:s.TypeIs .none "NoneType":=rfl;show wpAny _ _ (pyHashByItsType .none) Q E s;refine PySem.W.pyHash_slot ty F.slot_NoneType_hash F.entry_NoneType_hash (F.args_NoneType_hash_1 _) (by decide) (.inl rfl) ?_;obtain⟨hp,g,d,tk,os⟩:=s;unfold Builtin.«NoneType.__hash__»
 wp_walk
 exact⟨_,_,rfl,h⟩
def Em:Option Key->Value->Bool
 |none,.none=>true
 |none,_=>false
 |some k,v=>jJ k v
def dJ{v:Value}(h:Em none v=true):v=.none:=by
 cases v<;>first|rfl|cases h
def gL(prog:Program)(w:World):PySem.KeyKind prog w (Option Key) where
 is:=Em
 hash:=fun k=>match k with
  |none=>reduceHash 0xFCA86420
  |some k=>J3 w k
 inj:=fun v a b ha hb=>by
  cases a with
  |none=>
   cases b with
   |none=>rfl
   |some k=>
    rw[dJ ha]at hb;cases k<;>cases hb
  |some k=>
   cases b with
   |none=>
    rw[dJ hb]at ha;cases k<;>cases ha
   |some j=>rw[(bT prog w).inj v k j ha hb]
 byValue:=fun k v h=>by
  cases k with
  |none=>rw[dJ h];rfl
  |some k=>exact(bT prog w).byValue k v h
 pyHash:=fun {A E s k v Q} hv h=>by
  cases k with
  |none=>rw[dJ hv];exact zr h
  |some k=>exact(bT prog w).pyHash (k:=k) hv h
 eqBool:=fun {A E s a b u v Q} hu hv h=>by
  cases a with
  |none=>
   rw[dJ hu];cases b with
   |none=>
    rw[dJ hv];unfold PySem.eqBool;exact zam (wpAny_rule (zaT (by simpa using h)))
   |some k=>
    have e:decide ((none:Option Key)=some k)=false:=rfl;rw[e]at h;rcases br hv with⟨i,t,rfl,rfl⟩|⟨x,t,rfl,rfl⟩
    ·exact SeqAt.EqAt.none_int i t _ _ _ _ h
    ·exact SeqAt.EqAt.none_str x t _ _ _ _ h
  |some k=>
   cases b with
   |none=>
    rw[dJ hv];have e:decide (some k=(none:Option Key))=false:=rfl;rw[e]at h;rcases br hu with⟨i,t,rfl,rfl⟩|⟨x,t,rfl,rfl⟩
    ·exact SeqAt.EqAt.int_none i t _ _ _ _ h
    ·exact SeqAt.EqAt.str_none x t _ _ _ _ h
   |some j=>
    refine(bT prog w).eqBool (a:=k) (b:=j) hu hv ?_;have e:decide (k=j)=decide (some k=some j):=by
     rw[decide_eq_decide];exact⟨fun z=>by rw[z],fun z=>zat z⟩
    rw[e];exact h
 «strs»:=fun k x t v h=>by
  cases k with
  |none=>cases h
  |some k=>exact(bT prog w).strs k x t v h
end
inductive V where
 |non|bl (b:Bool)|int (i:Int)|str (x:Str)|byt (b:Array UInt8)|flt (b:UInt64)|ref (a:Addr)|ty (n:String)
 deriving DecidableEq
variable{v y:V}{vs:List V}
def RelV:V->Value->Prop
 |.non,u=>u=Value.none
 |.bl b,u=>u=Value.bool b
 |.int i,u=>∃t,u=Value.int i t
 |.str x,u=>∃t,u=Value.str x t
 |.byt b,u=>∃t,u=Value.bytes b t
 |.flt b,u=>∃t,u=Value.float b t
 |.ref a,u=>u=Value.ref a
 |.ty n,u=>u=Value.type n
abbrev Vals:List V->List Value->Prop:=Paired RelV
def Vals.length{xs:List V}{us:List Value}(r:Vals xs us):xs.length=us.length:=Paired.length r
theorem Vals.get:∀{xs:List V} {us:List Value} {i:Nat} {x:V},Vals xs us->xs[i]?=some x->∃u,us[i]?=some u/\RelV x u
 |_,_,_,_,.nil,e=>by simp at e
 |_,_,0,_,.cons r _,e=>by simp at e;subst e;exact⟨_,rfl,r⟩
 |_,_,i+1,x,.cons _ t,e=>by
  obtain⟨u,h1,h2⟩:=Vals.get (i:=i) (x:=x) t (by simpa using e);exact⟨u,by simpa using h1,h2⟩
theorem Vals.append:∀{xs ys:List V} {us ws:List Value},Vals xs us->Vals ys ws->Vals (xs++ys) (us++ws)
 |_,_,_,_,.nil,s=>s
 |_,_,_,_,.cons r t,s=>.cons r (Vals.append t s)
theorem Vals.take:∀{xs:List V} {us:List Value} (n:Nat),Vals xs us->Vals (xs.take n) (us.take n)
 |_,_,0,_=>.nil
 |_,_,_+1,.nil=>.nil
 |_,_,n+1,.cons r t=>.cons r (Vals.take n t)
theorem Vals.drop:∀{xs:List V} {us:List Value} (n:Nat),Vals xs us->Vals (xs.drop n) (us.drop n)
 |_,_,0,r=>r
 |_,_,_+1,.nil=>.nil
 |_,_,n+1,.cons _ t=>Vals.drop n t
def RelO:Option V->Option Value->Prop
 |some v,some u=>RelV v u
 |none,none=>True
 |_,_=>False
def KV{κ:Type}:List (κ×V)->List (κ×Value)->Prop:=Paired fun(p:κ×V) (q:κ×Value)=>p.1=q.1/\RelV p.2 q.2
def kV:Key->V
 |.inl i=>.int i
 |.inr x=>.str x
def oV:Option Key->V
 |none=>.non
 |some k=>kV k
inductive HO where
 |lst (xs:List V)
 |tup (xs:List V)
 |dK (kvs:List (Key×V))|dT (kvs:List (List (Option Key)×V)) (ad:Addr->Prop)
 |set (S:Int->Bool) (n:Nat)
 |ins (C dx:Addr) (fs:List (Str×V))
 |own (x:Addr)
 |xd (fs:List (Str×V))
 |met (f x:Addr)
 |rng (lo hi:Int)
 |frz (o:Obj) (u:HO)
 |tbl (ps:Array Value)
 |ext (φ:Heap->Prop)
variable{o:HO}
abbrev Hp:=Addr->Option HO
variable{H H':Hp}
def upd(H:Hp)(a:Addr)(o:HO):Hp:=fun b=>if b=a then some o else H b
def aC:upd H a o a=some o:=by unfold upd;rw[if_pos rfl]
def aG(h:b≠a):upd H a o b=H b:=by unfold upd;rw[if_neg h]
def L3{u:HO}(h:H a=some o)(h':H b=some u)(d:o≠u):a≠b:=by
 intro e;subst e;rw[h]at h';exact d (zat h')
def bY(h:H a=some o)(h':H b=none):a≠b:=by
 intro e;subst e;rw[h]at h';cases h'
def IsTupN(h:Heap)(a:Addr)(its:Array Value):Prop:=∃o,h.get? a=some o/\o.cls=.type "tuple"/\∃n,o.data=.seq its n/\o.dict=none
def IsTupN.tup{h:Heap}{a:Addr}{its:Array Value}(x:IsTupN h a its):IsTup h a its:=by
 obtain⟨o,h1,h2,n,h3,_⟩:=x;exact⟨o,h1,h2,n,h3⟩
def IsTupN.lt{its:Array Value}(x:IsTupN h a its):a<h.objs.size:=zal x.choose_spec.1
def IsTupN.new(h:Heap)(its:Array Value):IsTupN (h.push { cls:=.type "tuple",data:=.seq its }) h.objs.size its:=⟨_,zan _ rfl,rfl,_,rfl,rfl⟩
section
variable(P:Program)(w:World)
def ObjOk(H:Hp)(h:Heap)(a:Addr):HO->Prop
 |.lst xs=>xs.length<=sizeLine/\∃(its:List Value) (n:Nat),Vals xs its/\h.get? a=some { cls:=.type "list",data:=.seq its.toArray n }
 |.tup xs=>xs.length<=sizeLine/\∃its:List Value,Vals xs its/\IsTupN h a its.toArray
 |.dK kvs=>kvs.length<=sizeLine/\(a==sysModules)=false/\∃vs,KV kvs vs/\h.DictOf (bT P w) a vs
 |.dT kvs ad=>kvs.length<=sizeLine/\(a==sysModules)=false/\∃xs:List (List (Option Key)×Addr×Value),
   Paired (fun(p:List (Option Key)×V) (q:List (Option Key)×Addr×Value)=>p.1=q.1/\(H q.2.1=some (.tup (p.1.map oV))/\ad q.2.1)/\RelV p.2 q.2.2) kvs xs /\
   ∃o es ep,h.get? a=some o/\o.ExactDict/\o.data=.dict es ep/\es.toList=xs.map (entryOfKey (tupleKind (gL P w)))/\(xs.map (·.1)).Nodup
 |.set S n=>h.SetOf (intKind P w) a S n
 |.ins C dx fs=>H dx=some (.own a)/\fs.length<=1000/\dx≠a/\h.get? a=some (PySem.W.instObj C dx) /\
   ∃mA,h.Ns1 dx mA/\(∀f,RelO (fs.lookup f) (mA f))/\PySem.Within mA (fs.map (·.1))
 |.own _=>∃o,h.get? a=some o
 |.xd fs=>∃mA,h.Ns1 a mA/\∀f,RelO (fs.lookup f) (mA f)
 |.rng lo hi=>∃t u v,h.get? a=some { cls:=.type "range",data:=.fields #[.int lo t,.int hi u,.int 1 v] }
 |.frz o u=>h.get? a=some o/\ObjOk H h a u
 |.tbl ps=>h.get? a=some { cls:=.none,data:=.fields ps }
 |.met f x=>h.get? a=some (PySem.W.methodObj (.ref f) (.ref x))
 |.ext φ=>φ h/\(∃o,h.get? a=some o)/\∀h1 h2:Heap,φ h1->(∀o,h1.get? a=some o->h2.get? a=some o)->φ h2
def HOk(H:Hp)(h:Heap):Prop:=∀a o,H a=some o->ObjOk P w H h a o
end
theorem ObjOk.lt(x:ObjOk P w H h a o):a<h.objs.size:=by
 cases o with
 |lst xs=>obtain⟨_,_,_,_,e⟩:=x;exact zal e
 |tup xs=>obtain⟨_,_,_,p⟩:=x;exact p.lt
 |dK kvs=>obtain⟨_,_,_,_,o,_,_,e,_⟩:=x;exact zal e
 |dT kvs ad=>obtain⟨_,_,_,_,o,_,_,e,_⟩:=x;exact zal e
 |set S n=>obtain⟨o,_,_,_,e,_⟩:=x;exact zal e
 |ins C dx fs=>obtain⟨_,_,_,e,_⟩:=x;exact zal e
 |own y=>obtain⟨_,e⟩:=x;exact zal e
 |xd fs=>obtain⟨_,⟨_,_,_,e,_⟩,_⟩:=x;exact zal e
 |rng lo hi=>obtain⟨_,_,_,e⟩:=x;exact zal e
 |frz ob u=>obtain⟨e,_⟩:=x;exact zal e
 |tbl ps=>exact zal (show h.get? a=some _ from x)
 |met f y=>exact zal (show h.get? a=some _ from x)
 |ext φ=>obtain⟨_,⟨_,e⟩,_⟩:=x;exact zal e
theorem Paired.mapP{α β:Type}{F G:α->β->Prop}:∀{l₁:List α} {l₂:List β},Paired F l₁ l₂->(∀a b,F a b->G a b)->Paired G l₁ l₂
 |_,_,.nil,_=>.nil
 |_,_,.cons r t,f=>.cons (f _ _ r) (Paired.mapP t f)
def ObjOk.stay(x:ObjOk P w H h a o)(k:∀b u,(b=a\/H b=some (.own a))->h.get? b=some u->h'.get? b=some u)
  (ho:∀b,H b=some (.own a)->H' b=some (.own a)) (ht:∀b xs,H b=some (.tup xs)->H' b=some (.tup xs)):ObjOk P w H' h' a o:=by
 induction o with
 |lst xs=>obtain⟨z,its,n,r,e⟩:=x;exact⟨z,its,n,r,k _ _ (.inl rfl) e⟩
 |tup xs=>obtain⟨z,its,r,ob,e,c⟩:=x;exact⟨z,its,r,ob,k _ _ (.inl rfl) e,c⟩
 |dK kvs=>obtain⟨z,y,vs,r,ob,es,ep,e,c⟩:=x;exact⟨z,y,vs,r,ob,es,ep,k _ _ (.inl rfl) e,c⟩
 |dT kvs ad=>
  obtain⟨z,y,xs,r,ob,es,ep,e,c⟩:=x;exact⟨z,y,xs,Paired.mapP r fun p q z=>⟨z.1,⟨ht _ _ z.2.1.1,z.2.1.2⟩,z.2.2⟩,ob,es,ep,k _ _ (.inl rfl) e,c⟩
 |set S n=>obtain⟨ob,es,ep,t,e,c⟩:=x;exact⟨ob,es,ep,t,k _ _ (.inl rfl) e,c⟩
 |ins C dx fs=>
  obtain⟨d,z,ne,e,mA,⟨od,es,ep,e2,c⟩,r⟩:=x;exact⟨ho _ d,z,ne,k _ _ (.inl rfl) e,mA,⟨od,es,ep,k _ _ (.inr d) e2,c⟩,r⟩
 |own y=>obtain⟨ob,e⟩:=x;exact⟨ob,k _ _ (.inl rfl) e⟩
 |xd fs=>obtain⟨mA,⟨od,es,ep,e,c⟩,r⟩:=x;exact⟨mA,⟨od,es,ep,k _ _ (.inl rfl) e,c⟩,r⟩
 |rng lo hi=>obtain⟨t,u,v,e⟩:=x;exact⟨t,u,v,k _ _ (.inl rfl) e⟩
 |frz ob u ih=>obtain⟨e,q⟩:=x;exact⟨k _ _ (.inl rfl) e,ih q⟩
 |tbl ps=>
  have e:h.get? a=some { cls:=.none,data:=.fields ps }:=x;show h'.get? a=some { cls:=.none,data:=.fields ps };exact k a _ (.inl rfl) e
 |met f y=>
  have e:h.get? a=some (PySem.W.methodObj (.ref f) (.ref y)):=x;show h'.get? a=some (PySem.W.methodObj (.ref f) (.ref y));exact k a _ (.inl rfl) e
 |ext φ=>obtain⟨p,⟨o,e⟩,st⟩:=x;exact⟨st _ _ p fun o q=>k _ _ (.inl rfl) q,⟨o,k _ _ (.inl rfl) e⟩,st⟩
def HOk.lt(x:HOk P w H h)(e:H a=some o):a<h.objs.size:=(x a o e).lt
def HOk.fresh(x:HOk P w H h)(e:h.objs.size<=a):H a=none:=by
 cases q:H a with
 |none=>rfl
 |some u=>exact absurd (zag (x.lt q) e) (zaI _)
def HOk.kept(x:HOk P w H h)(k:∀b u,h.get? b=some u->h'.get? b=some u):HOk P w H h':=fun a o e=>
 (x a o e).stay (fun b u _ q=>k b u q) (fun _ q=>q) fun _ _ q=>q
def HOk.laid(x:HOk P w H h)(k:∀b u,h.get? b=some u->h'.get? b=some u)(hp:h.objs.size<=a)(new:ObjOk P w (upd H a o) h' a o):HOk P w (upd H a o) h':=fun b u e=>by
 have hn:=x.fresh hp;by_cases hb:b=a
 ·subst hb;rw[aC]at e;cases e;exact new
 ·rw[aG hb]at e;exact(x b u e).stay (fun c v _ q=>k c v q) (fun c q=>by rw[aG (bY q hn)];exact q) fun c xs q=>by rw[aG (bY q hn)];exact q
def Rd(H:Hp)(a:Addr)(u:HO):Prop:=H a=some u\/∃o,H a=some (.frz o u)
def Rd.ok{u:HO}(r:Rd H a u)(x:HOk P w H h):ObjOk P w H h a u:=by
 rcases r with r|⟨o,r⟩
 ·exact x a u r
 ·obtain⟨_,q⟩:=x a _ r;exact q
def Mut:Option HO->Prop
 |some (.lst _)=>True
 |some (.dK _)=>True
 |some (.dT _ _)=>True
 |some (.set _ _)=>True
 |some (.ins _ _ _)=>True
 |some (.ext _)=>True
 |_=>False
section
variable{x e:Addr}{o':HO}
def HOk.write(ok:HOk P w H h)(mu:Mut (H x))(he:e=x\/H e=some (.own x))(k:∀b u,b≠e->h.get? b=some u->h'.get? b=some u)(heo:∃u,h'.get? e=some u)
  (new:ObjOk P w (upd H x o') h' x o'):HOk P w (upd H x o') h':=fun b u q=>by
 have nown:∀c y,H c=some (.own y)->c≠x:=fun c y r z=>by subst z;rw[r]at mu;exact mu
 have ntup:∀c xs,H c=some (.tup xs)->c≠x:=fun c xs r z=>by subst z;rw[r]at mu;exact mu
 by_cases hb:b=x
 ·subst hb;rw[aC]at q;cases q;exact new
 ·rw[aG hb]at q;by_cases hbe:b=e
  ·have q':H b=some (.own x):=by
    rcases he with z|z
    ·exact absurd (hbe.trans z) hb
    ·rw[hbe];exact z
   rw[q]at q';cases q';obtain⟨v,hv⟩:=heo;exact⟨v,by rw[hbe];exact hv⟩
  ·refine(ok b u q).stay (fun c v hc r=>k c v ?_ r) (fun c r=>by rw[aG (nown c b r)];exact r) fun c xs r=>by rw[aG (ntup c xs r)];exact r
   rcases hc with rfl|hc
   ·exact hbe
   ·rintro rfl;rcases he with z|z
    ·exact nown c b hc z
    ·rw[hc]at z;cases z;exact hb rfl
end
structure Un(fs ex:List Addr)(H H':Hp)(h h':Heap):Prop where
 keep:∀b o,h.get? b=some o->H b=none->b∉fs->b∉ex->h'.get? b=some o
 slot:∀b o,h.get? b=some o->H b=none->b∈fs->b∉ex->∃sl,h'.get? b=some { o with slots:=sl }
 free:∀b o,h.get? b=some o->H b=none->b∉ex->H' b=none
 there:∀b o,h.get? b=some o->b∉ex->∃o',h'.get? b=some o'
 tups:∀b xs,H b=some (.tup xs)->H' b=some (.tup xs)
 frzs:∀b o u,H b=some (.frz o u)->H' b=some (.frz o u)
 tbls:∀b ps,H b=some (.tbl ps)->∃more,H' b=some (.tbl (ps++more))
section
variable{fs fs' ex ex':List Addr}{H1 H2:Hp}{h1 h2:Heap}{x e:Addr} 
def Un.any(u:Un fs ex H H1 h h1){ob:Obj}(q:h.get? b=some ob)(n:H b=none)(hx:b∉ex):∃sl,h1.get? b=some { ob with slots:=sl }:=by
 by_cases hb:b∈fs
 ·exact u.slot b ob q n hb hx
 ·exact⟨ob.slots,u.keep b ob q n hb hx⟩
def Un.trans(a:Un fs ex H H1 h h1)(b:Un fs ex H1 H2 h1 h2):Un fs ex H H2 h h2 where
 keep:=fun c ob q n hc hx=>b.keep c ob (a.keep c ob q n hc hx) (a.free c ob q n hx) hc hx
 slot:=fun c ob q n hc hx=>by
  obtain⟨sl,e1⟩:=a.slot c ob q n hc hx;obtain⟨sl',e2⟩:=b.slot c _ e1 (a.free c ob q n hx) hc hx;exact⟨sl',e2⟩
 free:=fun c ob q n hx=>by
  obtain⟨o',e1⟩:=a.there c ob q hx;exact b.free c o' e1 (a.free c ob q n hx) hx
 there:=fun c ob q hx=>by
  obtain⟨o',e1⟩:=a.there c ob q hx;exact b.there c o' e1 hx
 tups:=fun c xs q=>b.tups c xs (a.tups c xs q)
 frzs:=fun c ob xs q=>b.frzs c ob xs (a.frzs c ob xs q)
 tbls:=fun c ps q=>by
  obtain⟨m1,e1⟩:=a.tbls c ps q;obtain⟨m2,e2⟩:=b.tbls c _ e1;exact⟨m1++m2,by rw[e2,Array.append_assoc]⟩
def Un.kept(k:∀b u,h.get? b=some u->h'.get? b=some u):Un fs ex H H h h':=
 ⟨fun b ob q _ _ _=>k b ob q,fun b ob q _ _ _=>⟨ob.slots,k b ob q⟩,fun _ _ _ n _=>n,fun b ob q _=>⟨ob,k b ob q⟩,fun _ _ q=>q,fun _ _ _ q=>q,fun _ ps q=>⟨#[],by rw[q];simp⟩⟩
def Un.refl:Un fs ex H H h h:=Un.kept fun _ _ q=>q
def Un.laid(k:∀b u,h.get? b=some u->h'.get? b=some u)(hp:h.objs.size<=a)(hn:H a=none):Un fs ex H (upd H a o) h h' where
 keep:=fun b u q _ _ _=>k b u q
 slot:=fun b u q _ _ _=>⟨u.slots,k b u q⟩
 free:=fun b u q n _=>by rw[aG (zaw (zag (zal q) hp))];exact n
 there:=fun b u q _=>⟨u,k b u q⟩
 tups:=fun b xs q=>by rw[aG (bY q hn)];exact q
 frzs:=fun b u xs q=>by rw[aG (bY q hn)];exact q
 tbls:=fun b ps q=>⟨#[],by rw[aG (bY q hn),q];simp⟩
def Un.write(mu:Mut (H x))(he:e=x\/H e=some (.own x))(k:∀b u,b≠e->h.get? b=some u->h'.get? b=some u)(heo:∃u,h'.get? e=some u):Un fs ex H (upd H x o) h h':=by
 have hx:∀b,H b=none->b≠x:=fun b n z=>by subst z;rw[n]at mu;exact mu
 have hb:∀b,H b=none->b≠e:=fun b n z=>by
  subst z;rcases he with r|r
  ·exact hx b n r
  ·rw[n]at r;cases r
 have hm:∀b u,H b=some u->¬Mut (some u)->b≠x:=fun b u q nm z=>by subst z;rw[q]at mu;exact nm mu
 refine⟨fun b u q n _ _=>k b u (hb b n) q,fun b u q n _ _=>⟨u.slots,k b u (hb b n) q⟩,fun b u q n _=>by rw[aG (hx b n)];exact n,fun b u q _=>?_,
  fun b xs q=>by rw[aG (hm b _ q fun z=>z)];exact q,fun b u xs q=>by rw[aG (hm b _ q fun z=>z)];exact q,fun b ps q=>⟨#[],by rw[aG (hm b _ q fun z=>z),q];simp⟩⟩
 by_cases hbe:b=e
 ·subst hbe;exact heo
 ·exact⟨u,k b u hbe q⟩
end
def trk(h:Heap)(H:Hp):List Addr:=(List.range h.objs.size).filter fun a=>(H a).isSome
def ka(h:Heap)(H:Hp):Heap:=PySem.W.hideAll h (trk h H)
def zq(h:Heap)(H:Hp):(ka h H).objs.size=h.objs.size:=PySem.W.hideAll_size _ _
def uI{o:Obj}(e:h.get? b=some o)(n:H b=none):(ka h H).get? b=some o:=
 PySem.W.hideAll_get _ e fun hm=>by
  have q:(H b).isSome=true:=(zby.mp hm).2;rw[n]at q;simp at q
def wc{o:Obj}(e:(ka h H).get? b=some o):h.get? b=some o/\H b=none:=by
 have e':h.get? b=some o:=PySem.W.of_hideAll (trk h H) e;refine⟨e',?_⟩;cases q:H b with
 |none=>rfl
 |some x=>
  have hm:b∈trk h H:=zby.mpr ⟨zbn.mpr (zal e'),by simp[q]⟩;have z:(ka h H).get? b=none:=PySem.W.hideAll_none (trk h H) hm;rw[z]at e;cases e
def GR(g h:Heap)(L:Addr):List (Addr×Obj):=(List.range h.objs.size).filterMap fun a=>if a=L\/(g.get? a).isSome=true then none else(h.get? a).map fun o=>(a,o)
def rest(g h:Heap)(L d:Addr):List (Addr×Obj):=(GR g h L).filter fun p=>decide (p.1≠d)
structure Mod(K:zbS)(mg:Str->Option Value)(base:Heap):Prop where
 kin:K.In base
 glob:base.Ns mainGlobals mg
 blt:∃mb,base.Ns builtinsNs mb/\∀x:Str,x≠"__name__"->mb x=bootBuiltins x
 nolimit:base.NoLimit
 mods:∃mm,base.Ns sysModules mm
structure Cx where
 prog:Program
 w:World
 K:zbS
 mg:Str->Option Value
 base:Heap
 A:Around
 N:List Str
 s₀:Shared
 H₀:Hp
 env:Env
 outer:List Env
 stack:List Env
 ex:List Addr
 fn:Str->Bool
 calm:Bool
 pn:List (Addr×Obj)
 xe:Value->Shared->Prop
variable{X:Cx}
def frs(l:List Env):List Addr:=l.filterMap (·.frame)
abbrev Cx.fs(X:Cx):List Addr:=frs X.outer
def Vis(sc:Scope)(x:Str):Prop:=sc.names.lookup x=some .local\/sc.names.lookup x=some .cell\/sc.names.lookup x=some .free
def Loc(sc:Scope)(x:Str):Prop:=sc.names.lookup x=some .local\/sc.names.lookup x=some .cell
def Lp(env:Env)(h:Heap)(m:Str->Option Value)(x:Str)(u:Value):Prop:=
 (env.kindOf x=some .local/\m x=some u)\/((env.kindOf x=some .cell\/env.kindOf x=some .free)/\∃c,env.cells.lookup x=some c/\h.IsCell c (some u))
structure Cx.Ok(X:Cx):Prop where
 mod:Mod X.K X.mg X.base
 kind:X.env.scope.kind=.function
 glob:X.env.globals=mainGlobals
 blt:X.env.builtins=builtinsNs
 above:X.s₀.heap.objs.size<=X.env.locals
 inj:∀x y c,X.env.cells.lookup x=some c->X.env.cells.lookup y=some c->x=y
 has:∀x,(X.env.kindOf x=some .cell\/X.env.kindOf x=some .free)->∃c,X.env.cells.lookup x=some c
 cab:∀x c,X.fn x=true->X.env.cells.lookup x=some c->X.s₀.heap.objs.size<=c
 hd:X.calm=true->X.A.handled=none
 frames:X.A.frames=some X.stack
 stk:X.stack=X.outer\/(X.stack=X.env::X.outer/\X.env.frame=some X.env.locals)
 exf:∀b∈X.ex,b≠X.env.locals/\∀x c,X.env.cells.lookup x=some c->c≠b
 bs:∀b o,X.base.get? b=some o->X.s₀.heap.get? b=some o/\X.H₀ b=none
 bsz:X.base.objs.size<=X.s₀.heap.objs.size
 noex:∀b o,X.base.get? b=some o->b∉X.ex
 exfs:∀b∈X.ex,b∉X.fs
 funs:X.s₀.heap.FunFrames X.base X.outer
 frf:∀b∈X.fs,X.H₀ b=none
structure Inv(X:Cx)(ρ:List (Addr×Obj))(σ:List (Option V))(H:Hp)(s:Shared):Prop where
 ok:X.Ok
 os:s.os=X.s₀.os
 bare:AllBare s.gens
 base:Un X.fs X.ex X.H₀ H X.s₀.heap s.heap
 loc:∃m,s.heap.Ns X.env.locals m/\∀(i:Nat) (x:Str) (v:V),X.N[i]?=some x->σ[i]?=some (some v)->Vis X.env.scope x->∃u,RelV v u/\Lp X.env s.heap m x u
 cell:∀x c,X.env.cells.lookup x=some c->∃v,s.heap.IsCell c v
 free:H X.env.locals=none
 freeC:∀x c,X.env.cells.lookup x=some c->H c=none
 pin:∀p∈X.pn++ρ,s.heap.get? p.1=some p.2/\H p.1=none/\p.1≠X.env.locals/\p.1∉X.fs/\∀v,p.2.data≠.cell v
 hok:HOk X.prog X.w H s.heap
 len:σ.length=X.N.length
section
variable{σ:List (Option V)}  
def Cx.Ok.nofr(ok:X.Ok){o:Obj}(e:X.base.get? b=some o):b∉X.fs:=fun hb=>by
 have:=(ok.funs.mem hb).1;rw[e]at this;cases this
def Inv.bs(I:Inv X ρ σ H s):∀b o,X.base.get? b=some o->s.heap.get? b=some o/\H b=none:=fun b o e=>
 ⟨I.base.keep b o (I.ok.bs b o e).1 (I.ok.bs b o e).2 (I.ok.nofr e) (I.ok.noex b o e),I.base.free b o (I.ok.bs b o e).1 (I.ok.bs b o e).2 (I.ok.noex b o e)⟩
def Inv.bk(I:Inv X ρ σ H s):∀b o,X.base.get? b=some o->s.heap.get? b=some o:=fun b o e=>(I.bs b o e).1
def Inv.mod(I:Inv X ρ σ H s):Mod X.K X.mg X.base:=I.ok.mod
def Inv.kIn(I:Inv X ρ σ H s):X.K.In s.heap:=I.ok.mod.kin.keeps I.bk
def Inv.lt(I:Inv X ρ σ H s):X.env.locals<s.heap.objs.size:=let⟨_,hn,_⟩:=I.loc;hn.lt
def Inv.sz(I:Inv X ρ σ H s):X.s₀.heap.objs.size<=s.heap.objs.size:=zau I.ok.above (Nat.le_of_lt I.lt)
def Inv.nofs(I:Inv X ρ σ H s)(h:s.heap.objs.size<=a):a∉X.fs:=fun hb=>by
 obtain⟨_,o,ho,_⟩:=I.ok.funs.mem hb;exact absurd (zag (zal ho) (zau I.sz h)) (zaI _)
def Inv.cne(I:Inv X ρ σ H s):∀x c,X.env.cells.lookup x=some c->c≠X.env.locals:=fun x c e z=>by
 obtain⟨v,o,ho,hd⟩:=I.cell x c e;obtain⟨m,⟨o',es,ep,ho',hd',_⟩,_⟩:=I.loc;rw[z,ho']at ho;cases ho;rw[hd']at hd;cases hd
theorem Inv.funs(I:Inv X ρ σ H s):s.heap.FunFrames X.base X.outer:=by
 have all:∀(l:List Env),(∀b∈frs l,b∈X.fs)->X.s₀.heap.FunFrames X.base l->s.heap.FunFrames X.base l:=by
  intro l
  induction l with
  |nil=>intro _ _;trivial
  |cons env r ih=>
   intro hs hl;obtain⟨hk,⟨L,o,hf,hn,ho,hd⟩,hr⟩:=hl;have hL:L∈X.fs:=hs L (by unfold frs;rw[List.filterMap_cons,hf];exact zaq);obtain⟨sl,e⟩:=I.base.slot L o ho (I.ok.frf L hL) hL fun z=>I.ok.exfs L z hL;exact⟨hk,⟨L,_,hf,hn,e,hd⟩,ih (fun b hb=>hs b (by unfold frs;rw[List.filterMap_cons,hf];exact zaj _ hb)) hr⟩
 exact all X.outer (fun _ hb=>hb) I.ok.funs
def Inv.stack(I:Inv X ρ σ H s):s.heap.FunFrames X.base X.stack:=by
 rcases I.ok.stk with e|⟨e,hf⟩
 ·rw[e];exact I.funs
 ·rw[e];obtain⟨m,hn,_⟩:=I.loc;refine .cons (by rw[I.ok.kind];decide) hf hn ?_ I.funs;exact Heap.get?_none_of_le (zau I.ok.bsz I.ok.above)
def Inv.stkSub(I:Inv X ρ σ H s):∀b∈frs X.stack,b∈X.env.locals::X.fs:=fun b hb=>by
 rcases I.ok.stk with e|⟨e,hf⟩
 ·rw[e]at hb;exact zaj _ hb
 ·rw[e]at hb;unfold frs at hb;rw[List.filterMap_cons,hf]at hb;exact hb
def Inv.stkFree(I:Inv X ρ σ H s):∀b∈frs X.stack,H b=none:=fun b hb=>by
 rcases zay.mp (I.stkSub b hb)with e|hb
 ·rw[e];exact I.free
 ·obtain⟨_,o,ho,_⟩:=I.ok.funs.mem hb;exact I.base.free b o ho (I.ok.frf b hb) fun z=>I.ok.exfs b z hb
def Inv.step(I:Inv X ρ σ H s)
  (hch:∀b∈ch,(b∈X.ex\/X.s₀.heap.objs.size<=b)/\b≠X.env.locals/\(∀x c,X.env.cells.lookup x=some c->c≠b)/\∀p∈X.pn++ρ,p.1≠b)
  (keep:∀b o,b≠X.env.locals->b∉X.fs->b∉ch->s.heap.get? b=some o->H b=none->h'.get? b=some o)
  (slot:∀b o,b≠X.env.locals->b∈X.fs->b∉ch->s.heap.get? b=some o->H b=none->∃sl,h'.get? b=some { o with slots:=sl }) (free:∀b o,b∉ch->s.heap.get? b=some o->H b=none->H' b=none)
  (there:∀b o,b∉ch->s.heap.get? b=some o->∃o',h'.get? b=some o')
  (tups:∀b xs,H b=some (.tup xs)->H' b=some (.tup xs)) (frzs:∀b o u,H b=some (.frz o u)->H' b=some (.frz o u)) (tbls:∀b ps,H b=some (.tbl ps)->∃more,H' b=some (.tbl (ps++more)))
  (ns:∀m,s.heap.Ns X.env.locals m->h'.Ns X.env.locals m) (hok:HOk X.prog X.w H' h') (hg:AllBare g'):
  Inv X ρ σ H' { s with heap:=h',gens:=g',drawn:=d',toks:=t' }:=by
 have neL:∀b o,X.s₀.heap.get? b=some o->b≠X.env.locals:=fun b o e=>zaw (zag (zal e) I.ok.above);have neC:∀b o,X.s₀.heap.get? b=some o->b∉X.ex->b∉ch:=fun b o e hx hb=>by
  rcases(hch b hb).1 with z|z
  ·exact hx z
  ·exact absurd (zag (zal e) z) (zaI _)
 have cellK:∀x c,X.env.cells.lookup x=some c->∀v,s.heap.IsCell c v->h'.IsCell c v:=fun x c e v ⟨o,ho,hd⟩=>by
  have nch:c∉ch:=fun z=>(hch c z).2.2.1 x c e rfl;by_cases hc:c∈X.fs
  ·obtain⟨sl,q⟩:=slot c o (I.cne x c e) hc nch ho (I.freeC x c e);exact⟨_,q,hd⟩
  ·exact⟨o,keep c o (I.cne x c e) hc nch ho (I.freeC x c e),hd⟩
 refine⟨I.ok,I.os,hg,⟨fun b o e n hb hx=>?_,fun b o e n hb hx=>?_,fun b o e n hx=>?_,fun b o e hx=>?_,fun b xs e=>tups b xs (I.base.tups b xs e),fun b o xs e=>frzs b o xs (I.base.frzs b o xs e),fun b ps e=>?_⟩,?_,fun x c e=>?_,?_,fun x c e=>?_,fun p hp=>?_,hok,I.len⟩
 ·exact keep b o (neL b o e) hb (neC b o e hx) (I.base.keep b o e n hb hx) (I.base.free b o e n hx)
 ·obtain⟨sl,e1⟩:=I.base.slot b o e n hb hx;obtain⟨sl',e2⟩:=slot b _ (neL b o e) hb (neC b o e hx) e1 (I.base.free b o e n hx);exact⟨sl',e2⟩
 ·obtain⟨o',e1⟩:=I.base.there b o e hx;exact free b o' (neC b o e hx) e1 (I.base.free b o e n hx)
 ·obtain⟨o',e1⟩:=I.base.there b o e hx;exact there b o' (neC b o e hx) e1
 ·obtain⟨m1,e1⟩:=I.base.tbls b ps e;obtain⟨m2,e2⟩:=tbls b _ e1;exact⟨m1++m2,by rw[e2,Array.append_assoc]⟩
 ·obtain⟨m,hn,hl⟩:=I.loc;refine⟨m,ns m hn,fun i x v e1 e2 e3=>?_⟩;obtain⟨u,r,l⟩:=hl i x v e1 e2 e3;refine⟨u,r,?_⟩;rcases l with l|⟨k,c,e,z⟩
  ·exact .inl l
  ·exact .inr ⟨k,c,e,cellK x c e _ z⟩
 ·obtain⟨v,z⟩:=I.cell x c e;exact⟨v,cellK x c e v z⟩
 ·obtain⟨m,⟨o,_,_,ho,_⟩,_⟩:=I.loc;exact free _ o (fun z=>(hch _ z).2.1 rfl) ho I.free
 ·obtain⟨v,o,ho,hd⟩:=I.cell x c e;exact free c o (fun z=>(hch c z).2.2.1 x c e rfl) ho (I.freeC x c e)
 ·obtain⟨e,n,ne,nf,d⟩:=I.pin p hp;have nch:p.1∉ch:=fun z=>(hch p.1 z).2.2.2 p hp rfl;exact⟨keep p.1 p.2 ne nf nch e n,free p.1 p.2 nch e n,ne,nf,d⟩
def Inv.un(I:Inv X ρ σ H s)(u:Un X.fs [] H H' s.heap h')(hok:HOk X.prog X.w H' h'):Inv X ρ σ H' { s with heap:=h',toks:=t' }:=by
 obtain⟨m,⟨o,es,ep,ho,r⟩,_⟩:=id I.loc;obtain⟨sl,hL⟩:=u.any ho I.free (by simp);exact I.step (g':=s.gens) (d':=s.drawn) (ch:=[]) (fun _ z=>nomatch z) (fun b o _ hb _ e n=>u.keep b o e n hb (by simp)) (fun b o _ hb _ e n=>u.slot b o e n hb (by simp)) (fun b o _ e n=>u.free b o e n (by simp)) (fun b o _ e=>u.there b o e (by simp)) u.tups u.frzs u.tbls (fun m' hm=>by
  obtain⟨o',es',ep',ho',r'⟩:=hm;rw[ho]at ho';cases ho';exact⟨_,es',ep',hL,r'⟩) hok I.bare
def Inv.call(I:Inv X ρ σ H s)(u:Un (frs X.stack) ch H H' s.heap h')(hok:HOk X.prog X.w H' h')(hg:AllBare g')
  (hch:∀b∈ch,(b∈X.ex\/X.s₀.heap.objs.size<=b)/\b≠X.env.locals/\(∀x c,X.env.cells.lookup x=some c->c≠b)/\∀p∈X.pn++ρ,p.1≠b):
  Inv X ρ σ H' { s with heap:=h',gens:=g',drawn:=d',toks:=t' }:=by
 obtain⟨m,⟨o,es,ep,ho,r⟩,_⟩:=id I.loc;obtain⟨sl,hL⟩:=u.any ho I.free fun z=>(hch _ z).2.1 rfl;exact I.step (ch:=ch) hch (fun b o hL hb hc e n=>u.keep b o e n (fun z=>(zay.mp (I.stkSub b z)).elim hL hb) hc) (fun b o _ _ hc e n=>u.any e n hc) (fun b o hc e n=>u.free b o e n hc) (fun b o hc e=>u.there b o e hc) u.tups u.frzs u.tbls (fun m' hm=>by
  obtain⟨o',es',ep',ho',r'⟩:=hm;rw[ho]at ho';cases ho';exact⟨_,es',ep',hL,r'⟩) hok hg
def Inv.turned(I:Inv X ρ σ H s)(k:∀b o,b≠it->s.heap.get? b=some o->h'.get? b=some o)(hn:H it=none)(hL:it≠X.env.locals)
  (h1:it∈X.ex\/X.s₀.heap.objs.size<=it) (h2:∀x c,X.env.cells.lookup x=some c->c≠it) (h3:∀p∈X.pn++ρ,p.1≠it):Inv X ρ σ H { s with heap:=h',toks:=t' }:=by
 have nit:∀b u,H b=some u->b≠it:=fun b u e z=>by rw[z,hn]at e;cases e
 refine I.step (g':=s.gens) (d':=s.drawn) (ch:=[it]) (fun b hb=>?_) (fun b o _ _ hc e _=>k b o (fun z=>hc (by simp[z])) e) (fun b o _ _ hc e _=>⟨o.slots,k b o (fun z=>hc (by simp[z])) e⟩) (fun _ _ _ _ n=>n)
  (fun b o hc e=>⟨o,k b o (fun z=>hc (by simp[z])) e⟩) (fun _ _ e=>e) (fun _ _ _ e=>e) (fun b ps e=>⟨#[],by rw[e];simp⟩) (fun m hm=>?_) (fun b u e=>?_) I.bare
 ·have e:b=it:=by simpa using hb
  subst e;exact⟨h1,hL,h2,h3⟩
 ·obtain⟨o,es,ep,ho,r⟩:=hm;exact⟨o,es,ep,k _ o (Ne.symm hL) ho,r⟩
 ·refine(I.hok b u e).stay (fun c v hc q=>k c v ?_ q) (fun _ q=>q) fun _ _ q=>q;rcases hc with z|z
  ·rw[z];exact nit b u e
  ·exact nit c _ z
def Inv.tok(I:Inv X ρ σ H s)(t:Nat):Inv X ρ σ H { s with toks:=t }:=I.un (h':=s.heap) (t':=t) Un.refl I.hok
def Inv.kept{t':Nat}(I:Inv X ρ σ H s)(k:∀b u,s.heap.get? b=some u->h'.get? b=some u):Inv X ρ σ H { s with heap:=h',toks:=t' }:=I.un (Un.kept k) (I.hok.kept k)
def Inv.laid{a:Addr}{o:HO}{t':Nat}(I:Inv X ρ σ H s)(k:∀b u,s.heap.get? b=some u->h'.get? b=some u)(hp:s.heap.objs.size<=a)(new:ObjOk X.prog X.w (upd H a o) h' a o):
  Inv X ρ σ (upd H a o) { s with heap:=h',toks:=t' }:=I.un (Un.laid k hp (I.hok.fresh hp)) (I.hok.laid k hp new)
def Inv.write{x e:Addr}{o:HO}{t':Nat}(I:Inv X ρ σ H s)(mu:Mut (H x))(he:e=x\/H e=some (.own x))(k:∀b u,b≠e->s.heap.get? b=some u->h'.get? b=some u)(heo:∃u,h'.get? e=some u)
  (new:ObjOk X.prog X.w (upd H x o) h' x o):Inv X ρ σ (upd H x o) { s with heap:=h',toks:=t' }:=I.un (Un.write mu he k heo) (I.hok.write mu he k heo new)
def Inv.pins_of{pins':List (Addr×Obj)}(I:Inv X ρ σ H s)(h:∀p∈pins',s.heap.get? p.1=some p.2/\H p.1=none/\p.1≠X.env.locals/\p.1∉X.fs/\∀v,p.2.data≠.cell v):Inv X pins' σ H s:=
 ⟨I.ok,I.os,I.bare,I.base,I.loc,I.cell,I.free,I.freeC,fun p hp=>(zax.mp hp).elim (fun z=>I.pin p (zbe _ z)) (h p),I.hok,I.len⟩
def pf(hN:N.Nodup)(a:N[i]?=some x)(b:N[j]?=some x):i=j:=by
 obtain⟨h1,e1⟩:=zah.mp a;obtain⟨h2,e2⟩:=zah.mp b;exact(List.getElem_inj hN).mp (e1.trans e2.symm)
def ms{Q:Unit->Shared->Prop}(I:Inv X ρ σ H s)(hN:X.N.Nodup)(hi:X.N[i]?=some x)(hx:Loc X.env.scope x)(r:RelV v u)
  (h:∀s',Inv X ρ (σ.set i (some v)) H s'->(∃a,Heap.SameBut a s.heap s'.heap/\(a=X.env.locals\/X.env.cells.lookup x=some a))->Q () s') (hf:X.fn x=true\/X.env.scope.names.lookup x=some .local:=by first|exact .inl rfl|exact .inr rfl|assumption):wpAny M A (storeName X.env x u) Q E s:=by
 obtain⟨m,hn,hl⟩:=id I.loc;have hcls:(X.env.scope.kind==.class || (X.env.scope.kind==.module&&X.env.locals != X.env.globals))=false:=by rw[I.ok.kind];rfl
 have hiσ:i<σ.length:=by rw[I.len];exact(zah.mp hi).1
 have cne:=I.cne;have tracked:∀{a:Addr} {h':Heap},(∃o,s.heap.get? a=some o/\H a=none)->Heap.SameBut a s.heap h'->HOk X.prog X.w H h':=fun {a h'} ha hs b ob e=>by
  obtain⟨_,_,hfree⟩:=ha;refine(I.hok b ob e).stay (fun c w' hc q=>(hs.2 c ?_).trans q) (fun _ q=>q) fun _ _ q=>q;rintro rfl;rcases hc with rfl|hc
  ·rw[hfree]at e;cases e
  ·rw[hfree]at hc;cases hc
 rcases hx with hk|hk
 ·refine wpAny_storeName_local hk hn (fun h' hn' hs=>?_) hcls;obtain⟨oL,_,_,hoL,_⟩:=id hn;refine h _ ⟨I.ok,I.os,I.bare,⟨fun b o e n hb hx=>?_,fun b o e n hb hx=>?_,I.base.free,fun b o e hx=>?_,I.base.tups,I.base.frzs,I.base.tbls⟩,⟨_,hn',fun j y v' e1 e2 e3=>?_⟩,fun y c e=>?_,I.free,I.freeC,fun p hp=>?_,tracked ⟨oL,hoL,I.free⟩ hs,by simpa using I.len⟩ ⟨_,hs,.inl rfl⟩
  ·exact(hs.2 b (zaw (zag (zal e) I.ok.above))).trans (I.base.keep b o e n hb hx)
  ·obtain⟨sl,e1⟩:=I.base.slot b o e n hb hx;exact⟨sl,(hs.2 b (zaw (zag (zal e) I.ok.above))).trans e1⟩
  ·obtain⟨o',e1⟩:=I.base.there b o e hx;exact⟨o',(hs.2 b (zaw (zag (zal e) I.ok.above))).trans e1⟩
  ·by_cases hj:j=i
   ·subst hj;rw[hi]at e1;cases e1;rw[zaP hiσ]at e2;cases e2;exact⟨u,r,.inl ⟨hk,by simp⟩⟩
   ·rw[zaO (Ne.symm hj)]at e2;obtain⟨u',r',q⟩:=hl j y v' e1 e2 e3;refine⟨u',r',?_⟩;rcases q with⟨k,e⟩|⟨k,c,e,z⟩
    ·refine .inl ⟨k,?_⟩
     have:y≠x:=fun e=>hj (pf hN e1 (e▸hi));simp[this,e]
    ·exact .inr ⟨k,c,e,z.sameBut hs (cne y c e)⟩
  ·obtain⟨w',z⟩:=I.cell y c e;exact⟨w',z.sameBut hs (cne y c e)⟩
  ·obtain⟨e,n,ne,nf,d⟩:=I.pin p hp;exact⟨(hs.2 p.1 ne).trans e,n,ne,nf,d⟩
 ·have hfn:X.fn x=true:=by
   rcases hf with z|z
   ·exact z
   ·rw[z]at hk;cases hk
  obtain⟨c,hc⟩:=I.ok.has x (.inl hk);obtain⟨w',z⟩:=I.cell x c hc;refine wpAny_storeName_cell I.ok.kind hk hc z (fun h' hc' hs=>?_);obtain⟨oc,hoc,hocd⟩:=id z;refine h { s with heap:=h' } ⟨I.ok,I.os,I.bare,⟨fun b o e n hb hx=>?_,fun b o e n hb hx=>?_,I.base.free,fun b o e hx=>?_,I.base.tups,I.base.frzs,I.base.tbls⟩,⟨m,hn.sameBut hs (Ne.symm (cne x c hc)),fun j y v' e1 e2 e3=>?_⟩,fun y c' e=>?_,I.free,I.freeC,fun p hp=>?_,tracked ⟨oc,hoc,I.freeC x c hc⟩ hs,by simpa using I.len⟩ ⟨c,hs,.inr hc⟩
  ·exact(hs.2 b (zaw (zag (zal e) (I.ok.cab x c hfn hc)))).trans (I.base.keep b o e n hb hx)
  ·obtain⟨sl,e1⟩:=I.base.slot b o e n hb hx;exact⟨sl,(hs.2 b (zaw (zag (zal e) (I.ok.cab x c hfn hc)))).trans e1⟩
  ·obtain⟨o',e1⟩:=I.base.there b o e hx;exact⟨o',(hs.2 b (zaw (zag (zal e) (I.ok.cab x c hfn hc)))).trans e1⟩
  ·by_cases hj:j=i
   ·subst hj;rw[hi]at e1;cases e1;rw[zaP hiσ]at e2;cases e2;exact⟨u,r,.inr ⟨.inl hk,c,hc,hc'⟩⟩
   ·rw[zaO (Ne.symm hj)]at e2;obtain⟨u',r',q⟩:=hl j y v' e1 e2 e3;refine⟨u',r',?_⟩;rcases q with q|⟨k,c',e,z'⟩
    ·exact .inl q
    ·refine .inr ⟨k,c',e,z'.sameBut hs ?_⟩;rintro rfl;exact hj (pf hN e1 (I.ok.inj _ _ _ e hc▸hi))
  ·by_cases hcc:c'=c
   ·subst hcc;exact⟨_,hc'⟩
   ·obtain⟨w2,z2⟩:=I.cell y c' e;exact⟨w2,z2.sameBut hs hcc⟩
  ·obtain⟨e,n,ne,nf,d⟩:=I.pin p hp;refine⟨(hs.2 p.1 ?_).trans e,n,ne,nf,d⟩;intro q;rw[q,hoc]at e;have q':oc=p.2:=zat e;exact d w' (by rw[<-q'];exact hocd)
def tP{Q:Unit->Shared->Prop}(I:Inv X ρ σ H s)(hN:X.N.Nodup)(hi:X.N[i]?=some x)(hx:Loc X.env.scope x)(r:RelV v u)
  (h:∀s',Inv X ρ (σ.set i (some v)) H s'->Q () s') (hf:X.fn x=true\/X.env.scope.names.lookup x=some .local:=by first|exact .inl rfl|exact .inr rfl|assumption):wpAny M A (storeName X.env x u) Q E s:=
 ms I hN hi hx r (fun s' I' _=>h s' I') hf
def Inv.call'(I:Inv X ρ σ H s)(ho:s'.os=s.os)(u:Un (frs X.stack) ch H H' s.heap s'.heap)(hok:HOk X.prog X.w H' s'.heap)(hg:AllBare s'.gens)
  (hch:∀b∈ch,(b∈X.ex\/X.s₀.heap.objs.size<=b)/\b≠X.env.locals/\(∀x c,X.env.cells.lookup x=some c->c≠b)/\∀p∈X.pn++ρ,p.1≠b):Inv X ρ σ H' s':=by
 obtain⟨h',g',d',t',o'⟩:=s';have e:o'=s.os:=ho;subst e;exact I.call (g':=g') (t':=t') (d':=d') u hok hg hch
end
abbrev XK:=Value->Option Addr->Hp->Prop
abbrev St:=List (Option V)
variable{σ:St}
abbrev VK:=V->Hp->Prop
abbrev TE:=St->Hp->VK->Prop
variable{t ta tb te:TE}
abbrev TT:=St->Hp->(Bool->Hp->Prop)->Prop
variable{tc:TT}
abbrev TA:=St->Hp->(List V->Hp->Prop)->Prop
structure Ends where
 nx:St->Hp->Prop
 rt:VK
 bk:St->Hp->Prop:=fun _ _=>False
 ct:St->Hp->Prop:=fun _ _=>False
abbrev TS:=Ends->St->Hp->Prop
def EP(X:Cx)(ρ:List (Addr×Obj))(σ:St)(Q:VK)(u:Value)(s':Shared):Prop:=∃v H',Inv X ρ σ H' s'/\RelV v u/\Q v H'
def TP(X:Cx)(ρ:List (Addr×Obj))(σ:St)(Q:Bool->Hp->Prop)(b:Bool)(s':Shared):Prop:=∃H',Inv X ρ σ H' s'/\Q b H'
def AP(X:Cx)(ρ:List (Addr×Obj))(σ:St)(Q:List V->Hp->Prop)(us:List Value)(s':Shared):Prop:=∃vs H',Inv X ρ σ H' s'/\Vals vs us/\Q vs H'
def SP(X:Cx)(ρ:List (Addr×Obj))(D:Ends)(f:Flow)(s':Shared):Prop:=
 match f with
 |.next=>∃σ' H',Inv X ρ σ' H' s'/\D.nx σ' H'
 |.brk=>∃σ' H',Inv X ρ σ' H' s'/\D.bk σ' H'
 |.cont=>∃σ' H',Inv X ρ σ' H' s'/\D.ct σ' H'
 |.ret u=>∃v σ' H',Inv X ρ σ' H' s'/\RelV v u/\D.rt v H'
def PE(X:Cx)(e:Expr)(t:TE):Prop:=
 ∀(ρ:List (Addr×Obj)) (s:Shared) (σ:St) (H:Hp) (Q:VK),Inv X ρ σ H s->t σ H Q->wpAny (model X.prog X.w) X.A (eval e X.env) (EP X ρ σ Q) X.xe s
def PT(X:Cx)(e:Expr)(t:TT):Prop:=
 ∀(ρ:List (Addr×Obj)) (s:Shared) (σ:St) (H:Hp) (Q:Bool->Hp->Prop),Inv X ρ σ H s->t σ H Q->wpAny (model X.prog X.w) X.A (isTrue e X.env (eval e X.env)) (TP X ρ σ Q) X.xe s
def PW(X:Cx)(e:Expr)(t:TT):Prop:=
 ∀(χ:Sem Value) (ρ:List (Addr×Obj)) (s:Shared) (σ:St) (H:Hp) (Q:Bool->Hp->Prop),Inv X ρ σ H s->t σ H Q->wpAny (model X.prog X.w) X.A (isTrue e X.env χ) (TP X ρ σ Q) X.xe s
def PW.pt{t:TT}(h:PW X e t):PT X e t:=h _
def PA(X:Cx)(es:List Expr)(t:TA):Prop:=
 ∀(pos:Pos) (ρ:List (Addr×Obj)) (s:Shared) (σ:St) (H:Hp) (Q:List V->Hp->Prop),Inv X ρ σ H s->t σ H Q->wpAny (model X.prog X.w) X.A (spliced (backTo pos (starEach es X.env))) (AP X ρ σ Q) X.xe s
def PS(X:Cx)(st:Stmt)(t:TS):Prop:=
 ∀(ρ:List (Addr×Obj)) (s:Shared) (σ:St) (H:Hp) (D:Ends),Inv X ρ σ H s->t D σ H->wpAny (model X.prog X.w) X.A (exec st X.env) (SP X ρ D) X.xe s
def PSs(X:Cx)(st:List Stmt)(t:TS):Prop:=
 ∀(ρ:List (Addr×Obj)) (s:Shared) (σ:St) (H:Hp) (D:Ends),Inv X ρ σ H s->t D σ H->wpAny (model X.prog X.w) X.A (execs st X.env) (SP X ρ D) X.xe s
def thn{α:Type}{t:Sem α}{Q Q':α->Shared->Prop}(h:wpAny M A t Q E s)(hQ:∀a s,Q a s->Q' a s):wpAny M A t Q' E s:=wpAny_mono h hQ fun _ _ x=>x
section
def kU(i:Nat):TE:=fun σ H Q=>∃v,σ[i]?=some (some v)/\Q v H
def tC(v:V):TE:=fun _ H Q=>Q v H
def gk(hN:X.N[i]?=some x)(hv:Vis X.env.scope x)(hd:(x==("__debug__":Str))=false:=by decide)(hcd:(x==("__classdict__":Str))=false:=by decide):PE X (.Name x pos) (kU i):=by
 intro ρ s σ H Q I h;obtain⟨v,e,h⟩:=h;obtain⟨m,hn,hl⟩:=I.loc;obtain⟨u,r,l⟩:=hl i x v hN e hv;have fin:EP X ρ σ Q u s:=⟨v,H,I,r,h⟩;rcases l with⟨hk,hm⟩|⟨hk,c,hc,hcell⟩
 ·exact wpAny_Name (wpAny_loadName_local I.ok.kind hk hn hm fin) hd
 ·rcases hk with hk|hk
  ·exact wpAny_Name (wpAny_loadName_cell I.ok.kind hk hc hcell fin) hd
  ·exact wpAny_Name (wpAny_loadName_free I.ok.kind hk hc hcell fin hcd) hd
def pe_int{i j pos}:PE X (.Constant (.int i) j pos) (tC (.int i)):=fun _ _ _ H _ I h=>wpAny_Constant_int ⟨.int i,H,I.tok _,⟨_,rfl⟩,h⟩
def pe_bl{b j pos}:PE X (.Constant (.bool b) j pos) (tC (.bl b)):=fun _ _ _ H _ I h=>Constant_bool ⟨.bl b,H,I,rfl,h⟩
def pe_non{j pos}:PE X (.Constant .none j pos) (tC .non):=fun _ _ _ H _ I h=>Constant_none ⟨.non,H,I,rfl,h⟩
def pe_str{x j pos}:PE X (.Constant (.str x) j pos) (tC (.str x)):=fun _ _ _ H _ I h=>Calls.Constant_str ⟨.str x,H,I.tok _,⟨_,rfl⟩,h⟩
def Gl(X:Cx)(x:Str):Prop:=X.env.kindOf x=some .globalImplicit
def i6(I:Inv X ρ σ H s)(hg:Gl X x)(hm:X.mg x=some u)(h:Q u s)
  (hd:(x==("__debug__":Str))=false:=by decide):wpAny (model X.prog X.w) X.A (eval (.Name x pos) X.env) Q E s:=
 Calls.Name_function_global I.ok.kind hg (Calls.loadGlobal_global (by rw[I.ok.glob];exact I.mod.glob.keeps I.bk) hm h) hd
def mI(I:Inv X ρ σ H s)(hg:Gl X x)(hm:X.mg x=none)(hv:bootBuiltins x=some u)(h:Q u s)
  (hn:x≠"__name__":=by decide) (hd:(x==("__debug__":Str))=false:=by decide):wpAny (model X.prog X.w) X.A (eval (.Name x pos) X.env) Q E s:=by
 obtain⟨mb,h1,h2⟩:=I.mod.blt;exact Calls.Name_function_global I.ok.kind hg (Calls.loadGlobal_builtin (by rw[I.ok.glob];exact I.mod.glob.keeps I.bk) hm (by rw[I.ok.blt];exact h1.keeps I.bk) ((h2 x hn).trans hv) h) hd
def nK(hg:Gl X x)(hm:X.mg x=some u)(r:RelV v u)(hd:(x==("__debug__":Str))=false:=by decide):PE X (.Name x pos) (tC v):=
 fun _ _ _ H _ I h=>i6 I hg hm ⟨v,H,I,r,h⟩ hd
def nL(hg:Gl X x)(hm:X.mg x=none)(hv:bootBuiltins x=some u)(r:RelV v u)(hn:x≠"__name__":=by decide)(hd:(x==("__debug__":Str))=false:=by decide):PE X (.Name x pos) (tC v):=
 fun _ _ _ H _ I h=>mI I hg hm hv ⟨v,H,I,r,h⟩ hn hd
variable{a b:Expr} 
def tB(t:TE):TT:=fun σ H Q=>t σ H fun x H1=>∃c,x=.bl c/\Q c H1
def JB(h:PE X e t)(he:∀χ,isTrue e X.env χ=(do let v <-χ;standAt e.pos;holding [v] (truthy v)):=by intro _;rfl):PT X e (tB t):=by
 intro ρ s σ H Q I hw;refine isTrue_plain (thn (h ρ s σ H _ I hw) fun v s1 ⟨x,H1,I1,r1,q1⟩=>?_) (he _);obtain⟨d,rfl,q⟩:=q1;cases r1;exact zbv ⟨H1,I1,q⟩
variable{tA tB':TT}{rest:List Expr}
def Jc(t u:TT):TT:=fun σ H Q=>t σ H fun c H1=>if c=true then u σ H1 Q else Q false H1
def tOr(t u:TT):TT:=fun σ H Q=>t σ H fun c H1=>if c=true then Q true H1 else u σ H1 Q
def IW(t:TT):TT:=fun σ H Q=>t σ H fun c H1=>Q (!c) H1
def E4(ha:PT X a tA):PW X (.BoolOp .And [a] pos) tA:=by
 intro wh ρ s σ H Q I h;refine isTrue_and (thn (ha ρ s σ H Q I h) fun c s1 e=>?_);cases c with
 |true=>exact isTrue_and_nil e
 |false=>exact e
def Jy(ha:PT X a tA):PW X (.BoolOp .Or [a] pos) tA:=by
 intro wh ρ s σ H Q I h;refine isTrue_or (thn (ha ρ s σ H Q I h) fun c s1 e=>?_);cases c with
 |false=>exact isTrue_or_nil e
 |true=>exact e
def Jz(ha:PT X a tA)(hb:PW X (.BoolOp .And (b::rest) pos) tB'):PW X (.BoolOp .And (a::b::rest) pos) (Jc tA tB'):=by
 intro wh ρ s σ H Q I h;refine isTrue_and (thn (ha ρ s σ H _ I h) fun c s1 ⟨H1,I1,q1⟩=>?_);cases c with
 |true=>exact hb wh ρ s1 σ H1 Q I1 q1
 |false=>exact⟨H1,I1,q1⟩
def LM(ha:PT X a tA)(hb:PW X (.BoolOp .Or (b::rest) pos) tB'):PW X (.BoolOp .Or (a::b::rest) pos) (tOr tA tB'):=by
 intro wh ρ s σ H Q I h;refine isTrue_or (thn (ha ρ s σ H _ I h) fun c s1 ⟨H1,I1,q1⟩=>?_);cases c with
 |true=>exact⟨H1,I1,q1⟩
 |false=>exact hb wh ρ s1 σ H1 Q I1 q1
def JC(ha:PT X a tA):PT X (.UnaryOp .Not a pos) (IW tA):=by
 intro ρ s σ H Q I h;exact isTrue_not (ha ρ s σ H (fun c H1=>Q (!c) H1) I h)
def Ec(ta tb:TE):TE:=fun σ H Q=>ta σ H fun x H1=>∃c,x=.bl c/\if c=true then tb σ H1 Q else Q (.bl false) H1
def IV(ta tb:TE):TE:=fun σ H Q=>ta σ H fun x H1=>∃c,x=.bl c/\if c=true then Q (.bl true) H1 else tb σ H1 Q
def D7(ta:TE):TE:=fun σ H Q=>ta σ H fun x H1=>∃c,x=.bl c/\Q (.bl (!c)) H1
def JH{op}(h:PE X a t):PE X (.BoolOp op [a] pos) t:=fun ρ s σ H Q I hw=>BoolOp_one (h ρ s σ H Q I hw)
def JL(ha:PE X a ta)(hb:PE X (.BoolOp .And (b::rest) pos) tb):PE X (.BoolOp .And (a::b::rest) pos) (Ec ta tb):=by
 intro ρ s σ H Q I h;refine BoolOp_and (thn (ha ρ s σ H _ I h) fun v s1 ⟨x,H1,I1,r1,q1⟩=>?_);obtain⟨c,rfl,q1⟩:=q1;cases r1;refine zbv ?_;cases c with
 |true=>exact hb ρ s1 σ H1 Q I1 q1
 |false=>exact⟨.bl false,H1,I1,rfl,q1⟩
def LO(ha:PE X a ta)(hb:PE X (.BoolOp .Or (b::rest) pos) tb):PE X (.BoolOp .Or (a::b::rest) pos) (IV ta tb):=by
 intro ρ s σ H Q I h;refine BoolOp_or (thn (ha ρ s σ H _ I h) fun v s1 ⟨x,H1,I1,r1,q1⟩=>?_);obtain⟨c,rfl,q1⟩:=q1;cases r1;refine zbv ?_;cases c with
 |false=>exact hb ρ s1 σ H1 Q I1 q1
 |true=>exact⟨.bl true,H1,I1,rfl,q1⟩
def JI(ha:PE X a ta):PE X (.UnaryOp .Not a pos) (D7 ta):=by
 intro ρ s σ H Q I h;refine UnaryOp_ (thn (ha ρ s σ H _ I h) fun v s1 ⟨x,H1,I1,r1,q1⟩=>?_);obtain⟨c,rfl,q1⟩:=q1;cases r1;exact not_of (zbv ⟨.bl (!c),H1,I1,rfl,q1⟩)
end
def SqL(K:zbS)(H:Hp)(a:Addr)(xs:List V):Prop:=
 Rd H a (.lst xs) \/
  ∃(o:Obj) (its:Array Value) (n:Nat),K.lookup a=some o/\o.cls=.type "list"/\o.dict=none/\o.data=.seq its n/\its.size<=sizeLine/\Vals xs its.toList
def SqT(K:zbS)(H:Hp)(a:Addr)(xs:List V):Prop:=
 Rd H a (.tup xs) \/
  ∃(o:Obj) (its:Array Value) (n:Nat),K.lookup a=some o/\o.cls=.type "tuple"/\o.data=.seq its n/\its.size<=sizeLine/\Vals xs its.toList
def M5:Value->Option V
 |.none=>some .non
 |.bool b=>some (.bl b)
 |.int i _=>some (.int i)
 |.str x _=>some (.str x)
 |.bytes b _=>some (.byt b)
 |.float b _=>some (.flt b)
 |.ref a=>some (.ref a)
 |.type n=>some (.ty n)
 |_=>none
def RelV.abs{x:V}(r:RelV x u):M5 u=some x:=by
 cases x with
 |non=>cases r;rfl
 |bl _=>cases r;rfl
 |int _=>obtain⟨t,rfl⟩:=r;rfl
 |str _=>obtain⟨t,rfl⟩:=r;rfl
 |byt _=>obtain⟨t,rfl⟩:=r;rfl
 |flt _=>obtain⟨t,rfl⟩:=r;rfl
 |ref _=>cases r;rfl
 |ty _=>cases r;rfl
def RelV.inj{x:V}(r:RelV x u)(q:RelV y u):x=y:=zat (r.abs.symm.trans q.abs)
theorem Vals.inj:∀{xs ys:List V} {us:List Value},Vals xs us->Vals ys us->xs=ys
 |_,_,_,.nil,.nil=>rfl
 |_,_,_,.cons r t,.cons r' t'=>by rw[r.inj r',Vals.inj t t']
section
variable{xs ys:List V}
def SqL.of(h:H a=some (.lst xs)):SqL K H a xs:=.inl (.inl h)
def SqT.of(h:H a=some (.tup xs)):SqT K H a xs:=.inl (.inl h)
def Inv.list(I:Inv X ρ σ H s)(h:SqL X.K H a xs):∃its:List Value,Vals xs its/\PlainL s.heap a its.toArray/\xs.length<=sizeLine:=by
 rcases h with h|⟨o,its,n,hk,hc,hd,hs,hz,r⟩
 ·obtain⟨z,its,n,r,e⟩:=h.ok I.hok;exact⟨its,r,⟨_,n,e,rfl,rfl,rfl⟩,z⟩
 ·refine⟨its.toList,r,⟨o,n,I.kIn a o hk,hc,hd,by simpa using hs⟩,?_⟩;have e:=r.length;simp only[zaY]at e;omega
def Inv.tuple(I:Inv X ρ σ H s)(h:SqT X.K H a xs):∃its:List Value,Vals xs its/\IsTup s.heap a its.toArray/\xs.length<=sizeLine:=by
 rcases h with h|⟨o,its,n,hk,hc,hs,hz,r⟩
 ·obtain⟨z,its,r,p⟩:=h.ok I.hok;exact⟨its,r,p.tup,z⟩
 ·refine⟨its.toList,r,⟨o,I.kIn a o hk,hc,n,by simpa using hs⟩,?_⟩;have e:=r.length;simp only[zaY]at e;omega
def Inv.list_inj(I:Inv X ρ σ H s)(h:SqL X.K H a xs)(h':SqL X.K H a ys):xs=ys:=by
 obtain⟨its,r,⟨o,n,e,_,_,d⟩,_⟩:=I.list h;obtain⟨its',r',⟨o',n',e',_,_,d'⟩,_⟩:=I.list h';rw[e]at e';cases e';rw[d]at d';injection d' with d1 _
 have:its=its':=by simpa using congrArg Array.toList d1
 subst this;exact r.inj r'
def Inv.tuple_inj(I:Inv X ρ σ H s)(h:SqT X.K H a xs)(h':SqT X.K H a ys):xs=ys:=by
 obtain⟨its,r,⟨o,e,_,n,d⟩,_⟩:=I.tuple h;obtain⟨its',r',⟨o',e',_,n',d'⟩,_⟩:=I.tuple h';rw[e]at e';cases e';rw[d]at d';injection d' with d1 _
 have:its=its':=by simpa using congrArg Array.toList d1
 subst this;exact r.inj r'
end
abbrev Cx.wish(X:Cx)(E:Value->Shared->Prop):Cx:={ X with xe:=E }
abbrev Cx.nox(X:Cx):Cx:=X.wish fun _ _=>False
def Cx.Ok.wish(ok:X.Ok)(E:Value->Shared->Prop):(X.wish E).Ok:=
 ⟨ok.mod,ok.kind,ok.glob,ok.blt,ok.above,ok.inj,ok.has,ok.cab,ok.hd,ok.frames,ok.stk,ok.exf,ok.bs,ok.bsz,ok.noex,ok.exfs,ok.funs,ok.frf⟩
def Cx.Ok.unwish(ok:(X.wish E).Ok):X.Ok:=
 ⟨ok.mod,ok.kind,ok.glob,ok.blt,ok.above,ok.inj,ok.has,ok.cab,ok.hd,ok.frames,ok.stk,ok.exf,ok.bs,ok.bsz,ok.noex,ok.exfs,ok.funs,ok.frf⟩
def Inv.wish(I:Inv X ρ σ H s)(E:Value->Shared->Prop):Inv (X.wish E) ρ σ H s:=⟨I.ok.wish E,I.os,I.bare,I.base,I.loc,I.cell,I.free,I.freeC,I.pin,I.hok,I.len⟩
def Inv.unwish(I:Inv (X.wish E) ρ σ H s):Inv X ρ σ H s:=⟨I.ok.unwish,I.os,I.bare,I.base,I.loc,I.cell,I.free,I.freeC,I.pin,I.hok,I.len⟩
theorem SP.unwish{D:Ends}{f:Flow}{s':Shared}(h:SP (X.wish E) ρ D f s'):SP X ρ D f s':=by
 cases f with
 |next=>obtain⟨σ',H',I,q⟩:=h;exact⟨σ',H',I.unwish,q⟩
 |brk=>obtain⟨σ',H',I,q⟩:=h;exact⟨σ',H',I.unwish,q⟩
 |cont=>obtain⟨σ',H',I,q⟩:=h;exact⟨σ',H',I.unwish,q⟩
 |ret u=>obtain⟨v,σ',H',I,r,q⟩:=h;exact⟨v,σ',H',I.unwish,r,q⟩
def PE.nox(h:PE X.nox e t):PE X e t:=fun ρ s σ H Q I hw=>
 wpAny_mono (h ρ s σ H Q (I.wish _) hw) (fun _ _ ⟨v,H',I',r,q⟩=>⟨v,H',I'.unwish,r,q⟩) fun _ _ z=>False.elim z
def PT.nox{t:TT}(h:PT X.nox e t):PT X e t:=fun ρ s σ H Q I hw=>
 wpAny_mono (h ρ s σ H Q (I.wish _) hw) (fun _ _ ⟨H',I',q⟩=>⟨H',I'.unwish,q⟩) fun _ _ z=>False.elim z
def PSs.nox{st:List Stmt}{t:TS}(h:PSs X.nox st t):PSs X st t:=fun ρ s σ H D I hw=>
 wpAny_mono (h ρ s σ H D (I.wish _) hw) (fun _ _ q=>q.unwish) fun _ _ z=>False.elim z
section
variable{st:Stmt}{rest:List Stmt}{t u:TS}  
def D8:TS:=fun D σ H=>D.nx σ H
def IS(t u:TS):TS:=fun D σ H=>t { D with nx:=u D } σ H
def pss_nil:PSs X [] D8:=fun _ _ σ H _ I h=>wpAny_execs_nil ⟨σ,H,I,h⟩
def oY(h1:PS X st t)(h2:PSs X rest u):PSs X (st::rest) (IS t u):=by
 intro ρ s σ H D I h;refine wpAny_execs_cons (thn (h1 ρ s σ H { D with nx:=u D } I h) fun f s1 q=>?_);cases f with
 |next=>
  obtain⟨σ',H',I',q⟩:=q;exact h2 ρ s1 σ' H' D I' q
 |ret v=>exact q
 |brk=>exact q
 |cont=>exact q
def E7(h1:PS X st t):PSs X [st] t:=by
 intro ρ s σ H D I h;refine wpAny_execs_cons (thn (h1 ρ s σ H D I h) fun f s1 q=>?_);cases f with
 |next=>exact wpAny_execs_nil q
 |ret v=>exact q
 |brk=>exact q
 |cont=>exact q
def Inv.quiet(I:Inv X ρ σ H s):interactive X.env=false:=by simp[interactive,I.ok.kind]
def D9(te:TE):TS:=fun D σ H=>te σ H fun _ H1=>D.nx σ H1
def v9(he:PE X e te)(hs:swapsWith e none pos.line X.env=pure false:=by rfl):PS X (.Expr e pos) (D9 te):=by
 intro ρ s σ H D I h;exact wpAny_Expr_any (thn (he ρ s σ H _ I h) fun v s1 ⟨x,H1,I1,r1,q1⟩=>⟨σ,H1,I1,q1⟩) I.quiet hs
def IT(te:TE):TS:=fun D σ H=>te σ H D.rt
def JE(he:PE X e te):PS X (.Return (some e) pos) (IT te):=by
 intro ρ s σ H D I h;exact wpAny_Return_some (thn (he ρ s σ H _ I h) fun v s1 ⟨x,H1,I1,r1,q1⟩=>⟨x,σ,H1,I1,r1,q1⟩)
def IZ(c:TT)(t u:TS):TS:=fun D σ H=>c σ H fun b H1=>if b=true then t D σ H1 else u D σ H1
def Ej{a b:List Stmt}(hc:PT X c tc)(ha:PSs X a t)(hb:PSs X b u):PS X (.If c a b pos) (IZ tc t u):=by
 intro ρ s σ H D I h;refine wpAny_If (thn (hc ρ s σ H _ I h) fun d s1 ⟨H1,I1,q1⟩=>?_);cases d with
 |true=>exact ha ρ s1 σ H1 D I1 q1
 |false=>exact hb ρ s1 σ H1 D I1 q1
def tL:TS:=fun _ _ _=>False
def ps_never:PS X st tL:=fun _ _ _ _ _ _ h=>h.elim
def yE{sts:List Stmt}:PSs X sts tL:=fun _ _ _ _ _ _ h=>h.elim
end
abbrev TG:=V->St->Hp->(St->Hp->Prop)->Prop
abbrev TGs:=List V->St->Hp->(St->Hp->Prop)->Prop
def PG(X:Cx)(target:Expr)(t:TG):Prop:=
 ∀(ρ:List (Addr×Obj)) (s:Shared) (σ:St) (H:Hp) (v:V) (u:Value) (Q:St->Hp->Prop),Inv X ρ σ H s->RelV v u->t v σ H Q ->
  wpAny (model X.prog X.w) X.A (assign target X.env u) (fun _ s'=>∃σ' H',Inv X ρ σ' H' s'/\Q σ' H') X.xe s
def PGs(X:Cx)(ts:List Expr)(t:TGs):Prop:=
 ∀(ρ:List (Addr×Obj)) (s:Shared) (σ:St) (H:Hp) (vs:List V) (us:List Value) (Q:St->Hp->Prop),Inv X ρ σ H s->Vals vs us->t vs σ H Q ->
  wpAny (model X.prog X.w) X.A (assignInOrder ((assignEach ts X.env).map (·.2)) us) (fun _ s'=>∃σ' H',Inv X ρ σ' H' s'/\Q σ' H') X.xe s
def qa(i:Nat):TG:=fun v σ H Q=>Q (σ.set i (some v)) H
def Fi(hN:X.N.Nodup)(hi:X.N[i]?=some x)(hx:Loc X.env.scope x)(hf:X.fn x=true\/X.env.scope.names.lookup x=some .local:=by first|exact .inl rfl|exact .inr rfl|assumption):PG X (.Name x pos) (qa i):=by
 intro ρ s σ H v u Q I r h;exact wpAny_assign_Name (tP I hN hi hx r (fun s' I'=>⟨_,H,I',h⟩) hf)
def Kp:TGs:=fun vs σ H Q=>vs=[]/\Q σ H
def EC(t:TG)(u:TGs):TGs:=fun vs σ H Q=>∃v r,vs=v::r/\t v σ H fun σ' H'=>u r σ' H' Q
def pgs_nil:PGs X [] Kp:=by
 intro ρ s σ H vs us Q I r h;obtain⟨e,h⟩:=h;subst e;cases r;exact assignInOrder_nil ⟨σ,H,I,h⟩
def AG{t:TG}{u:TGs}(h1:PG X e t)(h2:PGs X es u)
  (hs:(assignEach (e::es) X.env).map (·.2)=assign e X.env::(assignEach es X.env).map (·.2):=by rfl):PGs X (e::es) (EC t u):=by
 intro ρ s σ H vs us Q I r h;obtain⟨v,vr,e1,h⟩:=h;subst e1;cases r with
 |cons r rr=>
  rw[hs];refine assignInOrder_cons (thn (h1 ρ s σ H _ _ _ I r h) fun _ s1 ⟨σ1,H1,I1,q1⟩=>?_);exact h2 ρ s1 σ1 H1 _ _ Q I1 rr q1
def Ko(K:zbS)(n:Nat)(t:TGs):TG:=fun v σ H Q=>∃a xs,v=.ref a/\SqT K H a xs/\xs.length=n/\t xs σ H Q
def JG{t:TGs}(hc:X.calm=true)(h:PGs X es t)
  (hn:(assignEach es X.env).length=n:=by rfl) (hst:(assignEach es X.env).findIdx? (·.1)=none:=by rfl):PG X (.Tuple es k pos) (Ko X.K n t):=by
 intro ρ s σ H v u Q I r hw;obtain⟨a,xs,e1,hq,hl,hw⟩:=hw;subst e1;cases r;obtain⟨its,rv,ht,hz⟩:=I.tuple hq;refine assign_Tuple_tuple (I.ok.hd hc) ht (by simp[hn,<-hl,rv.length]) hst fun h' hx=>?_;have I1:Inv X ρ σ H { s with heap:=h' }:=I.kept (t':=s.toks) fun b o e=>hx b o (zaw (zal e)) e;exact h ρ _ σ H xs _ Q I1 (by simpa using rv) hw
def Av(te:TE)(g:TG):TS:=fun D σ H=>te σ H fun x H1=>g x σ H1 D.nx
def JD{pos':Pos}(hN:X.N.Nodup)(hi:X.N[i]?=some x)(hx:Loc X.env.scope x)(he:PE X e te)(hs:swapsWith e (some (.Name x pos')) pos.line X.env=pure false:=by rfl)(hf:X.fn x=true\/X.env.scope.names.lookup x=some .local:=by first|exact .inl rfl|exact .inr rfl|assumption):
  PS X (.Assign [.Name x pos'] e pos) (Av te (qa i)):=by
 intro ρ s σ H D I h;refine wpAny_Assign_Name (thn (he ρ s σ H _ I h) fun v s1 ⟨y,H1,I1,r1,q1⟩=>?_) hs;exact tP I1 hN hi hx r1 (fun s2 I2=>⟨_,H1,I2,q1⟩) hf
def yn(c:TT)(tb:TS):TS:=fun D σ H=>∃W:Nat->St->Hp->Prop,(∃m,W m σ H)/\∀m σ H,W m σ H ->
 c σ H fun b H1=>if b=true then ∃N:St->Hp->Prop,(∀σ' H',N σ' H'->∃m',m'<m/\W m' σ' H')/\tb { D with nx:=N,ct:=N,bk:=D.nx } σ H1 else D.nx σ H1
def t9{tb:TS}(hp:PassesOwn (model X.prog X.w) X.A X.env X.xe)(hc:PT X c tc)(hb:PSs X body tb):PS X (.While c body [] pos) (yn tc tb):=by
 intro ρ s σ H D I h;obtain⟨W,⟨m0,w0⟩,turn⟩:=h;refine wpAny_While (codeAny_whileLoop (fun n s'=>∃σ' H',Inv X ρ σ' H' s'/\W n σ' H') ?_ m0 ⟨σ,H,I,w0⟩);rintro n s1 ⟨σ1,H1,I1,w1⟩;refine wpAny_passesOwn hp (thn (hc ρ s1 σ1 H1 _ I1 (turn n σ1 H1 w1)) fun b s2 ⟨H2,I2,q2⟩=>?_);cases b with
 |true=>
  obtain⟨N,hN,q2⟩:=q2;rw[if_pos rfl];refine wpAny_passesOwn hp (thn (hb ρ s2 σ1 H2 _ I2 q2) fun f s3 q3=>?_);cases f with
  |next=>
   obtain⟨σ3,H3,I3,n3⟩:=q3;obtain⟨m',hm,w3⟩:=hN σ3 H3 n3;exact⟨m',hm,σ3,H3,I3,w3⟩
  |cont=>
   obtain⟨σ3,H3,I3,n3⟩:=q3;obtain⟨m',hm,w3⟩:=hN σ3 H3 n3;exact⟨m',hm,σ3,H3,I3,w3⟩
  |brk=>exact q3
  |ret v=>exact q3
 |false=>
  rw[if_neg zbl];exact wpAny_execs_nil ⟨σ1,H2,I2,q2⟩
structure It where
 go:Nat->Hp->Prop
 yld:Nat->Hp->V->Hp->Prop
 stop:Nat->Hp->Prop
def fW(X:Cx)(ρ:List (Addr×Obj))(H:Hp)(b:Addr):Prop:=
 H b=none/\b≠X.env.locals/\b∉X.fs/\(b∈X.ex\/X.s₀.heap.objs.size<=b)/\(∀x c,X.env.cells.lookup x=some c->c≠b)/\∀p∈X.pn++ρ,p.1≠b
def Inv.fpOk(I:Inv X ρ σ H s)(hb:s.heap.objs.size<=b)(hn:H' b=none):fW X ρ H' b:=by
 refine⟨hn,Nat.ne_of_gt (zag I.lt hb),I.nofs hb,.inr (zau I.sz hb),fun x c e z=>?_,fun p hp z=>?_⟩
 ·obtain⟨v,q⟩:=I.cell x c e;exact absurd (zag q.lt (by rw[z];exact hb)) (zaI _)
 ·exact absurd (zag (zal (I.pin p hp).1) (by rw[z];exact hb)) (zaI _)
structure Turn(P:Program)(w:World)(K:zbS)(tg:Expr)(J:It)(fp:List Addr)(it:Addr)(tn:Nat->Heap->Prop):Prop where
 mem:it∈fp
 obj:∀i h,tn i h->∀b∈fp,∃o,h.get? b=some o/\∀v,o.data≠.cell v
 keep:∀i h h',tn i h->(∀b∈fp,∀o,h.get? b=some o->h'.get? b=some o)->tn i h'
 item:∀(X:Cx),X.prog=P->X.w=w->X.K=K->X.calm=true->∀(i:Nat) (ρ:List (Addr×Obj)) (s:Shared) (σ:St) (H:Hp) (E:Value->Shared->Prop),Inv X ρ σ H s->(∀b∈fp,fW X ρ H b)->tn i s.heap->J.go i H ->
  wpAny (model P w) X.A (pyNext (.ref it)) (fun r s1=>∃u,r=some u /\
   wpAny (model P w) X.A (letOwnedTupleGo tg (.ref it) u) (fun _ s2=>∃x H',Inv X ρ σ H' s2/\RelV x u/\J.yld i H x H'/\tn (i+1) s2.heap/\∀b∈fp,H' b=none) E s1) E s
 done:∀(X:Cx),X.prog=P->X.w=w->X.K=K->X.calm=true->∀(i:Nat) (ρ:List (Addr×Obj)) (s:Shared) (σ:St) (H:Hp) (E:Value->Shared->Prop),Inv X ρ σ H s->(∀b∈fp,fW X ρ H b)->tn i s.heap->J.stop i H ->
  wpAny (model P w) X.A (pyNext (.ref it)) (fun r s1=>r=none/\Inv X ρ σ H s1) E s
 self:∀(A:Around) (i:Nat) (s:Shared) (Q:Value->Shared->Prop) (E:Value->Shared->Prop),tn i s.heap->Q (.ref it) s->wpAny (model P w) A (pyIter (.ref it)) Q E s
abbrev TI:=St->Hp->(It->Hp->Prop)->Prop
def PIE(X:Cx)(ρ:List (Addr×Obj))(σ:St)(tg:Expr)(R:It->Hp->Prop)(itv:Value)(s2:Shared):Prop:=
 ∃(it:Addr) (fp:List Addr) (tn:Nat->Heap->Prop) (J:It) (H':Hp),itv=.ref it/\Inv X ρ σ H' s2/\Turn X.prog X.w X.K tg J fp it tn/\tn 0 s2.heap/\(∀b∈fp,fW X ρ H' b)/\R J H'
def PI(X:Cx)(tg iter:Expr)(wi:TI):Prop:=
 ∀(ρ:List (Addr×Obj)) (s:Shared) (σ:St) (H:Hp) (R:It->Hp->Prop),Inv X ρ σ H s->wi σ H R ->
  wpAny (model X.prog X.w) X.A (eval iter X.env) (fun v s1=>wpAny (model X.prog X.w) X.A (pyIter v) (PIE X ρ σ tg R) X.xe s1) X.xe s
def tj{o:Obj}{n:String}{vs:Array Value}{Q:Unit->Shared->Prop}(ho:s.heap.get? it=some o)(hc:o.cls=.type n)(hd:o.data=.fields vs)
  (hn:["enumerate","zip","dict_itemiterator","dict_reverseitemiterator","odict_iterator","itertools.zip_longest","itertools.pairwise"].contains n=false) (hQ:Q () s):wpAny M A (letOwnedTupleGo tg (.ref it) u) Q E s:=by
 unfold letOwnedTupleGo;cases tg<;>first
  |exact zaT hQ
  | (cases u<;>first
    |exact zaT hQ
    | (refine zam (wpAny_load ho ?_)
       rw[hc,hd];show wpAny M A (if(["enumerate","zip","dict_itemiterator","dict_reverseitemiterator","odict_iterator","itertools.zip_longest","itertools.pairwise"].contains n&&vs[0]?==some (rawInt _))=true then _ else _) Q E s;rw[if_neg (by intro h;rw[hn,Bool.false_and]at h;cases h)];exact zaT hQ))
def Itl(K:zbS)(a:Addr):It:=
 ⟨fun i H=>∃xs x,SqL K H a xs/\xs[i]?=some x,fun i H x H'=>H'=H/\∀xs,SqL K H a xs->xs[i]?=some x,fun i H=>∃xs,SqL K H a xs/\xs.length<=i⟩
def Itt(K:zbS)(a:Addr):It:=
 ⟨fun i H=>∃xs x,SqT K H a xs/\xs[i]?=some x,fun i H x H'=>H'=H/\∀xs,SqT K H a xs->xs[i]?=some x,fun i H=>∃xs,SqT K H a xs/\xs.length<=i⟩
def Itr(lo:Int)(n:Nat):It:=⟨fun i _=>i<n,fun i H x H'=>H'=H/\x=.int (lo+i),fun i _=>n<=i⟩
def yj(a it:Addr):Turn P w K tg (Itl K a) [it] it (fun i h=>h.IsListIter it a i) where
 mem:=by simp
 obj:=fun i h st b hb=>by
  have e:b=it:=by simpa using hb
  subst e;obtain⟨o,e,c,d⟩:=st;exact⟨o,e,fun v z=>by rw[d]at z;cases z⟩
 keep:=fun i h h' st k=>st.at fun o e=>k it (by simp) o e
 item:=by
  intro X hP hw hK hc i ρ s σ H E I hf st hg;subst hP hw hK;obtain⟨xs,x,hq,hx⟩:=hg;obtain⟨its,rv,p,hz⟩:=I.list hq;obtain⟨u,hu,ru⟩:=rv.get hx;obtain⟨f0,f1,f2,f3,f4,f5⟩:=hf it (by simp);refine wpAny_pyNext_list_item st p.isList (x:=u) (by simpa using hu) fun h' st' sb=>?_;have I1:Inv X ρ σ H { s with heap:=h' }:=I.turned (t':=s.toks) (fun b o hb e=>(sb.2 b hb).trans e) f0 f1 f3 f4 f5;obtain⟨o,e,c,d⟩:=id st';exact⟨u,rfl,tj (s:={ s with heap:=h' }) e c d (by decide) ⟨x,H,I1,ru,⟨rfl,fun ys hy=>by rw[I.list_inj hy hq];exact hx⟩,st',fun b hb=>(hf b hb).1⟩⟩
 done:=by
  intro X hP hw hK hc i ρ s σ H E I hf st hg;subst hP hw hK;obtain⟨xs,hq,hx⟩:=hg;obtain⟨its,rv,p,hz⟩:=I.list hq;obtain⟨f0,f1,f2,f3,f4,f5⟩:=hf it (by simp);have hl:=rv.length;exact wpAny_pyNext_list_end (I.ok.hd hc) st p.isList (by simp;omega) fun h' eb=>⟨rfl,I.turned (t':=s.toks) (fun b o hb e=>eb b o hb e) f0 f1 f3 f4 f5⟩
 self:=fun _ _ _ _ _ st h=>wpAny_pyIter_listiter st h
def wL(a it:Addr):Turn P w K tg (Itt K a) [it] it (fun i h=>h.IsTupleIter it a i) where
 mem:=by simp
 obj:=fun i h st b hb=>by
  have e:b=it:=by simpa using hb
  subst e;obtain⟨o,e,c,d⟩:=st;exact⟨o,e,fun v z=>by rw[d]at z;cases z⟩
 keep:=fun i h h' st k=>st.at fun o e=>k it (by simp) o e
 item:=by
  intro X hP hw hK hc i ρ s σ H E I hf st hg;subst hP hw hK;obtain⟨xs,x,hq,hx⟩:=hg;obtain⟨its,rv,p,hz⟩:=I.tuple hq;obtain⟨u,hu,ru⟩:=rv.get hx;obtain⟨f0,f1,f2,f3,f4,f5⟩:=hf it (by simp);refine wpAny_pyNext_tuple_item st (show s.heap.IsTuple a its.toArray from p) (x:=u) (by simpa using hu) fun h' st' sb=>?_;have I1:Inv X ρ σ H { s with heap:=h' }:=I.turned (t':=s.toks) (fun b o hb e=>(sb.2 b hb).trans e) f0 f1 f3 f4 f5;obtain⟨o,e,c,d⟩:=id st';exact⟨u,rfl,tj (s:={ s with heap:=h' }) e c d (by decide) ⟨x,H,I1,ru,⟨rfl,fun ys hy=>by rw[I.tuple_inj hy hq];exact hx⟩,st',fun b hb=>(hf b hb).1⟩⟩
 done:=by
  intro X hP hw hK hc i ρ s σ H E I hf st hg;subst hP hw hK;obtain⟨xs,hq,hx⟩:=hg;obtain⟨its,rv,p,hz⟩:=I.tuple hq;obtain⟨f0,f1,f2,f3,f4,f5⟩:=hf it (by simp);have hl:=rv.length;exact wpAny_pyNext_tuple_end (I.ok.hd hc) st (show s.heap.IsTuple a its.toArray from p) (by simp;omega) fun h' eb=>⟨rfl,I.turned (t':=s.toks) (fun b o hb e=>eb b o hb e) f0 f1 f3 f4 f5⟩
 self:=fun _ _ _ _ _ st h=>wpAny_pyIter_tupleiter st h
def wM(it:Addr)(lo:Int)(n:Nat):Turn P w K tg (Itr lo n) [it] it (fun i h=>IsRangeIter h it (lo+(i:Nat)*1) ((n:Int)-(i:Nat)) 1) where
 mem:=by simp
 obj:=fun i h st b hb=>by
  have e:b=it:=by simpa using hb
  subst e;exact⟨_,st,fun v z=>by
   have z':Data.fields _=Data.cell v:=z;cases z'⟩
 keep:=fun i h h' st k=>k it (by simp) _ st
 item:=by
  intro X hP hw hK hc i ρ s σ H E I hf st hg;subst hP hw hK;obtain⟨f0,f1,f2,f3,f4,f5⟩:=hf it (by simp);have W:=Walks.range (prog:=X.prog) (w:=X.w) (I.ok.hd hc) it lo 1 n;refine W.item i s _ _ hg st fun v h' tk hv st' kk=>?_;obtain⟨t,rfl⟩:=hv;have I1:Inv X ρ σ H { s with heap:=h',toks:=tk }:=I.turned (fun b o hb e=>kk b o (by simpa using hb) e) f0 f1 f3 f4 f5;refine⟨_,rfl,tj (s:={ s with heap:=h',toks:=tk }) (n:="range_iterator") st' rfl rfl (by decide) ⟨.int (lo+i),H,I1,⟨t,?_⟩,⟨rfl,rfl⟩,st',fun b hb=>(hf b hb).1⟩⟩;rw[Int.mul_one]
 done:=by
  intro X hP hw hK hc i ρ s σ H E I hf st hg;subst hP hw hK;obtain⟨f0,f1,f2,f3,f4,f5⟩:=hf it (by simp);exact wpAny_pyNext_range_end (I.ok.hd hc) st (by have:n<=i:=hg;omega) fun h' eb=>⟨rfl,I.turned (t':=s.toks) (fun b o hb e=>eb b o hb e) f0 f1 f3 f4 f5⟩
 self:=fun _ _ _ _ _ st h=>wpAny_pyIter_rangeiter st h
def Az{R:It->Hp->Prop}{lo hi:Int}{t u v:Tok}{tk:Nat}(I:Inv X ρ σ H s)(h1:-(2 ^ 62)<=lo)(h2:lo<2 ^ 62)(h3:-(2 ^ 62)<=hi)(h4:hi<2 ^ 62)
  (q:R (Itr lo (hi-lo).toNat) H):wpAny (model X.prog X.w) X.A (pyIter (.ref s.heap.objs.size)) (PIE X ρ σ tg R) E { s with heap:=s.heap.push { cls:=.type "range",data:=.fields #[.int lo t,.int hi u,.int 1 v] },toks:=tk }:=by
 refine wpAny_pyIter_range (IsRange.new ..) (small_one h1 h2 h3 h4) ?_;have I1:Inv X ρ σ H { s with heap:=s.heap.push { cls:=.type "range",data:=.fields #[.int lo t,.int hi u,.int 1 v] },toks:=tk }:=I.kept fun b o e=>zaf _ e;refine⟨(s.heap.push { cls:=.type "range",data:=.fields #[.int lo t,.int hi u,.int 1 v] }).objs.size,[(s.heap.push { cls:=.type "range",data:=.fields #[.int lo t,.int hi u,.int 1 v] }).objs.size],_,_,H,rfl,
  I1.kept (t':=tk) fun b o e=>zaf _ e,wM _ lo (hi-lo).toNat,?_,fun b hb=>?_,q⟩
 ·have e1:lo+((0:Nat):Int)*1=lo:=by simp
  have e2:(((hi-lo).toNat:Nat):Int)-((0:Nat):Int)=Builtin.Range.rangeSize lo hi 1:=by rw[rangeSize_one];split<;>omega
  show IsRangeIter _ _ (lo+((0:Nat):Int)*1) ((((hi-lo).toNat:Nat):Int)-((0:Nat):Int)) 1;rw[e1,e2];exact zan _ rfl
 ·have e:b=(s.heap.push { cls:=.type "range",data:=.fields #[.int lo t,.int hi u,.int 1 v] }).objs.size:=by simpa using hb
  subst e;exact I1.fpOk (zav _) (I1.hok.fresh (zav _))
def L6(ta:TA):TI:=fun σ H R=>ta σ H fun vs H1=>∃j:Int,vs=[.int j]/\-(2 ^ 62)<=j/\j<2 ^ 62/\R (Itr 0 j.toNat) H1
def yG{a:Expr}{ta:TA}(hg:Gl X "range")(hm:X.mg "range"=none)(ha:PA X [a] ta)(hs:starEach [a] X.env=[(false,eval a X.env)]:=by rfl):PI X tg (.Call (.Name "range" p) [a] [] pos) (L6 ta):=by
 intro ρ s σ H R I h;refine Call_ (mI I hg hm boot_range (PyProof.Rows.callWith_type1 (thn (ha pos ρ s σ H _ I h) fun us s1 ⟨vs,H1,I1,r1,q1⟩=>?_) hs rfl));obtain⟨j,e,q1,q2,q⟩:=q1;subst e;cases r1 with
 |cons r rr=>
  cases rr;obtain⟨t,rfl⟩:=r;exact call_range_1 (Az I1 (by omega) (by omega) q1 q2 (by simpa using q))
def I0(wi:TI)(g:TG)(tb:TS):TS:=fun D σ H=>wi σ H fun J H1=>∃W:Nat->Nat->St->Hp->Prop,(∃m,W 0 m σ H1)/\∀i m σ H,W i m σ H ->
 (J.stop i H/\D.nx σ H)\/(J.go i H/\∃N:St->Hp->Prop,(∀σ' H',N σ' H'->∃m',m'<m/\W (i+1) m' σ' H')/\∀x H',J.yld i H x H'->g x σ H' fun σ2 H2=>tb { D with nx:=N,ct:=N,bk:=D.nx } σ2 H2)
def ku(fp:List Addr)(h:Heap):List (Addr×Obj):=fp.filterMap fun b=>(h.get? b).map fun o=>(b,o)
def eV{o:Obj}(hb:b∈fp)(e:h.get? b=some o):(b,o)∈ku fp h:=List.mem_filterMap.mpr ⟨b,hb,by rw[e];rfl⟩
def yN{p:Addr×Obj}(hp:p∈ku fp h):p.1∈fp/\h.get? p.1=some p.2:=by
 obtain⟨b,hb,e⟩:=List.mem_filterMap.mp hp;cases q:h.get? b with
 |none=>rw[q]at e;cases e
 |some o=>
  rw[q]at e;have e':(b,o)=p:=zat e;subst e';exact⟨hb,q⟩
def Inv.pinned(I:Inv X ρ σ H s)(hf:∀b∈fp,fW X ρ H b)(ho:∀b∈fp,∃o,s.heap.get? b=some o/\∀v,o.data≠.cell v):Inv X (ρ++ku fp s.heap) σ H s:=
 I.pins_of fun p hp=>(zax.mp hp).elim (fun z=>I.pin p (zbf _ z)) fun z=>by
  obtain⟨hb,e⟩:=yN z;obtain⟨f0,f1,f2,_⟩:=hf p.1 hb;obtain⟨o,e',d⟩:=ho p.1 hb;rw[e]at e';cases e';exact⟨e,f0,f1,f2,d⟩
def Inv.unpinned{pl:List (Addr×Obj)}(I:Inv X (ρ++pl) σ H s):Inv X ρ σ H s:=I.pins_of fun p hp=>I.pin p (zbf _ (zbe _ hp))
def JF{iter:Expr}{wi:TI}{g:TG}{tb:TS}(hp:PassesOwn (model X.prog X.w) X.A X.env X.xe)(hc:X.calm=true)(hi:PI X tg iter wi)(hg:PG X tg g)(hb:PSs X body tb)
  (hs:∀x,foldedSetIterable iter X.env x=pure x:=by intro _;rfl):PS X (.For tg iter body [] pos) (I0 wi g tb):=by
 intro ρ s σ H D I h;refine wpAny_For (thn (hi ρ s σ H _ I h) fun v s1 h1=>thn h1 fun itv s2 h2=>?_) hs;obtain⟨it,fp,tn,J,H2,e,I2,T,st2,f2,W,⟨m0,w0⟩,turn⟩:=h2;subst e;have stat:∀{H':Hp},(∀b∈fp,H' b=none)->∀b∈fp,fW X ρ H' b:=fun hn b hb=>⟨hn b hb,(f2 b hb).2⟩;refine codeAny_forLoop_any (fun n s'=>∃i σ' H',Inv X ρ σ' H' s'/\tn i s'.heap/\(∀b∈fp,H' b=none)/\W i n σ' H') ?_ m0 ⟨0,σ,H2,I2,st2,fun b hb=>(f2 b hb).1,w0⟩;rintro n s3 ⟨i,σ3,H3,I3,st3,fr3,w3⟩;rcases turn i n σ3 H3 w3 with⟨stop,qn⟩|⟨go,N,hN,step⟩
 ·refine wpAny_passesOwn hp (thn (T.done X rfl rfl rfl hc i ρ s3 σ3 H3 X.xe I3 (stat fr3) st3 stop) fun r s4 ⟨hr,I4⟩=>?_);subst hr;exact wpAny_execs_nil ⟨σ3,H3,I4,qn⟩
 ·refine wpAny_passesOwn hp (thn (T.item X rfl rfl rfl hc i ρ s3 σ3 H3 X.xe I3 (stat fr3) st3 go) fun r s4 ⟨u,hr,h4⟩=>?_);subst hr;refine wpAny_passesOwn hp (thn h4 fun _ s5 ⟨x,H5,I5,r5,y5,st5,fr5⟩=>?_);have I5':=I5.pinned (stat fr5) (T.obj _ _ st5);refine wpAny_passesOwn hp (thn (hg _ s5 σ3 H5 x u _ I5' r5 (step x H5 y5)) fun _ s6 ⟨σ6,H6,I6,q6⟩=>?_);refine wpAny_passesOwn hp (thn (hb _ s6 σ6 H6 _ I6 q6) fun f s7 q7=>?_);have again:∀{σ7:St} {H7:Hp},Inv X (ρ++ku fp s5.heap) σ7 H7 s7->N σ7 H7->∃m,m<n/\∃i σ' H',Inv X ρ σ' H' s7/\tn i s7.heap/\(∀b∈fp,H' b=none)/\W i m σ' H':=fun {σ7 H7} I7 n7=>by
   obtain⟨m',hm,w7⟩:=hN σ7 H7 n7;refine⟨m',hm,i+1,σ7,H7,I7.unpinned,T.keep _ _ _ st5 fun b hb o e=>(I7.pin (b,o) (zbf _ (zbf _ (eV hb e)))).1,fun b hb=>?_,w7⟩;obtain⟨o,e,d⟩:=T.obj _ _ st5 b hb;exact(I7.pin (b,o) (zbf _ (zbf _ (eV hb e)))).2.1
  cases f with
  |next=>obtain⟨σ7,H7,I7,n7⟩:=q7;exact again I7 n7
  |cont=>obtain⟨σ7,H7,I7,n7⟩:=q7;exact again I7 n7
  |brk=>obtain⟨σ7,H7,I7,q7⟩:=q7;exact⟨σ7,H7,I7.unpinned,q7⟩
  |ret v=>obtain⟨x7,σ7,H7,I7,r7,q7⟩:=q7;exact⟨x7,σ7,H7,I7.unpinned,r7,q7⟩
abbrev R2:=V->V->Hp->VK->Prop
variable{r r':R2}
def OpR(X:Cx)(f:Value->Value->Sem Value)(r:R2):Prop:=
 ∀(ρ:List (Addr×Obj)) (s:Shared) (σ:St) (H:Hp) (x y:V) (v u:Value) (Q:VK),Inv X ρ σ H s->RelV x v->RelV y u->r x y H Q ->
  wpAny (model X.prog X.w) X.A (f v u) (EP X ρ σ Q) X.xe s
def UnR(X:Cx)(f:Value->Sem Value)(r:V->Hp->VK->Prop):Prop:=
 ∀(ρ:List (Addr×Obj)) (s:Shared) (σ:St) (H:Hp) (x:V) (v:Value) (Q:VK),Inv X ρ σ H s->RelV x v->r x H Q ->
  wpAny (model X.prog X.w) X.A (f v) (EP X ρ σ Q) X.xe s
def CallR(X:Cx)(f:Value)(r:List V->Hp->VK->Prop):Prop:=
 ∀(ρ:List (Addr×Obj)) (s:Shared) (σ:St) (H:Hp) (xs:List V) (us:List Value) (Q:VK),Inv X ρ σ H s->Vals xs us->r xs H Q ->
  wpAny (model X.prog X.w) X.A (call f us) (EP X ρ σ Q) X.xe s
def tOp(r:R2)(ta tb:TE):TE:=fun σ H Q=>ta σ H fun x H1=>tb σ H1 fun y H2=>r x y H2 Q
def tUn(r:V->Hp->VK->Prop)(ta:TE):TE:=fun σ H Q=>ta σ H fun x H1=>r x H1 Q
def rI(C:Int->Int->Prop)(g:Int->Int->V):R2:=fun x y H Q=>∃i j,x=.int i/\y=.int j/\C i j/\Q (g i j) H
def rI0(g:Int->Int->V):R2:=fun x y H Q=>∃i j,x=.int i/\y=.int j/\Q (g i j) H
def rU(g:Int->V):V->Hp->VK->Prop:=fun x H Q=>∃i,x=.int i/\Q (g i) H
section
variable{a b:Expr}{tc:TE} 
def BG(ha:PE X a ta)(hb:PE X b tb){R:V->V->Hp->Prop}(I:Inv X ρ σ H s)
  (h:ta σ H fun x H1=>tb σ H1 fun y H2=>R x y H2) {f:Value->Value->Sem Value}
  (hf:∀v u s2 x y H2,Inv X ρ σ H2 s2->RelV x v->RelV y u->R x y H2->wpAny (model X.prog X.w) X.A (f v u) Q X.xe s2):
  wpAny (model X.prog X.w) X.A (eval a X.env) (fun v s₁=>wpAny (model X.prog X.w) X.A (eval b X.env) (fun u s₂=>wpAny (model X.prog X.w) X.A (f v u) Q X.xe s₂) X.xe s₁) X.xe s:=by
 refine thn (ha ρ s σ H _ I h) ?_;rintro v s1 ⟨x,H1,I1,r1,q1⟩;refine thn (hb ρ s1 σ H1 _ I1 q1) ?_;rintro u s2 ⟨y,H2,I2,r2,q2⟩;exact hf v u s2 x y H2 I2 r1 r2 q2
def LP{op:Operator}(ho:OpR X (binaryOp op) r)(ha:PE X a ta)(hb:PE X b tb):PE X (.BinOp a op b pos) (tOp r ta tb):=by
 intro ρ s σ H Q I h;exact wpAny_BinOp (BG ha hb I h fun v u s2 x y H2 I2 rx ry q=>ho ρ s2 σ H2 x y v u Q I2 rx ry q)
def LN{op:UnaryOp}{r:V->Hp->VK->Prop}(ho:UnR X (unaryOp op) r)(ha:PE X a ta):PE X (.UnaryOp op a pos) (tUn r ta):=by
 intro ρ s σ H Q I h;exact UnaryOp_ (thn (ha ρ s σ H _ I h) fun v s1 ⟨x,H1,I1,r1,q1⟩=>ho ρ s1 σ H1 x v Q I1 r1 q1)
def opI{f:Value->Value->Sem Value}{C:Int->Int->Prop} 
  (rule:∀(i j:Int) (t u:Tok) (s:Shared) (Q:Value->Shared->Prop) (E:Value->Shared->Prop),C i j->Q (.int (g i j) s.toks) { s with toks:=s.toks+1 }->wpAny (model X.prog X.w) X.A (f (.int i t) (.int j u)) Q E s):
  OpR X f (rI C fun i j=>.int (g i j)):=by
 intro ρ s σ H x y v u Q I rx ry h;obtain⟨i,j,rfl,rfl,hc,q⟩:=h;obtain⟨t,rfl⟩:=rx;obtain⟨t',rfl⟩:=ry;exact rule i j t t' s _ _ hc ⟨.int (g i j),H,I.tok _,⟨_,rfl⟩,q⟩
def JO{f:Value->Value->Sem Value} 
  (rule:∀(i j:Int) (t u:Tok) (s:Shared) (Q:Value->Shared->Prop) (E:Value->Shared->Prop),Q (.int (g i j) s.toks) { s with toks:=s.toks+1 }->wpAny (model X.prog X.w) X.A (f (.int i t) (.int j u)) Q E s):
  OpR X f (rI0 fun i j=>.int (g i j)):=by
 intro ρ s σ H x y v u Q I rx ry h;obtain⟨i,j,rfl,rfl,q⟩:=h;obtain⟨t,rfl⟩:=rx;obtain⟨t',rfl⟩:=ry;exact rule i j t t' s _ _ ⟨.int (g i j),H,I.tok _,⟨_,rfl⟩,q⟩
def wZ{f:Value->Value->Sem Value}{g:Int->Int->Bool}
  (rule:∀(i j:Int) (t u:Tok) (s:Shared) (Q:Value->Shared->Prop) (E:Value->Shared->Prop),Q (.bool (g i j)) s->wpAny (model X.prog X.w) X.A (f (.int i t) (.int j u)) Q E s):
  OpR X f (rI0 fun i j=>.bl (g i j)):=by
 intro ρ s σ H x y v u Q I rx ry h;obtain⟨i,j,rfl,rfl,q⟩:=h;obtain⟨t,rfl⟩:=rx;obtain⟨t',rfl⟩:=ry;exact rule i j t t' s _ _ ⟨.bl (g i j),H,I,rfl,q⟩
def jx(i j:Int):Prop:=0<j/\j<1073741824
def ko(i j:Int):Prop:=0<=j/\j<=1000000/\i.natAbs<2 ^ 64
def CMul(i j:Int):Prop:=(-(2 ^ 64)<i/\i<2 ^ 64)\/(-(2 ^ 64)<j/\j<2 ^ 64)
def CMul.ok{i j:Int}(h:CMul i j):IntMulOk i j:=by
 rcases h with⟨h1,h2⟩|⟨h1,h2⟩
 ·exact .of_left (intBits_le_64 h1 h2)
 ·exact .of_right (intBits_le_64 h1 h2)
def op_add:OpR X (binaryOp .Add) (rI0 fun i j=>.int (i+j)):=JO fun _ _ _ _ _ _ _ q=>add_int q
def op_sub:OpR X (binaryOp .Sub) (rI0 fun i j=>.int (i-j)):=JO fun _ _ _ _ _ _ _ q=>sub_int q
def op_mul:OpR X (binaryOp .Mult) (rI CMul fun i j=>.int (i*j)):=opI fun _ _ _ _ _ _ _ hc q=>mul_int q hc.ok
def op_fdiv:OpR X (binaryOp .FloorDiv) (rI jx fun i j=>.int (i / j)):=opI fun i j _ _ _ _ _ hc q=>by
 have h1:(0:Int)<j:=hc.1;have h2:j<1073741824:=hc.2;exact floordiv_int (by omega) (by rw[Int.fdiv_eq_ediv_of_nonneg i (by omega)];exact q) (.inl (PyProof.noPylong_small (by omega)))
def op_mod:OpR X (binaryOp .Mod) (rI (fun _ j=>0<j) fun i j=>.int (i % j)):=opI fun i j _ _ _ _ _ hc q=>by
 have h1:(0:Int)<j:=hc;exact mod_int' (by omega) (by rw[Int.fmod_eq_emod_of_nonneg i (by omega)];exact q)
def op_pow:OpR X (binaryOp .Pow) (rI ko fun i j=>.int (i ^ j.toNat)):=opI fun _ _ _ _ _ _ _ hc q=>pow_int_small hc.1 hc.2.1 hc.2.2 q
def unI{f:Value->Sem Value}{g:Int->Int}
  (rule:∀(i:Int) (t:Tok) (s:Shared) (Q:Value->Shared->Prop) (E:Value->Shared->Prop),Q (.int (g i) s.toks) { s with toks:=s.toks+1 }->wpAny (model X.prog X.w) X.A (f (.int i t)) Q E s):
  UnR X f (rU fun i=>.int (g i)):=by
 intro ρ s σ H x v Q I rx h;obtain⟨i,rfl,q⟩:=h;obtain⟨t,rfl⟩:=rx;exact rule i t s _ _ ⟨.int (g i),H,I.tok _,⟨_,rfl⟩,q⟩
def un_neg:UnR X (unaryOp .USub) (rU fun i=>.int (-i)):=unI fun _ _ _ _ _ q=>neg_int q
def KL{Q:VK}{k k':Bool}(I:Inv X ρ σ H s)(q:Q (.bl k) H)(e:k=k'):EP X ρ σ Q (.bool k') s:=by
 subst e;exact⟨.bl k,H,I,rfl,q⟩
def op_lt:OpR X (compareOp .Lt) (rI0 fun i j=>.bl (decide (i<j))):=wZ fun _ _ _ _ _ _ _ q=>lt_int q
def op_le:OpR X (compareOp .LtE) (rI0 fun i j=>.bl (decide (i<=j))):=wZ fun _ _ _ _ _ _ _ q=>le_int q
def op_gt:OpR X (compareOp .Gt) (rI0 fun i j=>.bl (decide (j<i))):=wZ fun _ _ _ _ _ _ _ q=>gt_int q
def op_ge:OpR X (compareOp .GtE) (rI0 fun i j=>.bl (decide (j<=i))):=wZ fun _ _ _ _ _ _ _ q=>ge_int q
def op_isN:OpR X (compareOp .Is) (fun x y H Q=>y=.non/\Q (.bl (decide (x=.non))) H):=by
 intro ρ s σ H x y v u Q I rx ry h;obtain⟨rfl,q⟩:=h;cases ry;refine is_none_gen (KL I q ?_);cases x<;>first
  | (cases rx;rfl)
  | (obtain⟨t,rfl⟩:=rx;rfl)
def bp(b:Expr)(h:op≠.In:=by decide)(h2:op≠.NotIn:=by decide):behindInMarks op b=false:=by
 have e1:(op==CmpOp.In)=false:=by cases op<;>first|rfl|exact absurd rfl h
 have e2:(op==CmpOp.NotIn)=false:=by cases op<;>first|rfl|exact absurd rfl h2
 cases b<;>simp[behindInMarks,e1,e2]
def Fo(ho:OpR X (compareOp op) r)(ha:PE X a ta)(hb:PE X b tb)(hm:behindInMarks op b=false):PE X (.Compare a [op] [b] pos) (tOp r ta tb):=by
 intro ρ s σ H Q I h;exact wpAny_Compare1 (BG ha hb I h fun v u s2 x y H2 I2 rx ry q=>ho ρ s2 σ H2 x y v u Q I2 rx ry q) hm
def D6(t:TE):TT:=fun σ H Q=>t σ H fun x H'=>∃k,x=.bl k/\Q k H'
def E6(ho:OpR X (compareOp op) r)(ha:PE X a ta)(hb:PE X b tb)(hm:behindInMarks op b=false):PT X (.Compare a [op] [b] pos) (D6 (tOp r ta tb)):=by
 intro ρ s σ H Q I h;refine wpAny_isTrue_Compare1 (thn (ha ρ s σ H _ I h) fun v s1 ⟨x,H1,I1,r1,q1⟩=>thn (hb ρ s1 σ H1 _ I1 q1) fun u s2 ⟨y,H2,I2,r2,q2⟩=>
  thn (ho ρ s2 σ H2 x y v u _ I2 r1 r2 q2) fun c s3 ⟨z,H3,I3,r3,k,e,q3⟩=>?_) hm
 subst e;cases r3;exact zbv ⟨H3,I3,q3⟩
def tM(r r':R2)(ta tb tc:TE):TE:=fun σ H Q=>ta σ H fun x H1=>tb σ H1 fun y H2=>r x y H2 fun z H3=>∃k,z=.bl k /\
 (if k=true then tc σ H3 fun w' H4=>r' y w' H4 Q else Q (.bl false) H3)
def AI(ho:OpR X (compareOp op) r)(ho':OpR X (compareOp op') r')(ha:PE X a ta)(hb:PE X b tb)(hc:PE X c tc)
  (hm:lastMarks [op,op'] [b,c]=false:=by with_unfolding_all rfl):PE X (.Compare a [op,op'] [b,c] pos) (tM r r' ta tb tc):=by
 intro ρ s σ H Q I h;refine Compare_chain (thn (ha ρ s σ H _ I h) fun v s1 ⟨x,H1,I1,r1,q1⟩=>chain_link (thn (hb ρ s1 σ H1 _ I1 q1) fun u s2 ⟨y,H2,I2,r2,q2⟩=>
  thn (ho ρ s2 σ H2 x y v u _ I2 r1 r2 q2) fun d s3 ⟨z,H3,I3,r3,k,e,q3⟩=>?_)) hm
 subst e;cases r3;refine zbv ?_;cases k with
 |false=>exact ite_ff ⟨.bl false,H3,I3,rfl,q3⟩
 |true=>exact ite_tt (chain_last (thn (hc ρ s3 σ H3 _ I3 q3) fun w' s4 ⟨z',H4,I4,r4,q4⟩=>ho' ρ s4 σ H4 y z' u w' Q I4 r2 r4 q4))
def AB(ho:OpR X (compareOp op) r)(ho':OpR X (compareOp op') r')(ha:PE X a ta)(hb:PE X b tb)(hc:PE X c tc)
  (hm:lastMarks [op,op'] [b,c]=false:=by with_unfolding_all rfl):PT X (.Compare a [op,op'] [b,c] pos) (D6 (tM r r' ta tb tc)):=by
 intro ρ s σ H Q I h;refine isTrue_chain (thn (ha ρ s σ H _ I h) fun v s1 ⟨x,H1,I1,r1,q1⟩=>test_link (thn (hb ρ s1 σ H1 _ I1 q1) fun u s2 ⟨y,H2,I2,r2,q2⟩=>
  thn (ho ρ s2 σ H2 x y v u _ I2 r1 r2 q2) fun d s3 ⟨z,H3,I3,r3,k,e,q3⟩=>?_)) hm
 subst e;cases r3;refine zbv ?_;cases k with
 |false=>
  obtain⟨k',e',q'⟩:=q3;cases e';exact ite_ff ⟨H3,I3,q'⟩
 |true=>
  refine ite_tt (test_last (thn (hc ρ s3 σ H3 _ I3 q3) fun w' s4 ⟨z',H4,I4,r4,q4⟩=>thn (ho' ρ s4 σ H4 y z' u w' _ I4 r2 r4 q4) fun d' s5 ⟨z2,H5,I5,r5,k2,e2,q5⟩=>?_));subst e2;cases r5;exact zbv ⟨H5,I5,q5⟩
def pZ:(sizeLine:Nat)<2 ^ 63:=by rw[sizeLine_eq];decide
def wY:OpR X (binaryOp .Add) (fun x y H Q=>∃i j,x=.str i/\y=.str j/\i.length+j.length<=sizeLine/\Q (.str (i++j)) H):=by
 intro ρ s σ H x y v u Q I rx ry h;obtain⟨i,j,rfl,rfl,hz,q⟩:=h;obtain⟨t,rfl⟩:=rx;obtain⟨t',rfl⟩:=ry;exact add_str (fun t' tk=>⟨.str (i++j),H,I.tok _,⟨_,rfl⟩,q⟩) hz
def cZ{x:V}(r:Vals [x] us):∃u,us=[u]/\RelV x u:=by
 cases r with
 |cons r1 r2=>cases r2;exact⟨_,rfl,r1⟩
def sR{x:V}(r:Vals [x,y] us):∃u w',us=[u,w']/\RelV x u/\RelV y w':=by
 cases r with
 |cons r1 r2=>
  cases r2 with
  |cons r3 r4=>cases r4;exact⟨_,_,rfl,r1,r3⟩
def call_abs:CallR X (.builtin "abs") (fun xs H Q=>∃i,xs=[.int i]/\Q (.int (if i<0 then -i else i)) H):=by
 intro ρ s σ H xs us Q I r h;obtain⟨i,rfl,q⟩:=h;obtain⟨u,rfl,t,rfl⟩:=cZ r;exact call_abs_int fun u tk=>⟨.int (if i<0 then -i else i),H,I.tok _,⟨_,rfl⟩,q⟩
def Af(hc:X.calm=true):CallR X (.builtin "max") (fun xs H Q=>∃i j,xs=[.int i,.int j]/\Q (.int (if j>i then j else i)) H):=by
 intro ρ s σ H xs us Q I r h;obtain⟨i,j,rfl,q⟩:=h;obtain⟨u,w',rfl,⟨t,rfl⟩,⟨t',rfl⟩⟩:=sR r;refine max_two_ints (I.ok.hd hc) fun h' tk k=>⟨_,H,I.kept k,?_,q⟩;by_cases hj:j>i
 ·rw[if_pos hj,if_pos hj];exact⟨_,rfl⟩
 ·rw[if_neg hj,if_neg hj];exact⟨_,rfl⟩
def Ae(hc:X.calm=true):CallR X (.builtin "min") (fun xs H Q=>∃i j,xs=[.int i,.int j]/\Q (.int (if j<i then j else i)) H):=by
 intro ρ s σ H xs us Q I r h;obtain⟨i,j,rfl,q⟩:=h;obtain⟨u,w',rfl,⟨t,rfl⟩,⟨t',rfl⟩⟩:=sR r;refine min_two_ints (I.ok.hd hc) fun h' tk k=>⟨_,H,I.kept k,?_,q⟩;by_cases hj:j<i
 ·rw[if_pos hj,if_pos hj];exact⟨_,rfl⟩
 ·rw[if_neg hj,if_neg hj];exact⟨_,rfl⟩
def call_str_int:CallR X (.type "str") (fun xs H Q=>∃i,xs=[.int i]/\i.natAbs.log2<1920/\Q (.str (toString i)) H):=by
 intro ρ s σ H xs us Q I r h;obtain⟨i,rfl,hz,q⟩:=h;obtain⟨u,rfl,t,rfl⟩:=cZ r;exact PySem.P.str_of_int hz ⟨.str _,H,I.tok _,⟨_,rfl⟩,q⟩
def Lq(K:zbS)(x:V)(H:Hp)(n:Nat):Prop:=
 match x with
 |.str y=>y.length<=sizeLine/\n=y.length
 |.byt y=>y.size<=sizeLine/\n=y.size
 |.ref p=>(∃xs,SqL K H p xs/\n=xs.length)\/∃xs,SqT K H p xs/\n=xs.length
 |_=>False
def BC:CallR X (.builtin "len") (fun xs H Q=>∃x n,xs=[x]/\Lq X.K x H n/\Q (.int n) H):=by
 intro ρ s σ H xs us Q I r h;obtain⟨x,n,rfl,e,q⟩:=h;obtain⟨u,rfl,rx⟩:=cZ r;have hl:=pZ;have hs:sizeLine=16777216:=sizeLine_eq;cases x with
 |str y=>
  obtain⟨t,rfl⟩:=rx;obtain⟨hy,e'⟩:y.length<=sizeLine/\n=y.length:=e;subst e';exact len_str (by omega) ⟨.int _,H,I.tok _,⟨_,rfl⟩,q⟩
 |byt y=>
  obtain⟨t,rfl⟩:=rx;obtain⟨hy,e'⟩:y.size<=sizeLine/\n=y.size:=e;subst e';exact PySem.W.len_bytes (by omega) ⟨.int _,H,I.tok _,⟨_,rfl⟩,q⟩
 |ref p=>
  cases rx;have e':(∃xs,SqL X.K H p xs/\n=xs.length)\/∃xs,SqT X.K H p xs/\n=xs.length:=e;rcases e' with⟨xs,hx,e'⟩|⟨xs,hx,e'⟩
  ·subst e';obtain⟨its,r',pl,hz⟩:=I.list hx;have ξ:=r'.length;exact Calls.call_len_list pl.isList (by simp only[zai];omega) ⟨.int xs.length,H,I.tok _,⟨_,by simp only[zai];rw[ξ]⟩,q⟩
  ·subst e';obtain⟨its,r',pl,hz⟩:=I.tuple hx;have ξ:=r'.length;exact len_tuple pl (by simp only[zai];omega) ⟨.int xs.length,H,I.tok _,⟨_,by simp only[zai];rw[ξ]⟩,q⟩
 |_=>exact(show False from e).elim
end
structure ObjM(h:Heap)(x dx C:Addr)(mA:Str->Option Value):Prop where
 obj:h.get? x=some (PySem.W.instObj C dx)
 ns:h.Ns1 dx mA
 ne:dx≠x
def yS(n:h.Ns1 dx mA):∃od,h.get? dx=some od/\∀name,PySem.W.lookIn name od=some (mA name):=by
 obtain⟨o,es,ep,ho,hd,hk,_,hm⟩:=n;refine⟨o,ho,fun name=>?_⟩;have e:=hm name;unfold nsFind findBy at e;rw[<-Array.find?_toList]at e;unfold PySem.W.lookIn;rw[hd]
 dsimp only
 split
 ·rename_i y q;rw[q]at e;exact congrArg some e
 ·rename_i q;rw[q]at e;have a:es.toList.any (·.refKey)=false:=by
   rw[List.any_eq_false];intro y hy;obtain⟨z,t,hkey⟩:=hk y (Array.mem_toList_iff.mp hy);simp[DictEntry.refKey,hkey]
  have a':¬es.toList.any (·.refKey)=true:=by rw[a];exact zbl
  rw[if_neg a'];exact congrArg some e
def ObjM.look{x:Addr}(I:ObjM h x dx C mA):∃od,PySem.W.InstAt h x (PySem.W.instObj C dx) C (some od)/\∀name,PySem.W.lookIn name od=some (mA name):=
 let⟨od,ho,hl⟩:=yS I.ns
 ⟨od,⟨I.obj,rfl,rfl,ho⟩,hl⟩
def RelO.some_of{o:Option Value}(r:RelO (some v) o):∃u,o=some u/\RelV v u:=by
 cases o with
 |none=>exact(show False from r).elim
 |some u=>exact⟨u,rfl,r⟩
section
variable{fs fs':List (Str×V)}
def FI(hok:HOk P w H h)(e:H a=some (.ins C dx fs)):∃mA,ObjM h a dx C mA/\(∀f,RelO (fs.lookup f) (mA f))/\PySem.Within mA (fs.map (·.1))/\fs.length<=1000/\H dx=some (.own a):=by
 obtain⟨d,z,ne,ob,mA,n,r,q⟩:=(show ObjOk P w H h a (.ins C dx fs)from hok a _ e);exact⟨mA,⟨ob,n,ne⟩,r,q,z,d⟩
end
structure Cls(K:zbS)(C:Addr):Prop where
 pg:PySem.W.plainGet K C Str.empty=true
 hd:PySem.W.hasDictIn K C=true
 po:PySem.W.plainOver K C=true
 sa:PySem.W.findIn K (.ref C) "__setattr__"=some (some (.builtin "object.__setattr__"))
def Cls.get(c:Cls K C)(f:Str):PySem.W.plainGet K C f=true:=c.pg
section
variable{c:Value}{b:Bool}
inductive TyOf(K:zbS)(H:Hp):V->Value->Prop where
 |non:TyOf K H .non (.type "NoneType")
 |bl (x:Bool):TyOf K H (.bl x) (.type "bool")
 |int (i:Int):TyOf K H (.int i) (.type "int")
 |str (x:Str):TyOf K H (.str x) (.type "str")
 |flt (x:UInt64):TyOf K H (.flt x) (.type "float")
 |lst {a:Addr} {xs:List V} (e:H a=some (.lst xs)):TyOf K H (.ref a) (.type "list")
 |frz {a:Addr} {o:Obj} {xs:List V} (e:H a=some (.frz o (.lst xs))):TyOf K H (.ref a) (.type "list")
 |tup {a:Addr} {xs:List V} (e:H a=some (.tup xs)):TyOf K H (.ref a) (.type "tuple")
 |dK {a:Addr} {kvs:List (Key×V)} (e:Rd H a (.dK kvs)):TyOf K H (.ref a) (.type "dict")
 |dT {a:Addr} {kvs:List (List (Option Key)×V)} {ad:Addr->Prop} (e:Rd H a (.dT kvs ad)):TyOf K H (.ref a) (.type "dict")
 |ins {a C dx:Addr} {fs:List (Str×V)} (e:H a=some (.ins C dx fs)) (cl:Cls K C) (ha:PySem.W.findIn K (.ref C) "__class__"=some (some (.builtin "object.__class__")))
   (hn:PySem.W.specialIn K (.builtin "object.__class__") "__get__"=some (some (.builtin "getset_descriptor.__get__"))) (htk:PySem.W.takesIn K (.builtin "object.__class__")=some true)
   (hm:PySem.W.mroIn K C (.type "object")=some true):TyOf K H (.ref a) (.ref C)
def zn{x:V}{t:Value}(I:Inv X ρ σ H s)(rx:RelV x u)(ty:TyOf X.K H x t)(e:PySem.W.kitOne X.K t c=some b)(h:∀tk,Q (.bool b) { s with toks:=tk }):
  wpAny (model X.prog X.w) A (call (.builtin "isinstance") [u,c]) Q E s:=by
 cases ty with
 |non=>cases(show u=Value.none from rx);exact PySem.W.kia_one PySem.W.kitx_none I.kIn True.intro e (fun z=>nomatch z) h
 |bl y=>cases(show u=Value.bool y from rx);exact PySem.W.kia_one PySem.W.kitx_bool I.kIn True.intro e (fun z=>nomatch z) h
 |int i=>obtain⟨t,q⟩:=(show ∃t,u=Value.int i t from rx);cases q;exact PySem.W.kia_one PySem.W.kitx_int I.kIn True.intro e (fun z=>nomatch z) h
 |str y=>obtain⟨t,q⟩:=(show ∃t,u=Value.str y t from rx);cases q;exact PySem.W.kia_one PySem.W.kitx_str I.kIn True.intro e (fun z=>nomatch z) h
 |flt y=>obtain⟨t,q⟩:=(show ∃t,u=Value.float y t from rx);cases q;exact PySem.W.kia_one PySem.W.kitx_float I.kIn True.intro e (fun z=>nomatch z) h
 |@lst a xs ea=>
  cases(show u=Value.ref a from rx);obtain⟨_,_,n,_,h1⟩:=(show ObjOk X.prog X.w H s.heap a (.lst xs)from I.hok a _ ea);exact PySem.W.kia_one PySem.W.kitx_list I.kIn ⟨_,h1,rfl⟩ e (fun z=>nomatch z) h
 |@frz a ob xs ea=>
  cases(show u=Value.ref a from rx);obtain⟨_,_,_,n,_,h1⟩:=(show ObjOk X.prog X.w H s.heap a (.frz ob (.lst xs))from I.hok a _ ea);exact PySem.W.kia_one PySem.W.kitx_list I.kIn ⟨_,h1,rfl⟩ e (fun z=>nomatch z) h
 |@tup a xs ea=>
  cases(show u=Value.ref a from rx);obtain⟨_,_,_,p⟩:=(show ObjOk X.prog X.w H s.heap a (.tup xs)from I.hok a _ ea);obtain⟨o,h1,h2,_⟩:=p;exact PySem.W.kia_one PySem.W.kitx_tuple I.kIn ⟨o,h1,h2⟩ e (fun z=>nomatch z) h
 |@dK a kvs ea=>
  cases(show u=Value.ref a from rx);obtain⟨_,_,vs,_,p⟩:=(show ObjOk X.prog X.w H s.heap a (.dK kvs)from ea.ok I.hok);obtain⟨o,es,ep,h1,h2,_⟩:=p;exact PySem.W.kia_one PySem.W.kitx_dict I.kIn ⟨o,h1,h2.1⟩ e (fun z=>nomatch z) h
 |@dT a kvs ad ea=>
  cases(show u=Value.ref a from rx);obtain⟨_,_,xs,_,o,es,ep,h1,h2,_⟩:=(show ObjOk X.prog X.w H s.heap a (.dT kvs ad)from ea.ok I.hok);exact PySem.W.kia_one PySem.W.kitx_dict I.kIn ⟨o,h1,h2.1⟩ e (fun z=>nomatch z) h
 |@ins a C dx fs ea cl ha hn htk hm=>
  cases(show u=Value.ref a from rx);obtain⟨mA,O,_⟩:=FI I.hok ea;obtain⟨od,J,_⟩:=O.look;exact PySem.W.kia_one (PySem.W.kitx_own (cl.get _) cl.hd ha hn htk hm) I.kIn J e (fun z=>nomatch z) h
end
structure Room(k:Nat)(A:Around):Prop where
 hd:A.handled=none
 dp:A.depth+3*k+5<recursionLimit
 un:A.units+16*k+200<cLine
 gd:A.guards=some []
def Room.mono(r:Room k A)(h:j<=k):Room j A:=⟨r.hd,by have:=r.dp;omega,by have:=r.un;omega,r.gd⟩
def Room.deeper(r:Room (k+1) A)(env:Env):Room k (A.deeper env):=
 ⟨r.hd,by have:=r.dp;show A.depth+1+3*k+5<_;omega,by have:=r.un;show A.units+3+16*k+200<_;omega,r.gd⟩
def Room.depth(r:Room k A):A.depth<recursionLimit:=by have:=r.dp;omega
def Room.units(r:Room k A):A.units+64<cLine:=by have:=r.un;omega
def oQ:TA:=fun _ H Q=>Q [] H
def iL(ta:TE)(tr:TA):TA:=fun σ H Q=>ta σ H fun x H1=>tr σ H1 fun xs H2=>Q (x::xs) H2
section
variable{t:TA} 
def pa_nil:PA X [] oQ:=fun _ _ _ _ H Q I h=>Calls.spliced_nil ⟨[],H,I,.nil,h⟩
def ba(ha:PE X e te)(hr:PA X es t)(hs:starEach (e::es) X.env=(false,eval e X.env)::starEach es X.env:=by rfl):PA X (e::es) (iL te t):=by
 intro pos ρ s σ H Q I h;rw[hs];show wpAny _ _ (spliced ((false,eval e X.env)::backTo pos (starEach es X.env))) _ _ s;refine Calls.spliced_cons (thn (ha ρ s σ H _ I h) fun u s1 ⟨x,H1,I1,r1,q1⟩=>?_);exact thn (hr pos ρ s1 σ H1 _ I1 q1) fun us s2 ⟨xs,H2,I2,r2,q2⟩=>⟨x::xs,H2,I2,.cons r1 r2,q2⟩
def IR(t:TA):TE:=fun σ H Q=>t σ H fun xs H1=>xs.length<=sizeLine/\∀p,H1 p=none->Q (.ref p) (upd H1 p (.tup xs))
def IX(t:TA):TE:=fun σ H Q=>t σ H fun xs H1=>xs.length<=sizeLine/\∀p,H1 p=none->Q (.ref p) (upd H1 p (.lst xs))
def ua{x1}(h:PA X es t):PE X (.Tuple es x1 pos) (IR t):=by
 intro ρ s σ H Q I hq;refine wpAny_Tuple_spliced (thn (h pos ρ s σ H _ I hq) fun us s1 ⟨xs,H1,I1,r,z,q⟩=>⟨by rw[<-r.length];exact z,?_⟩);have hf:H1 s1.heap.objs.size=none:=I1.hok.fresh (zav _);refine⟨.ref s1.heap.objs.size,upd H1 s1.heap.objs.size (.tup xs),I1.laid (t':=s1.toks) (fun b u e=>zaf _ e) (zav _) ?_,rfl,q _ hf⟩;exact⟨z,us,r,⟨_,zan _ rfl,rfl,_,rfl,rfl⟩⟩
def JJ(h:PA X es t):PE X (.List es pos) (IX t):=by
 intro ρ s σ H Q I hq;refine wpAny_List_spliced (thn (h pos ρ s σ H _ I hq) fun us s1 ⟨xs,H1,I1,r,z,q⟩=>⟨by rw[<-r.length];exact z,?_⟩);have hf:H1 s1.heap.objs.size=none:=I1.hok.fresh (zav _);refine⟨.ref s1.heap.objs.size,upd H1 s1.heap.objs.size (.lst xs),I1.laid (t':=s1.toks) (fun b u e=>zaf _ e) (zav _) ?_,rfl,q _ hf⟩;exact⟨z,us,0,r,zan _ rfl⟩
end
abbrev Sp:=List V->Hp->VK->XK->Prop
abbrev CXT:=List Env->Hp->Shared->XK->Value->Shared->Prop
variable{CX:CXT}
structure Env0(P:Program)(w:World)(K:zbS)(mg:Str->Option Value)(base:Heap)(A:Around)(outer:List Env)(s:Shared)(H:Hp):Prop where
 frames:A.frames=some outer
 mod:Mod K mg base
 bs:∀b o,base.get? b=some o->s.heap.get? b=some o/\H b=none
 bsz:base.objs.size<=s.heap.objs.size
 funs:s.heap.FunFrames base outer
 frf:∀b∈frs outer,H b=none
 hok:HOk P w H s.heap
 bare:AllBare s.gens
def CE(outer:List Env)(P:Program)(w:World)(H:Hp)(s:Shared)(Q:VK)(u:Value)(s':Shared):Prop:=
 ∃v H',s'.os=s.os/\AllBare s'.gens/\Un (frs outer) [] H H' s.heap s'.heap/\HOk P w H' s'.heap/\RelV v u/\Q v H'
def CR(CX:CXT)(outer:List Env)(P:Program)(w:World)(H:Hp)(s:Shared)(Q:VK)(E:XK)(r:Result)(s':Shared):Prop:=
 match r with
 |.ok (.ret u)=>CE outer P w H s Q u s'
 |.ok _=>False
 |.error e=>CX outer H s E e s'
structure FnOk(P:Program)(w:World)(K:zbS)(mg:Str->Option Value)(base:Heap)(CX:CXT)(k:Nat)(f:Addr)(fd:FuncData)(ps:List Str)(sp:Sp):Prop where
 len:∀vs H Q E,sp vs H Q E->vs.length=ps.length
 run:∀(A:Around) (outer:List Env) (s:Shared) (H:Hp) (args:Args) (us:List Value) (vs:List V) (Q:VK) (E:XK),Room k A->Env0 P w K mg base A outer s H->BindsTo s fd args (ps.zip us)->Vals vs us->sp vs H Q E ->
  codeAny (model P w) A (.call (.ref f) args) (CR CX outer P w H s Q E) s
def FnOk.mono{P:Program}{w:World}{K:zbS}{mg:Str->Option Value}{base:Heap}{CX:CXT}{j k:Nat}{f:Addr}{fd:FuncData}{ps:List Str}{sp:Sp}(F:FnOk P w K mg base CX j f fd ps sp)(h:j<=k):
  FnOk P w K mg base CX k f fd ps sp:=⟨F.len,fun A outer s H args us vs Q E hr=>F.run A outer s H args us vs Q E (hr.mono h)⟩
def FnOk.imp{sp sp':Sp}(F:FnOk P w K mg base CX k f fd ps sp)
  (h:∀vs H Q E,sp' vs H Q E->sp vs H Q E):FnOk P w K mg base CX k f fd ps sp':=
 ⟨fun vs H Q E q=>F.len vs H Q E (h _ _ _ _ q),fun A outer s H args us vs Q E hr he hb hv hs=>F.run A outer s H args us vs Q E hr he hb hv (h _ _ _ _ hs)⟩
def Inv.env0(I:Inv X ρ σ H s):Env0 X.prog X.w X.K X.mg X.base X.A X.stack s H:=
 ⟨I.ok.frames,I.ok.mod,I.bs,zau I.ok.bsz I.sz,I.stack,I.stkFree,I.hok,I.bare⟩
def Inv.after{Q:VK}(I:Inv X ρ σ H s)(h:CE X.stack X.prog X.w H s Q u s'):EP X ρ σ Q u s':=by
 obtain⟨v,H',os,bare,un,hok,r,q⟩:=h;obtain⟨hh,g,d,t,os'⟩:=s';obtain rfl:os'=s.os:=os;exact⟨v,H',I.call (h':=hh) (g':=g) (d':=d) (t':=t) (ch:=[]) un hok bare (fun b z=>absurd z (by simp)),r,q⟩
def sS(sp:Sp)(dvs:List V)(E:XK)(t:TA):TE:=fun σ H Q=>t σ H fun vs H1=>sp (vs++dvs) H1 Q E
def Binds(K:zbS)(fd:FuncData)(ps:List Str)(ds:List Value):Prop:=
 ∀(s:Shared) (us:List Value),K.In s.heap->(us++ds).length=ps.length->BindsTo s fd ⟨us,[]⟩ (ps.zip (us++ds))
def Binds.all(h:∀us:List Value,us.length=ps.length->bindArgs fd ⟨us,[]⟩=pure (ps.zip us)):Binds K fd ps []:=fun s us _ hl=>by
 rw[zbo]at hl ⊢;exact .of_eq (h us hl)
def va(CX:CXT)(X:Cx)(E:XK):Prop:=∀(ρ:List (Addr×Obj)) (σ:St) (H:Hp) (s:Shared) (e:Value) (s':Shared),Inv X ρ σ H s->CX X.stack H s E e s'->X.xe e s'
section
variable{sp:Sp}{dvs:List V}{ds:List Value}{E:XK}{m:Str}{μ:Pos}{o:Expr}{t:TA}
def Jn{Q:VK}(F:FnOk X.prog X.w X.K X.mg X.base CX k f fd ps sp)(hr:Room k X.A)(hb:Binds X.K fd ps ds)(hd:Vals dvs ds)(hx:va CX X E)
  (I:Inv X ρ σ H s) (r:Vals vs us) (h:sp (vs++dvs) H Q E):wpAny (model X.prog X.w) X.A (call (.ref f) us) (EP X ρ σ Q) X.xe s:=by
 have r2:Vals (vs++dvs) (us++ds):=r.append hd;have hl:(us++ds).length=ps.length:=by rw[<-r2.length];exact F.len _ _ _ _ h
 refine wpAny_call (codeAny_mono (F.run X.A X.stack s H ⟨us,[]⟩ (us++ds) (vs++dvs) Q E hr I.env0 (hb s us I.kIn hl) r2 h) fun r s' hq=>?_);cases r with
 |error e=>exact hx ρ σ H s e s' I hq
 |ok fl=>
  cases fl with
  |ret u=>exact I.after hq
  |next=>exact False.elim hq
  |brk=>exact False.elim hq
  |cont=>exact False.elim hq
def Fp(F:FnOk X.prog X.w X.K X.mg X.base CX k f fd ps sp)(hr:Room k X.A)(hg:Gl X x)(hm:X.mg x=some (.ref f))(hk:PySem.W.keepIn X.K (.ref f)=true)(hb:Binds X.K fd ps ds)(hd:Vals dvs ds)(hx:va CX X E)
  (ha:PA X (e::es) t) (hdb:(x==("__debug__":Str))=false:=by decide) (he:starEach (e::es) X.env=(false,eval e X.env)::starEach es X.env:=by rfl) (hpl:(backTo pos (starEach es X.env)).any (·.1)=false:=by rfl):
  PE X (.Call (.Name x p) (e::es) [] pos) (sS sp dvs E t):=by
 intro ρ s σ H Q I h;refine wpAny_Call_Name_kw (i6 I hg hm ?_ hdb);refine PySem.W.callWith_K (h₀:=X.base) I.ok.mod.kin hk (thn (ha pos ρ s σ H _ I h) fun us s1 ⟨vs,H1,I1,r,q⟩=>⟨I1.kIn,?_⟩) he hpl;exact Jn F hr hb hd hx I1 r q
end
structure FnScope(N P:List Str)(sc:Scope):Prop where
 kind:sc.kind=.function
 co:sc.isCoroutine=false
 gen:sc.isGenerator=false
 nd:N.Nodup
 pre:N.take P.length=P
 par:∀x∈P,sc.names.lookup x=some .local\/sc.names.lookup x=some .cell
 nofree:∀y∈sc.names,y.2≠.free
theorem si{kindOf:Str->Option NameKind}{x:Str}:∀{binds:List (Str×Value)} {m:Str->Option Value},(∀v,(x,v)∉binds)->bindL kindOf binds m x=m x
 |[],_,_=>rfl
 | (n,v)::r,m,h=>by
  unfold bindL;rw[si fun w hw=>h w (zaj _ hw)];split
  ·have:x≠n:=by rintro rfl;exact h v zaq
   simp[this]
  ·rfl
theorem sm{kindOf:Str->Option NameKind}{x:Str}:∀{binds:List (Str×Value)} {m:Str->Option Value},(∀v,(x,v)∉binds)->bindC kindOf binds m x=m x
 |[],_,_=>rfl
 | (n,v)::r,m,h=>by
  unfold bindC;rw[sm fun w hw=>h w (zaj _ hw)];split
  ·rfl
  ·have:x≠n:=by rintro rfl;exact h v zaq
   simp[this]
theorem sj{kindOf:Str->Option NameKind}{x:Str}{v:Value}:∀{P:List Str} {vs:List Value} {i:Nat} {m:Str->Option Value},P.Nodup->P[i]?=some x->vs[i]?=some v->kindOf x=some .local ->
  bindL kindOf (P.zip vs) m x=some v
 |[],_,_,_,_,h,_,_=>by simp at h
 |_::_,[],_,_,_,_,h,_=>by simp at h
 |p::P,w::vs,0,m,nd,h1,h2,hk=>by
  simp at h1 h2;subst h1;subst h2;show bindL kindOf ((p,w)::P.zip vs) m p=_;unfold bindL;rw[si fun v hv=>(zbb.mp nd).1 (List.of_mem_zip hv).1,if_pos hk];simp
 |p::P,w::vs,i+1,m,nd,h1,h2,hk=>by
  show bindL kindOf ((p,w)::P.zip vs) m x=_;unfold bindL;exact sj (i:=i) (zbb.mp nd).2 (by simpa using h1) (by simpa using h2) hk
theorem so{kindOf:Str->Option NameKind}{x:Str}{v:Value}:∀{P:List Str} {vs:List Value} {i:Nat} {m:Str->Option Value},P.Nodup->P[i]?=some x->vs[i]?=some v->kindOf x≠some .local ->
  bindC kindOf (P.zip vs) m x=some v
 |[],_,_,_,_,h,_,_=>by simp at h
 |_::_,[],_,_,_,_,h,_=>by simp at h
 |p::P,w::vs,0,m,nd,h1,h2,hk=>by
  simp at h1 h2;subst h1;subst h2;show bindC kindOf ((p,w)::P.zip vs) m p=_;unfold bindC;rw[sm fun v hv=>(zbb.mp nd).1 (List.of_mem_zip hv).1,if_neg hk];simp
 |p::P,w::vs,i+1,m,nd,h1,h2,hk=>by
  show bindC kindOf ((p,w)::P.zip vs) m x=_;unfold bindC;exact so (i:=i) (zbb.mp nd).2 (by simpa using h1) (by simpa using h2) hk
def dy(N:List Str)(vs:List V):St:=vs.map some++List.replicate (N.length-vs.length) none
def iw(CX:CXT)(P:Program)(w:World)(K:zbS)(mg:Str->Option Value)(base:Heap)(N:List Str)(qual:Str)(scope:Scope)(f:Addr)(cd:Value)(A:Around)(outer:List Env)(s:Shared)(H:Hp)(E:XK):Cx where
 prog:=P
 w:=w
 K:=K
 mg:=mg
 base:=base
 A:=A.deeper (envOfC qual scope s.heap.objs.size f cd)
 N:=N
 s₀:=s
 H₀:=H
 env:=envOfC qual scope s.heap.objs.size f cd
 outer:=outer
 stack:=envOfC qual scope s.heap.objs.size f cd::outer
 ex:=[]
 calm:=true
 fn:=fun _=>true
 pn:=[]
 xe:=fun e s'=>wpAny (model P w) (A.deeper (envOfC qual scope s.heap.objs.size f cd)) (leaving (envOfC qual scope s.heap.objs.size f cd) e) (fun _ s''=>CX outer H s E e s'') (fun e' s''=>CX outer H s E e' s'') s'
def u3{sc:Scope}(h:sc.names.lookup x=some .cell):∃c,(cellsFrom n sc.names []).lookup x=some c:=by
 have q:=PySem.W.cellsFrom_some sc.names n [] (.inl h);exact Option.isSome_iff_exists.mp q
def zo{cd:Value}{outer:List Env}{s1:Shared}{E:XK} 
  (S:FnScope N ps scope) (hd:A.handled=none) (e0:Env0 P w K mg base A outer s H) (hl:vs.length=ps.length) (r:Vals vs us)
  (x:InCallC s s.heap.objs.size (bindL (envOfC qual scope s.heap.objs.size f cd).kindOf (ps.zip us) fun _=>none) (cellsFrom (s.heap.objs.size+1) scope.names []) (bindC (envOfC qual scope s.heap.objs.size f cd).kindOf (ps.zip us) fun _=>none) s1):
  Inv (iw CX P w K mg base N qual scope f cd A outer s H E) [] (dy N vs) H s1:=by
 have hpl:ps.length<=N.length:=by have:=congrArg List.length S.pre;rw[zaE]at this;omega
 obtain⟨h1,tk,rfl,hk⟩:=x.done;have noA:∀b:Addr,b∉(iw CX P w K mg base N qual scope f cd A outer s H E).ex:=fun b z=>absurd (show b∈([]:List Addr)from z) (by simp);refine⟨⟨e0.mod,S.kind,rfl,rfl,zav _,fun y z c h1 h2=>?_,fun y hy=>?_,fun y c _ h=>?_,fun _=>hd,Around.frames_deeper e0.frames,.inr ⟨rfl,rfl⟩,fun b z=>absurd z (noA b),e0.bs,e0.bsz,fun b _ _=>noA b,fun b z=>absurd z (noA b),e0.funs,e0.frf⟩,
  rfl,e0.bare,Un.kept hk,⟨_,x.toInCall.ns,fun i y v h1 h2 h3=>?_⟩,fun y c h=>⟨_,x.cell y c h⟩,e0.hok.fresh (zav _),fun y c h=>?_,fun p hp=>absurd (show p∈([]:List (Addr×Obj))from hp) (by simp),e0.hok.kept hk,?_⟩
 ·exact name_of_addr x.apart (zaU h1) (zaU h2)
 ·have hy:scope.names.lookup y=some .cell\/scope.names.lookup y=some .free:=hy;rcases hy with hy|hy
  ·exact u3 hy
  ·exact absurd rfl (S.nofree _ (zaU hy))
 ·exact Nat.le_of_lt (x.above y c (zaU h))
 ·have hi:i<vs.length:=by
   unfold dy at h2;by_cases hi:i<vs.length
   ·exact hi
   ·rw[zbD (by simpa using hi)]at h2;rw[List.getElem?_replicate]at h2;split at h2<;>cases h2
  have ha:vs[i]?=some v:=by
   unfold dy at h2;rw[zaS (by simpa using hi),zao]at h2;cases e:vs[i]? with
   |none=>rw[e]at h2;cases h2
   |some a=>rw[e]at h2;cases h2;rfl
  obtain⟨u,hu,rv⟩:=r.get ha;have hp:ps[i]?=some y:=by
   rw[<-S.pre,List.getElem?_take_of_lt (by omega)];exact h1
  have ndP:ps.Nodup:=by rw[<-S.pre];exact S.nd.sublist (List.take_sublist _ _)
  refine⟨u,rv,?_⟩;rcases S.par y (zaX hp)with k|k
  ·exact .inl ⟨k,sj ndP hp hu k⟩
  ·obtain⟨c,e⟩:=u3 (n:=s.heap.objs.size+1) k;refine .inr ⟨.inl k,c,e,?_⟩;have q:=x.cell y c e;rw[so ndP hp hu (by show scope.names.lookup y≠_;rw[k];decide)]at q;exact q
 ·exact e0.hok.fresh (Nat.le_of_lt (x.above y c (zaU h)))
 ·unfold dy;show _=N.length;rw[zae,zad,zaN];omega
def EE{name:Str}{params:Arguments}{dV kV doc pm cdv ct oc:Value}{an od:Option Addr}
  {osl:Array (Option Value)} {sp:Sp} (lk:K.lookup f=some ⟨oc,od,.func (PySem.W.fnOf name qual params body scope dV kV doc pm an cdv ct),osl⟩) (hcd:PySem.W.codeIn K cdv qual=true) (S:FnScope N ps scope)
  (len:∀vs H Q E,sp vs H Q E->vs.length=ps.length)
  (hbody:∀(A:Around) (outer:List Env) (s:Shared) (H:Hp) (vs:List V) (Q:VK) (E:XK),Room k (A.deeper (envOfC qual scope s.heap.objs.size f cdv))->sp vs H Q E ->
   ∃t,PSs (iw CX P w K mg base N qual scope f cdv A outer s H E) body t/\t { nx:=fun _ H'=>Q .non H',rt:=Q } (dy N vs) H):
  FnOk P w K mg base CX (k+1) f (PySem.W.fnOf name qual params body scope dV kV doc pm an cdv ct) ps sp:=by
 refine⟨len,fun A outer s H args us vs Q E hr e0 hb r hsp=>?_⟩;have hl:=len _ _ _ _ hsp;have KX:K.In s.heap:=e0.mod.kin.keeps fun b o e=>(e0.bs b o e).1;have lim:s.heap.NoLimit:=e0.mod.nolimit.keeps fun b o e=>(e0.bs b o e).1;have hkind:∀y∈ps.zip us,scope.names.lookup y.1=some .local\/(scope.names.lookup y.1=some .cell/\((cellsFrom (s.heap.objs.size+1) scope.names []).lookup y.1).isSome=true):=fun⟨n,v⟩ hy=>by
  rcases S.par n (List.of_mem_zip hy).1 with q|q
  ·exact .inl q
  ·exact .inr ⟨q,PySem.W.cellsFrom_some _ _ _ (.inl q)⟩
 refine codeAny_call_function hr.depth (KX _ _ lk) rfl S.co S.gen rfl (PySem.W.codeRec_of KX hcd) (hb _ _ _ _ ?_);refine wpAny_newFunctionEnv_cells S.kind hkind fun env he s1 x=>?_;subst he;refine⟨lim.keeps x.toInCall.keep,codeAny_func ?_⟩;obtain⟨t,ht,hq⟩:=hbody A outer s H vs Q E (hr.deeper _) hsp;have I:Inv (iw CX P w K mg base N qual scope f cdv A outer s H E) [] (dy N vs) H s1:=zo S hr.hd e0 hl r x;refine wpAny_mono (ht [] s1 (dy N vs) H _ I hq) (fun fl s' hs=>?_) fun e s' hs=>hs;have fin:∀{σ':St} {H':Hp} {v:V} {u:Value},Inv (iw CX P w K mg base N qual scope f cdv A outer s H E) [] σ' H' s'->RelV v u->Q v H'->CE outer P w H s Q u s':=
  fun {σ' H' v u} J rv q=>⟨v,H',J.os,J.bare,J.base,J.hok,rv,q⟩
 cases fl with
 |ret u=>
  obtain⟨v,σ',H',J,rv,q⟩:=hs;exact fin J rv q
 |next=>
  obtain⟨σ',H',J,q⟩:=hs;exact fin (v:=V.non) (u:=Value.none) J rfl q
 |brk=>
  obtain⟨_,_,_,q⟩:=hs;exact False.elim q
 |cont=>
  obtain⟨_,_,_,q⟩:=hs;exact False.elim q
section
variable{t:TA}{id T:String}{r:List V->Hp->VK->Prop}
def tCB(r:List V->Hp->VK->Prop)(t:TA):TE:=fun σ H Q=>t σ H fun vs H1=>r vs H1 Q
def fN(hc:CallR X (.builtin id) r)(hg:Gl X x)(hm:X.mg x=none)(hv:bootBuiltins x=some (.builtin id))(ha:PA X (e::es) t)(hn:x≠"__name__":=by decide)(hdb:(x==("__debug__":Str))=false:=by decide)
  (he:starEach (e::es) X.env=(false,eval e X.env)::starEach es X.env:=by rfl) (hpl:(backTo pos (starEach es X.env)).any (·.1)=false:=by rfl):PE X (.Call (.Name x p) (e::es) [] pos) (tCB r t):=by
 intro ρ s σ H Q I h;refine wpAny_Call_Name_kw (mI I hg hm hv ?_ hn hdb);exact PyProof.Rows.callWith_builtin1 (thn (ha pos ρ s σ H _ I h) fun us s1 ⟨vs,H1,I1,r1,q1⟩=>hc ρ s1 σ H1 vs us Q I1 r1 q1) he hpl
def mz(hc:CallR X (.type T) r)(hg:Gl X x)(hm:X.mg x=none)(hv:bootBuiltins x=some (.type T))(ha:PA X (e::es) t)(hn:x≠"__name__":=by decide)(hdb:(x==("__debug__":Str))=false:=by decide)
  (he:starEach (e::es) X.env=(false,eval e X.env)::starEach es X.env:=by rfl) (hpl:(backTo pos (starEach es X.env)).any (·.1)=false:=by rfl):PE X (.Call (.Name x p) (e::es) [] pos) (tCB r t):=by
 intro ρ s σ H Q I h;refine wpAny_Call_Name_kw (mI I hg hm hv ?_ hn hdb);exact PyProof.Rows.callWith_type1 (thn (ha pos ρ s σ H _ I h) fun us s1 ⟨vs,H1,I1,r1,q1⟩=>hc ρ s1 σ H1 vs us Q I1 r1 q1) he hpl
end
end L2
namespace HT
variable{sl:Addr}{vl vu:Value}{lo hi:Option Int}
open PySem PyProof.Rows
section
open PySem.SeqAt
open PySem.AutoSeq1 (wpAny_loadPart')
open PySem.MeetsSeq PySem.MeetsSeq2 PySem.MeetsSeq3
end
section
variable{prog:Program}{w:World}{A:Around}{E:Value->Shared->Prop}{s:Shared}
def sIx(n d:Nat):Option Int->Nat
 |none=>d
 |some v=>if v<0 then(v+(n:Int)).toNat else min v.toNat n
def sIx_none(n d:Nat):sIx n d none=d:=rfl
def sIx_nat(n d k:Nat):sIx n d (some (k:Int))=min k n:=by
 show(if(k:Int)<0 then((k:Int)+(n:Int)).toNat else min (k:Int).toNat n)=min k n;rw[if_neg (by omega),zaL]
def tU(n d:Nat)(hd:d<=n)(o:Option Int):sIx n d o<=n:=by
 cases o with
 |none=>exact hd
 |some v=>
  show(if v<0 then(v+(n:Int)).toNat else min v.toNat n)<=n;by_cases hv:v<0
  ·rw[if_pos hv];omega
  ·rw[if_neg hv];exact Nat.min_le_right _ _
def wB(v:Int)(n d:Nat):(if v<0 then max (v+(n:Int)) 0 else min v (n:Int))=((sIx n d (some v):Nat):Int):=by
 show(if v<0 then max (v+(n:Int)) 0 else min v (n:Int))=(((if v<0 then(v+(n:Int)).toNat else min v.toNat n):Nat):Int);by_cases hv:v<0
 ·simp only[if_pos hv];omega
 ·simp only[if_neg hv];omega
def xU(lo hi:Option Int)(n:Nat):Builtin.Slice.sliceAdjust lo hi 1 (n:Int)=(((sIx n 0 lo:Nat):Int),((sIx n n hi:Nat):Int)):=by
 have h1:¬((1:Int)<0):=by omega
 unfold Builtin.Slice.sliceAdjust;simp only[h1,if_false];refine Prod.ext ?_ ?_
 ·cases lo with
  |none=>rfl
  |some v=>exact wB v n 0
 ·cases hi with
  |none=>rfl
  |some v=>exact wB v n n
def wX(i j:Nat):Builtin.Slice.slicePlaces (i:Int) (j:Int) 1=j-i:=by
 unfold Builtin.Slice.slicePlaces;have h1:(1:Int)>0:=by omega
 simp only[h1,if_true,Int.ediv_one];split<;>omega
def pK{v:Value}{o:Option Int}{Q:Option Int->Shared->Prop}(p:IsPart v o)(h:Q o s):wpAny (model prog w) A (Builtin.Slice.slicePartIndex v) Q E s:=by
 cases p with
 |none=>exact slicePart_none h
 |int i t=>exact slicePart_int h
def ja{n:Nat}{Q:Int×Int×Nat->Shared->Prop}(hs:s.heap.IsSliceOf sl vl vu .none)(pl:IsPart vl lo)(pu:IsPart vu hi)
  (h:Q (((sIx n 0 lo:Nat):Int),1,sIx n n hi-sIx n 0 lo) s):wpAny (model prog w) A (Builtin.Slice.sliceApplied (.ref sl) (pure (n:Int))) Q E s:=by
 obtain⟨os,hos,hcs,hds⟩:=id hs;unfold Builtin.Slice.sliceApplied Builtin.Slice.sliceFields;refine zam (zam (wpAny_field hos hds (x:=vl) rfl (zam (wpAny_field hos hds (x:=vu) rfl (zam (wpAny_field hos hds (x:=.none) rfl (zaT ?_)))))));refine zam (slicePart_none ?_);show wpAny _ _ (if((1:Int)==0)=true then _ else _) _ _ s;rw[if_neg (by decide)];refine zam (pK pl (zam (pK pu (zam (zaT ?_)))));show wpAny _ _ (match Builtin.Slice.sliceAdjust lo hi 1 (n:Int)with | (lo,hi)=>pure (lo,(1:Int),Builtin.Slice.slicePlaces lo hi 1)) _ _ s;rw[xU lo hi n];show wpAny _ _ (pure (((sIx n 0 lo:Nat):Int),(1:Int),Builtin.Slice.slicePlaces ((sIx n 0 lo:Nat):Int) ((sIx n n hi:Nat):Int) 1)) _ _ s;rw[wX];exact zaT h
def AF(xs:Array Value)(i k:Nat):((List.range k).filterMap fun(m:Nat)=>xs[((i:Int)+(m:Int)*1).toNat]?).toArray=((xs.toList.drop i).take k).toArray:=by
 have e:(fun(m:Nat)=>xs[((i:Int)+(m:Int)*1).toNat]?)=fun m=>xs[i+m]?:=by
  funext m
  have:((i:Int)+(m:Int)*1).toNat=i+m:=by omega
  rw[this]
 rw[e]
 have:=pick_run xs i k;rw[List.filterMap_map]at this;have e2:((fun x=>xs[x]?)∘fun x=>i+x)=fun m=>xs[i+m]?:=rfl;rw[e2]at this;rw[this]
def getItem_tuple_cut{t:Addr}{items:Array Value}{Q:Value->Shared->Prop}(ht:IsTup s.heap t items)(hs:s.heap.IsSliceOf sl vl vu .none)(pl:IsPart vl lo)(pu:IsPart vu hi)
  (hw:¬(sIx items.size 0 lo=0/\sIx items.size items.size hi=items.size))
  (h:Q (.ref s.heap.objs.size) { s with heap:=s.heap.push { cls:=.type "tuple",data:=.seq ((items.toList.drop (sIx items.size 0 lo)).take (sIx items.size items.size hi-sIx items.size 0 lo)).toArray } })
  (hsz:items.size<=sizeLine):wpAny (model prog w) A (getItem (.ref t) (.ref sl)) Q E s:=by
 have htake:sizeOk (.seq ((items.toList.drop (sIx items.size 0 lo)).take (sIx items.size items.size hi-sIx items.size 0 lo)).toArray):=by
  show((items.toList.drop (sIx items.size 0 lo)).take (sIx items.size items.size hi-sIx items.size 0 lo)).toArray.size<=sizeLine;rw[zai,zaE,zaF,zaY];omega
 have hj:sIx items.size items.size hi<=items.size:=tU _ _ (zav _) hi;obtain⟨os,hos,hcs,hds⟩:=id hs;have hTs:s.TypeIs (.ref sl) "slice":=⟨os,hos,hcs⟩;unfold getItem
 try with_reducible refine zbM ?_
 first|refine zam (zaT ?_)|skip
 refine zam (wpAny_sequenceKey ht.typeIs (by decide) ?_);refine zam (zbw (name:=Str.ofString "__getitem__") ht.typeIs PyProof.Rows.slot_tuple_getitem
  (wpAny_call_entry PyProof.Rows.slot_tuple_getitem ht.typeIs entry_tuple_getitem ?_ (args_tuple_getitem _ _)))
 show wpAny _ _ (Builtin.Tuple.tupleItemsOf (.ref t) >>= _) _ _ s;refine zam (tupleItemsOf_ ht ?_);refine zam (wpAny_typeOf hTs ?_);rw[if_pos (by decide)];refine zam (ja hs pl pu ?_);have hno:¬((((sIx items.size 0 lo:Nat):Int)==0&&(1:Int)==1&&(sIx items.size items.size hi-sIx items.size 0 lo)==items.size)=true):=by
  intro q;rw[zbk,zbk]at q;have q1:((sIx items.size 0 lo:Nat):Int)=0:=eq_of_beq q.1.1;have q2:sIx items.size items.size hi-sIx items.size 0 lo=items.size:=eq_of_beq q.2;exact hw ⟨by omega,by omega⟩
 show wpAny _ _ (if(((sIx items.size 0 lo:Nat):Int)==0&&(1:Int)==1&&(sIx items.size items.size hi-sIx items.size 0 lo)==items.size)=true then _ else _) _ _ s;rw[if_neg hno,AF]
 first
  |exact zam (m:=Builtin.Tuple.tupleExact _) (wpAny_newObj_type (zaT ⟨_,rfl,zaT h⟩) htake)
  |exact zam (m:=Builtin.Tuple.tupleExact _) (wpAny_newObj_type (zam (zaT (zaT ⟨_,rfl,zaT h⟩))) htake)
  |exact zam (zam (m:=Builtin.Tuple.tupleExact _) (wpAny_newObj_type (zaT (zaT ⟨_,rfl,zaT h⟩)) htake))
  |exact zam (zam (m:=Builtin.Tuple.tupleExact _) (wpAny_newObj_type (zaT ⟨_,rfl,zaT h⟩) htake))
end
end HT
namespace L2
variable{X:Cx}{e:Expr}{pos:Pos}{n t':Nat}{i:Int}{r:R2}{ρ:List (Addr×Obj)}{σ:St}{H:Hp}{s:Shared}{T:String}{x:V}{its:List Value}
open PySem PySem.Spec PyProof.Rows
abbrev TO:=St->Hp->(Option Int->Hp->Prop)->Prop
def PO(X:Cx)(e:Option Expr)(t:TO):Prop:=
 ∀(ρ:List (Addr×Obj)) (s:Shared) (σ:St) (H:Hp) (Q:Option Int->Hp->Prop),Inv X ρ σ H s->t σ H Q ->
  wpAny (model X.prog X.w) X.A (evalPart e X.env) (fun u s'=>∃o H',Inv X ρ σ H' s'/\IsPart u o/\Q o H') X.xe s
def EQ:TO:=fun _ H Q=>Q none H
def Lx(t:TE):TO:=fun σ H Q=>t σ H fun x H1=>∃i,x=.int i/\Q (some i) H1
section
variable{te:TE}{lo hi:Option Expr}{tl th:TO}{p2:Pos}
def po_none:PO X none EQ:=by
 intro ρ s σ H Q I h;rw[evalPart_none];exact zaT ⟨none,H,I,.none,h⟩
def Fe(h:PE X e te):PO X (some e) (Lx te):=by
 intro ρ s σ H Q I hw;rw[evalPart_some];refine thn (h ρ s σ H _ I hw) ?_;rintro u s1 ⟨x,H1,I1,r1,q1⟩;obtain⟨i,rfl,q⟩:=q1;obtain⟨t,rfl⟩:=r1;exact⟨some i,H1,I1,.int i t,q⟩
def SlR(X:Cx)(r:V->Option Int->Option Int->Hp->VK->Prop):Prop:=
 ∀(ρ:List (Addr×Obj)) (s:Shared) (σ:St) (H:Hp) (x:V) (v vl vu:Value) (lo hi:Option Int) (sl:Addr) (Q:VK),Inv X ρ σ H s->RelV x v->s.heap.IsSliceOf sl vl vu .none->IsPart vl lo->IsPart vu hi->r x lo hi H Q ->
  ∃T id,typeLookup (.type T) "__getitem__"=pure (some (.builtin id))/\s.TypeIs v T/\wpAny (model X.prog X.w) X.A (getItem v (.ref sl)) (EP X ρ σ Q) X.xe s
def tSl(r:V->Option Int->Option Int->Hp->VK->Prop)(te:TE)(tl th:TO):TE:=fun σ H Q=>te σ H fun x H1=>tl σ H1 fun l H2=>th σ H2 fun u H3=>r x l u H3 Q
def AH{r:V->Option Int->Option Int->Hp->VK->Prop}(hr:SlR X r)(he:PE X e te)(hl:PO X lo tl)(hu:PO X hi th):PE X (.Subscript e (.Slice lo hi none p2) pos) (tSl r te tl th):=by
 intro ρ s σ H Q I h;refine Subscript_ (thn (he ρ s σ H _ I h) fun v s1 ⟨x,H1,I1,r1,q1⟩=>?_);refine wpAny_Slice (thn (hl ρ s1 σ H1 _ I1 q1) fun vl s2 ⟨l,H2,I2,pl,q2⟩=>thn (hu ρ s2 σ H2 _ I2 q2) fun vu s3 ⟨u,H3,I3,pu,q3⟩=>?_);rw[evalPart_none];refine zaT ?_;have I4:Inv X ρ σ H3 { s3 with heap:=s3.heap.push { cls:=.type "slice",data:=.fields #[vl,vu,.none] } }:=I3.kept (t':=s3.toks) fun b ob q=>zaf _ q;obtain⟨T,id,hT,ht,hg⟩:=hr ρ { s3 with heap:=s3.heap.push { cls:=.type "slice",data:=.fields #[vl,vu,.none] } } σ H3 x v vl vu l u s3.heap.objs.size Q I4 r1 (Heap.IsSliceOf.new ..) pl pu q3;show wpAny (model X.prog X.w) X.A (subscriptTail e (.Slice lo hi none p2) v (.ref s3.heap.objs.size)) (EP X ρ σ Q) X.xe { s3 with heap:=s3.heap.push { cls:=.type "slice",data:=.fields #[vl,vu,.none] } };exact tail_any (ops:=[.ref s3.heap.objs.size,v]) ht hT hg (by with_unfolding_all rfl)
def kf(xs:List V)(lo hi:Option Int):List V:=(xs.drop (HT.sIx xs.length 0 lo)).take (HT.sIx xs.length xs.length hi-HT.sIx xs.length 0 lo)
def oz(xs:List V)(lo hi:Option Int):(kf xs lo hi).length<=xs.length:=by
 unfold kf;rw[zaE,zaF];omega
def Jq(K:zbS):V->Option Int->Option Int->Hp->VK->Prop:=fun x lo hi H Q=>∃a xs,x=.ref a/\SqT K H a xs /\
 ¬(HT.sIx xs.length 0 lo=0/\HT.sIx xs.length xs.length hi=xs.length)/\∀p,H p=none->Q (.ref p) (upd H p (.tup (kf xs lo hi)))
def Ji:SlR X (Jq X.K):=by
 intro ρ s σ H x v vl vu lo hi sl Q I rx hs pl pu h;obtain⟨a,xs,rfl,hx,hw,q⟩:=h;cases rx;obtain⟨its,r,ht,hz⟩:=I.tuple hx;have ξ:its.toArray.size=xs.length:=by rw[zai];exact r.length.symm
 refine⟨"tuple",_,PyProof.Rows.slot_tuple_getitem.lookup,ht.typeIs,?_⟩;refine HT.getItem_tuple_cut ht hs pl pu (by rw[ξ];exact hw) ?_ (by rw[ξ];exact hz);rw[ξ];refine⟨.ref s.heap.objs.size,_,I.laid (t':=s.toks) (o:=.tup (kf xs lo hi)) (fun b ob q=>zaf _ q) (zav _) ?_,rfl,q _ (I.hok.fresh (zav _))⟩;exact⟨zau (oz xs lo hi) hz,_,(r.drop (HT.sIx xs.length 0 lo)).take (HT.sIx xs.length xs.length hi-HT.sIx xs.length 0 lo),IsTupN.new _ _⟩
end
def ixN(n:Nat)(i:Int):Option Nat:=if 0<=i then(if i<n then some i.toNat else none)else if -(n:Int)<=i then some (i+n).toNat else none
def atI{α:Type}(xs:List α)(i:Int):Option α:=(ixN xs.length i).bind fun j=>xs[j]?
def FF{j:Nat}(h:ixN n i=some j):seqIndex? i n=some j/\j<n/\-(n:Int)<=i/\i<n:=by
 unfold ixN at h;by_cases h0:0<=i
 ·rw[if_pos h0]at h;by_cases h1:i<n
  ·rw[if_pos h1]at h;have e:i.toNat=j:=zat h;exact⟨by rw[seqIndex_of h0 h1,e],by omega,by omega,h1⟩
  ·rw[if_neg h1]at h;cases h
 ·rw[if_neg h0]at h;by_cases h1:-(n:Int)<=i
  ·rw[if_pos h1]at h;have e:(i+n).toNat=j:=zat h;exact⟨by rw[seqIndex_neg (by omega) h1,e],by omega,h1,by omega⟩
  ·rw[if_neg h1]at h;cases h
def rK{α:Type}{xs:List α}{v:α}(h:atI xs i=some v):∃j,seqIndex? i xs.length=some j/\xs[j]?=some v/\j<xs.length/\-(xs.length:Int)<=i/\i<xs.length:=by
 unfold atI at h;cases e:ixN xs.length i with
 |none=>rw[e]at h;cases h
 |some j=>
  rw[e]at h;obtain⟨h1,h2,h3,h4⟩:=FF e;exact⟨j,h1,h,h2,h3,h4⟩
def kJ(b:Expr):Prop:=∀o i,subscripted b false o i=operate [o,i] (getItem o i)
def IxR(X:Cx)(r:R2):Prop:=
 ∀(value slice:Expr) (ρ:List (Addr×Obj)) (s:Shared) (σ:St) (H:Hp) (x y:V) (v u:Value) (Q:VK),Inv X ρ σ H s->RelV x v->RelV y u->r x y H Q ->
  subscripted slice false v u=operate [v,u] (getItem v u)->wpAny (model X.prog X.w) X.A (subscriptTail value slice v u) (EP X ρ σ Q) X.xe s
def MtR(X:Cx)(id:String)(r:V->List V->Hp->VK->Prop):Prop:=
 ∀(ρ:List (Addr×Obj)) (s:Shared) (σ:St) (H:Hp) (x:V) (xs:List V) (v:Value) (us:List Value) (Q:VK),Inv X ρ σ H s->RelV x v->Vals xs us->r x xs H Q ->
  wpAny (model X.prog X.w) X.A (call (.builtin id) (v::us)) (EP X ρ σ Q) X.xe s
section
variable{a b:Expr}{ta tb:TE} 
def IxR.or{r':R2}(h:IxR X r)(h':IxR X r'):IxR X (fun x y H Q=>r x y H Q\/r' x y H Q):=by
 intro value slice ρ s σ H x y v u Q I rx ry q hs;rcases q with q|q
 ·exact h value slice ρ s σ H x y v u Q I rx ry q hs
 ·exact h' value slice ρ s σ H x y v u Q I rx ry q hs
def Ek(hr:IxR X r)(ha:PE X a ta)(hb:PE X b tb)(hs:kJ b):PE X (.Subscript a b pos) (tOp r ta tb):=by
 intro ρ s σ H Q I h;exact Subscript_ (BG ha hb I h fun v u s2 x y H2 I2 rx ry q=>hr a b ρ s2 σ H2 x y v u Q I2 rx ry q (hs _ _))
def wW(K:zbS):R2:=fun x y H Q=>∃p xs i v,x=.ref p/\y=.int i/\SqL K H p xs/\atI xs i=some v/\Q v H
def Ju(K:zbS):R2:=fun x y H Q=>∃p xs i v,x=.ref p/\y=.int i/\SqT K H p xs/\atI xs i=some v/\Q v H
def Jv:R2:=fun x y H Q=>∃z i c,x=.str z/\y=.int i/\z.length<=sizeLine/\atI z.cps.toList i=some c/\Q (.str ⟨#[c]⟩) H
def ix_list:IxR X (wW X.K):=by
 intro value slice ρ s σ H x y v u Q I rx ry h hs;obtain⟨p,xs,i,z,rfl,rfl,hq,he,q⟩:=h;cases rx;obtain⟨t,rfl⟩:=ry;obtain⟨its,r,pl,hz⟩:=I.list hq;obtain⟨j,h1,h2,h3,h4,h5⟩:=rK he;obtain⟨w,ew,rw'⟩:=r.get h2;have hl:=r.length;have hn:=pZ;have fin:EP X ρ σ Q w s:=⟨z,H,I,rw',q⟩;by_cases h0:0<=i
 ·have hj:i.toNat=j:=by
   rw[seqIndex_of h0 h5]at h1;exact zat h1
  exact item_listR pl.isList h0 (by omega) (by rw[hj];simpa using ew) fin hs
 ·have hj:(i+(its.toArray.size:Int)).toNat=j:=by
   rw[seqIndex_neg (by omega) h4]at h1;rw[zai,<-hl];exact zat h1
  exact subscriptTail_builtinR (x:=w) pl.isList.typeIs slot_list_getitem.lookup
   (wpAny_getItem_list_neg (Q:=fun r s'=>r=w/\EP X ρ σ Q r s') pl.isList (by omega) (by rw[zai]<;>omega) (by omega) (by rw[hj];simpa using ew) ⟨rfl,fin⟩) hs
def ix_tup:IxR X (Ju X.K):=by
 intro value slice ρ s σ H x y v u Q I rx ry h hs;obtain⟨p,xs,i,z,rfl,rfl,hq,he,q⟩:=h;cases rx;obtain⟨t,rfl⟩:=ry;obtain⟨its,r,pl,hz⟩:=I.tuple hq;obtain⟨j,h1,h2,h3,h4,h5⟩:=rK he;obtain⟨w,ew,rw'⟩:=r.get h2;have hl:=r.length;have hn:=pZ;have fin:EP X ρ σ Q w s:=⟨z,H,I,rw',q⟩;exact subscriptTail_builtinR (x:=w) pl.typeIs slot_tuple_getitem.lookup
  (getItem_tuple (j:=j) (Q:=fun r s'=>r=w/\EP X ρ σ Q r s') pl (by omega) (by omega) (by rw[zai,<-hl];exact h1) (by simpa using ew) ⟨rfl,fin⟩) hs
def ix_str:IxR X Jv:=by
 intro value slice ρ s σ H x y v u Q I rx ry h hs;obtain⟨z,i,c,rfl,rfl,hz,he,q⟩:=h;obtain⟨t,rfl⟩:=rx;obtain⟨t',rfl⟩:=ry;obtain⟨j,h1,h2,h3,h4,h5⟩:=rK he;have hl:z.cps.toList.length=z.length:=by simp[Str.length]
 rw[hl]at h1 h4 h5;have hn:=pZ;exact tail_any (typeIs_str s z t) slot_str_getitem.lookup (getItem_str (c:=c) (by
  have e1:decide (i < -(2 ^ 63:Int))=false:=zaA (by omega);have e2:decide (i >= 2 ^ 63)=false:=zaA (by omega);rw[e1,e2,Bool.or_false]) (by rw[h1];simpa using h2) ⟨.str ⟨#[c]⟩,H,I.tok _,⟨_,rfl⟩,q⟩) hs
def rIx(K:zbS):R2:=fun x y H Q=>wW K x y H Q\/Ju K x y H Q\/Jv x y H Q
def ix_seq:IxR X (rIx X.K):=ix_list.or (ix_tup.or ix_str)
def mt(lo hi:Option Int)(n:Nat):(sliceBounds lo hi none n).1=((HT.sIx n 0 lo:Nat):Int)/\(sliceBounds lo hi none n).2.1=((HT.sIx n n hi:Nat):Int)/\(sliceBounds lo hi none n).2.2=1:=by
 refine⟨?_,?_,rfl⟩
 ·cases lo with
  |none=>simp[sliceBounds,HT.sIx]
  |some i=>
   simp only[sliceBounds,HT.sIx,Option.getD_none,show(1:Int)>0 by decide,if_true];by_cases h:i<0
   ·simp only[h,if_true]<;>omega
   ·simp only[h,if_false]<;>omega
 ·cases hi with
  |none=>simp[sliceBounds,HT.sIx]
  |some i=>
   simp only[sliceBounds,HT.sIx,Option.getD_none,show(1:Int)>0 by decide,if_true];by_cases h:i<0
   ·simp only[h,if_true]<;>omega
   ·simp only[h,if_false]<;>omega
def sJ(its:List Value)(lo hi:Option Int):slicePick its.toArray lo hi none=((its.drop (HT.sIx its.length 0 lo)).take (HT.sIx its.length its.length hi-HT.sIx its.length 0 lo)).toArray:=by
 obtain⟨h1,h2,h3⟩:=mt lo hi its.toArray.size;unfold slicePick;rw[h1,h2,h3];simp only[sliceRange_one,pick_run,zai]<;>rfl
def Jr(K:zbS):V->Option Int->Option Int->Hp->VK->Prop:=fun x lo hi H Q=>∃a xs,x=.ref a/\SqL K H a xs/\∀p,H p=none->Q (.ref p) (upd H p (.lst (kf xs lo hi)))
def ET:SlR X (Jr X.K):=by
 intro ρ s σ H x v vl vu lo hi sl Q I rx hs pl pu h;obtain⟨a,xs,rfl,hx,q⟩:=h;cases rx;obtain⟨its,r,ht,hz⟩:=I.list hx;have ξ:=r.length;refine⟨"list",_,slot_list_getitem.lookup,ht.isList.typeIs,?_⟩;refine wpAny_getItem_list_slice ht.isList hs pl pu .none (by simp) ?_ (by rw[zai]<;>omega);rw[sJ,<-ξ];refine⟨.ref s.heap.objs.size,_,I.laid (t':=s.toks) (o:=.lst (kf xs lo hi)) (fun b ob q=>zaf _ q) (zav _) ?_,rfl,q _ (I.hok.fresh (zav _))⟩;exact⟨zau (oz xs lo hi) hz,_,0,(r.drop (HT.sIx xs.length 0 lo)).take (HT.sIx xs.length xs.length hi-HT.sIx xs.length 0 lo),zan _ rfl⟩
def u4:CallR X (.type "list") (fun xs H Q=>∃p ys,xs=[.ref p]/\(SqL X.K H p ys\/SqT X.K H p ys)/\∀l,H l=none->Q (.ref l) (upd H l (.lst ys))):=by
 intro ρ s σ H xs us Q I r h;obtain⟨p,ys,rfl,hq,q⟩:=h;obtain⟨u,rfl,rx⟩:=cZ r;cases rx;have fin:∀(its:List Value),Vals ys its->ys.length<=sizeLine->∀(h':Heap) (c':Nat),(∀b o',s.heap.get? b=some o'->h'.get? b=some o') ->
   h'.get? s.heap.objs.size=some { cls:=.type "list",dict:=none,data:=.seq its.toArray c',slots:=#[] }->EP X ρ σ Q (.ref s.heap.objs.size) { s with heap:=h' }:=fun its r' hz h' c' kp e=>
  ⟨.ref s.heap.objs.size,_,I.laid (t':=s.toks) kp (zav _) (show ObjOk X.prog X.w _ h' _ (.lst ys)from⟨hz,its,c',r',e⟩),rfl,q _ (I.hok.fresh (zav _))⟩
 rcases hq with hq|hq
 ·obtain⟨its,r',pl,hz⟩:=I.list hq;have ξ:=r'.length;obtain⟨o,ho,hc,n,hd⟩:=pl.isList;exact call_list_seq p (.inl rfl) ho hc hd (fun h' c' kp e=>fin its r' hz h' c' kp e) (by simp only[zai]<;>omega)
 ·obtain⟨its,r',pl,hz⟩:=I.tuple hq;have ξ:=r'.length;obtain⟨o,ho,hc,n,hd⟩:=pl;exact call_list_seq p (.inr rfl) ho hc hd (fun h' c' kp e=>fin its r' hz h' c' kp e) (by simp only[zai]<;>omega)
def sM:CallR X (.type "tuple") (fun xs H Q=>∃p ys,xs=[.ref p]/\((SqL X.K H p ys/\∀l,H l=none->Q (.ref l) (upd H l (.tup ys)))\/(SqT X.K H p ys/\Q (.ref p) H))):=by
 intro ρ s σ H xs us Q I r h;obtain⟨p,ys,rfl,h⟩:=h;obtain⟨u,rfl,rx⟩:=cZ r;cases rx;rcases h with⟨hq,q⟩|⟨hq,q⟩
 ·obtain⟨its,r',pl,hz⟩:=I.list hq;have ξ:=r'.length;refine call_tuple_list pl.isList (fun h' kp=>?_) (by simp only[zai]<;>omega);have I1:Inv X ρ σ H { s with heap:=h' }:=I.kept (t':=s.toks) kp;have I2:Inv X ρ σ (upd H h'.objs.size (.tup ys)) { s with heap:=h'.push { cls:=.type "tuple",data:=.seq its.toArray } }:=
   I1.laid (t':=s.toks) (fun b o e=>zaf _ e) (zav _) (show ObjOk X.prog X.w _ _ _ (.tup ys)from⟨hz,its,r',IsTupN.new _ _⟩)
  exact⟨.ref h'.objs.size,_,I2,rfl,q _ (I1.hok.fresh (zav _))⟩
 ·obtain⟨its,r',pl,hz⟩:=I.tuple hq;exact call_tuple_same pl ⟨.ref p,H,I,rfl,q⟩
def tyV(K:zbS)(T:String)(x:V)(H:Hp):Prop:=match x with
 |.str _=>T="str"
 |.int _=>T="int"
 |.ref p=>(T="list"/\∃xs,SqL K H p xs)\/(T="tuple"/\∃o,K.lookup p=some o/\o.cls=.type "tuple"/\o.dict=none) \/
   (T="dict"/\((∃kvs,H p=some (.dK kvs))\/∃kvs ad,H p=some (.dT kvs ad)))\/(T="set"/\∃S n,H p=some (.set S n))
 |_=>False
def IP{v:Value}(I:Inv X ρ σ H s)(r:RelV x v)(ty:tyV X.K T x H):
  s.TypeIs v T/\∀a,v=.ref a->∃ob,s.heap.get? a=some ob/\ob.dict=none:=by
 cases x with
 |str z=>
  obtain⟨t,rfl⟩:=r;cases(show T="str" from ty);exact⟨typeIs_str s z t,fun _ e=>nomatch e⟩
 |int i=>
  obtain⟨t,rfl⟩:=r;cases(show T="int" from ty);exact⟨typeIs_int s i t,fun _ e=>nomatch e⟩
 |ref p=>
  cases r;rcases ty with⟨rfl,xs,hq⟩|⟨rfl,o,hk,hc,hd⟩|⟨rfl,hk⟩|⟨rfl,S,n,hk⟩
  ·obtain⟨its,_,pl,_⟩:=I.list hq;refine⟨pl.isList.typeIs,fun a e=>?_⟩;cases e;obtain⟨o,n,e,c,hd,_⟩:=pl;exact⟨o,e,hd⟩
  ·refine⟨⟨o,I.kIn p o hk,hc⟩,fun a e=>?_⟩;cases e;exact⟨o,I.kIn _ o hk,hd⟩
  ·have z:∃o,s.heap.get? p=some o/\o.ExactDict:=by
    rcases hk with⟨kvs,hk⟩|⟨kvs,ad,hk⟩
    ·obtain⟨_,_,_,_,o,_,_,e,ex,_⟩:=I.hok p _ hk;exact⟨o,e,ex⟩
    ·obtain⟨_,_,_,_,o,_,_,e,ex,_⟩:=I.hok p _ hk;exact⟨o,e,ex⟩
   obtain⟨o,e,ex⟩:=z;refine⟨⟨o,e,ex.1⟩,fun a e2=>?_⟩;cases e2;exact⟨o,e,ex.2.1⟩
  ·obtain⟨o,_,_,_,e,ex,_⟩:=I.hok p _ hk;refine⟨⟨o,e,ex.1⟩,fun a e2=>?_⟩;cases e2;exact⟨o,e,ex.2.1⟩
 |_=>exact False.elim ty
def tBM(K:zbS)(T:String)(r:V->List V->Hp->VK->Prop)(to:TE)(t:TA):TE:=fun σ H Q=>to σ H fun x H1=>tyV K T x H1/\t σ H1 fun xs H2=>r x xs H2 Q
variable{o:Expr}{es:List Expr}{to:TE}{t:TA}{name:Str}{μ ω:Pos}{id:String}{r:V->List V->Hp->VK->Prop}
def pT(pa:PlainAttrs T)(slot:Slot T name id)(hty:typeOf (.builtin id)=pure (.type "method_descriptor"))(hm:MtR X id r)(ho:PE X o to)(ha:PA X (e::es) t)
  (η:attributeBase o name X.env (eval o X.env)=eval o X.env:=by rfl)
  (hfew:((backTo ω (starEach (e::es) X.env)).all (fun x=>!x.1)&&(backToKw ω (keywordEach [] X.env)).all (fun x=>x.1.isSome)
  &&decide ((e::es).length+([]:List Keyword).length+(if([]:List Keyword).isEmpty then 0 else 1)<30))=true:=by rfl)
  (θ:(μ.endLine==ω.line)=true:=by rfl) (hs:starEach (e::es) X.env=(false,eval e X.env)::starEach es X.env:=by rfl) (ι:(backTo ω (starEach es X.env)).any (·.1)=false:=by rfl):
  PE X (.Call (.Attribute o name μ) (e::es) [] ω) (tBM X.K T r to t):=by
 intro ρ s σ H Q I h;refine wpAny_Call_method_late η hfew θ rfl (thn (ho ρ s σ H _ I h) fun v s1 ⟨x,H1,I1,r1,ty,q1⟩=>?_);obtain⟨h1,h2⟩:=IP I1 r1 ty;refine⟨T,id,pa,slot,hty,h1,h2,?_⟩;have hA:=ha ω ρ s1 σ H1 _ I1 q1;rw[hs]at hA ⊢;refine Calls.callWith_builtin (by show(false || (backTo ω (starEach es X.env)).any (·.1))=false;rw[ι]<;>rfl) (Calls.evalArgs_plain ?_);exact thn hA fun us s2 ⟨vs,H2,I2,r2,q2⟩=>hm ρ s2 σ H2 x vs v us Q I2 r1 r2 q2
end
def MtM(X:Cx)(id:String)(r:V->List V->Hp->VK->Prop):Prop:=
 ∀(ρ:List (Addr×Obj)) (s:Shared) (σ:St) (H:Hp) (x:V) (xs:List V) (v:Value) (us:List Value) (Q:VK),Inv X ρ σ H s->RelV x v->Vals xs us->r x xs H Q ->
  wpAny (model X.prog X.w) X.A (call (.builtin id) (v::us)) (EP X ρ σ Q) X.xe s
def Vals.one:∀{x:V} {us:List Value},Vals [x] us->∃u,us=[u]/\RelV x u
 |_,_,.cons r .nil=>⟨_,rfl,r⟩
def Vals.two{y:V}{us:List Value}(h:Vals [x,y] us):∃u v,us=[u,v]/\RelV x u/\RelV y v:=by
 cases h with
 |cons r t=>
  cases t with
  |cons q n=>
   cases n;exact⟨_,_,rfl,r,q⟩
theorem Vals.eraseIdx:∀{xs:List V} {us:List Value} (i:Nat),Vals xs us->Vals (xs.eraseIdx i) (us.eraseIdx i)
 |_,_,_,.nil=>.nil
 |_,_,0,.cons _ t=>t
 |_,_,i+1,.cons r t=>.cons r (Vals.eraseIdx i t)
theorem Vals.rep{xs:List V}{us:List Value}(h:Vals xs us):∀k:Nat,Vals (List.replicate k xs).flatten (List.replicate k us).flatten
 |0=>.nil
 |k+1=>by
  rw[List.replicate_succ,List.replicate_succ,List.flatten_cons,List.flatten_cons];exact Vals.append h (Vals.rep h k)
theorem rZ{α:Type}:∀(l:List α) (i:Nat),(l.eraseIdx i).length<=l.length
 |[],_=>zav _
 |_::_,0=>Nat.le_succ _
 |_::r,i+1=>Nat.succ_le_succ (rZ r i)
section
variable{l b:Addr}{xs ys zs:List V}
def Inv.lset{its':List Value}{f:Array Value->Array Value}(I:Inv X ρ σ H s)(hH:H l=some (.lst xs))
  (e:s.heap.get? l=some { cls:=.type "list",data:=.seq its.toArray n }) (hf:f its.toArray=its'.toArray) (hv:Vals ys its') (hz:ys.length<=sizeLine):
  Inv X ρ σ (upd H l (.lst ys)) { s with heap:=s.heap.update l (Obj.mapSeq f),toks:=t' }:=by
 have q:=PySem.IsL.update e f;rw[hf]at q;refine I.write (x:=l) (e:=l) (by rw[hH];exact trivial) (.inl rfl) (fun b' u hb hu=>(Heap.get?_update_other s.heap (Obj.mapSeq f) (Ne.symm hb)).trans hu) ⟨_,q⟩ ?_;exact⟨hz,its',_,hv,q⟩
def Inv.lnew(I:Inv X ρ σ H s)(hv:Vals ys its)(hz:ys.length<=sizeLine):
  Inv X ρ σ (upd H s.heap.objs.size (.lst ys)) { s with heap:=s.heap.push { cls:=.type "list",data:=.seq its.toArray },toks:=t' }:=
 I.laid (fun _ _ q=>zaf _ q) (zav _) ⟨hz,its,0,hv,zan _ rfl⟩
def Inv.fresh(I:Inv X ρ σ H s):H s.heap.objs.size=none:=I.hok.fresh (zav _)
def Inv.lstM(I:Inv X ρ σ H s)(hH:H l=some (.lst xs)):xs.length<=sizeLine/\∃(its:List Value) (n:Nat),Vals xs its/\xs.length=its.length/\s.heap.get? l=some { cls:=.type "list",data:=.seq its.toArray n }:=by
 obtain⟨z,its,n,r,e⟩:=I.hok l _ hH;exact⟨z,its,n,r,r.length,e⟩
def uh(h:n<=sizeLine):Builtin.List.listTooLong n=false:=by
 unfold Builtin.List.listTooLong;exact zaA (by omega)
end
def v8:V->List V->Hp->VK->Prop:=fun x vs H Q=>∃l xs y,x=.ref l/\vs=[y]/\H l=some (.lst xs)/\xs.length<sizeLine/\Q .non (upd H l (.lst (xs++[y])))
def mF:MtM X "list.append" v8:=by
 intro ρ s σ H x vs v us Q I rx rv h;obtain⟨l,xs,y,rfl,rfl,hH,hz,q⟩:=h;cases rx;obtain⟨u,rfl,ru⟩:=rv.one;obtain⟨z,its,n,r,hl,e⟩:=I.lstM hH;refine call_meets F.slot_list_append ⟨_,e,rfl⟩ F.entry_list_append (F.args_list_append_2 _ _) (PySem.list_append l its.toArray n u (by rw[zai];omega)) ⟨e,?_⟩;refine⟨.non,_,I.lset (its':=its++[u]) hH e (by simp) (r.append (.cons ru .nil)) ?_,rfl,q⟩;rw[zae,List.length_singleton];omega
def yB:V->List V->Hp->VK->Prop:=fun x vs H Q=>∃l xs i k y,x=.ref l/\vs=[.int i]/\H l=some (.lst xs)/\-(2 ^ 63)<=i/\i<2 ^ 63/\seqIndex? i xs.length=some k/\xs[k]?=some y/\Q y (upd H l (.lst (xs.eraseIdx k)))
def AM:MtM X "list.pop" yB:=by
 intro ρ s σ H x vs v us Q I rx rv h;obtain⟨l,xs,i,k,y,rfl,rfl,hH,h1,h2,hk,hy,q⟩:=h;cases rx;obtain⟨u,rfl,ru⟩:=rv.one;obtain⟨t,rfl⟩:=ru;obtain⟨z,its,n,r,hl,e⟩:=I.lstM hH;obtain⟨w,hw,rw'⟩:=r.get hy;refine call_meets F.slot_list_pop ⟨_,e,rfl⟩ F.entry_list_pop (F.args_list_pop_2 _ _)
  (MeetsSeq.list_pop_at l its.toArray n i t k w (fitsIndex_both h1 h2) (by rw[zai,<-hl];exact hk) (by rw[<-Array.getElem?_toList];exact hw) (by rw[zai];omega)) ⟨e,?_⟩
 refine⟨y,_,I.lset (its':=its.eraseIdx k) hH e ?_ (r.eraseIdx k) ?_,rw',q⟩
 ·show its.toArray.eraseIdxIfInBounds k=(its.eraseIdx k).toArray;rw[List.eraseIdxIfInBounds_toArray]
 ·have:=rZ xs k;omega
def Fy{α:Type}(xs:List α)(k:Nat):(List.replicate k xs).flatten.length=k*xs.length:=by
 induction k with
 |zero=>simp
 |succ k ih=>rw[List.replicate_succ,List.flatten_cons,zae,ih,Nat.succ_mul,Nat.add_comm]
end L2
namespace Att
variable{P:Params}{h:Heap}{l:OpenLaw}{n:Nat}
open PySem PySem.W PySem.Calls PyProof.Rows
def p9:∀(ns:List Int) (vs:List Value),WellAll P h vs (ns.map WData.int)->IntsAre vs ns:=by
 intro ns
 induction ns with
 |nil=>
  intro vs w;rw[za0]at w;cases w;exact .nil
 |cons n ns ih=>
  intro vs w;rw[zar]at w;cases w with
  |cons a b=>
   cases a;exact .cons _ _ (ih _ b)
def yo(hn:l.most=some n){args:List WData}{vals:List Value}
  (hpre:l.row.toRowW.claim.pre args=true) (hwl:WellAll P h vals args):
  ∃a vs ns,vals=[Value.ref a]/\args=[WData.list (ns.map WData.int)]/\h.get? a=some { cls:=.type "list",data:=.seq vs.toArray }/\IntsAre vs ns/\ns.length<=n:=by
 have hsh:WShape.hasAll [] args [.list .int]=true:=(pre_splitW hpre).1;have hc:l.pre.holds [] { args:=args }=true:=(pre_splitW hpre).2;obtain⟨d,r,rfl,h1,h2⟩:=hasAllW_cons hsh;obtain rfl:=hasAllW_nil h2;obtain⟨xs,rfl,h3⟩:=hasW_list h1;obtain⟨ns,rfl⟩:=items_int h3;have ξ:ns.length<=n:=by
  unfold OpenLaw.pre at hc;have h4:(WTm.not (.lt (.lit (.int (n:Int))) (.len (.arg 0)))).holds [] { args:=[.list (ns.map .int)] }=true:=by
   have h4:=(holds_andW hc).1;rw[hn]at h4;exact h4
  have h5:=condW_of h4 (w_not (w_lt w_lit (w_len_list (w_arg rfl))));rw[zad]at h5;refine Nat.le_of_not_lt fun q=>?_;have q':(n:Int)<((ns.length:Nat):Int):=by omega
  first
   | (rw[zaB q']at h5;exact absurd h5 (by decide))
   | (simp at h5;omega)
 cases hwl with
 |cons w1 w2=>
  cases w2;cases w1 with
  |list ho hall=>exact⟨_,_,ns,rfl,rfl,ho,p9 ns _ hall,ξ⟩
def yF(l:OpenLaw)(args:List WData):l.row.toRowW.claim.post args (.bool true) args=true:=
 postW_of (r:=l.row.toRowW) (X:=(true==true))
  (show WShape.has [] (.bool true) .bool=true by first|rfl|decide|simp[WShape.has,WShape.arms,WShape.armsAll])
  (show(WTm.eq .res (.lit (.bool true))).value [] { args:=args,res:=some (.bool true),after:=args }=some (.bool (true==true))from w_eq_bool (w_res rfl) w_lit) rfl
def attach_call{q:Program}{f':List Str}{XP:(Str->Option Value)->Heap->Prop}{YP:World->Heap->Prop}{d:DefRec}
  (hn:l.most=some n) (hdf:d.params.defaults=[])
  (call:∀(w:World) (s₀ s₁:Shared) (mg mb:Str->Option Value) (fa:Addr) (o:Obj) (pm cd doc:Value) (a:Addr) (vs:List Value) (ns:List Int),
   Ground q f' [] XP w s₀ mg mb s₁.heap->YP w s₁.heap ->
   s₁.heap.get? fa=some o->o.data=.func (docDef d.name d.params d.body d.scope pm cd doc)->s₁.heap.CodeRec cd d.name->mg d.name=some (.ref fa) ->
   s₁.heap.get? a=some { cls:=.type "list",data:=.seq vs.toArray }->IntsAre vs ns->ns.length<=n->s₁.gens=#[] ->
   codeAny (model l.prog w) callerA (.call (.ref fa) ⟨[.ref a],[]⟩) (fun r s'=>r=.ok (.ret (.bool true))/\OldK s₁.heap s'.heap/\s'.os=s₁.os/\AllBare s'.gens) s₁):
  WalkO q f' XP YP l.row.toRowW d [] (fun f vs=>PySem.call f vs):=by
 intro w s₀ s₁ mg mb G Y fa o pm cd doc dV kV ho hd hcd hD hmg hg args vals as hpre hlay hrd hwl hlo;obtain rfl:dV=.none:=Dflts.none hD hdf;obtain rfl:kV=.none:=Dflts.noKw hD;obtain⟨a,vs,ns,rfl,rfl,hobj,hints,ξ⟩:=yo hn hpre hwl;refine enter_call (codeAny_mono (call w s₀ s₁ mg mb fa o pm cd doc a vs ns G Y ho (fd_plain hd) hcd hmg hobj hints ξ hg) fun r s' hq=>?_);obtain⟨rfl,h2,h3,h4⟩:=hq;exact⟨.inl ⟨.bool true,.bool true,[],rfl,fun _=>rfl,.bool true,yF l _,fun _=>⟨List.Pairwise.nil,fun _ hm=>(nomatch hm)⟩⟩,h2,h3,h4⟩
end Att
namespace L2
variable{P:Program}{w:World}{K:zbS}{mg:Str->Option Value}{a f:Addr}{fd:FuncData}{x qual:Str}{X:Cx}{st:Stmt}{ps:List Str}{A:Around}{o:Option V}{y:V}{u:Value}{H H':Hp}{kvs:List (List (Option Key)×V)}{xs:List (List (Option Key)×Addr×Value)}{ad:Addr->Prop}{ρ:List (Addr×Obj)}{σ:St}{s:Shared}{E Q:Value->Shared->Prop}{h':Heap}{value:Expr}{pos:Pos}{tv:TE}
open PySem PySem.Spec PyProof.Rows
theorem rS:∀{vs:List Value} {ns:List Int},IntsAre vs ns->Vals (ns.map V.int) vs
 |_,_,.nil=>.nil
 |_,_,.cons n t h=>.cons ⟨t,rfl⟩ (rS h)
def BJ(H:Hp):Prop:=∀b,H b=none\/∃o xs,H b=some (.frz o (.lst xs))
def AU{mb:Str->Option Value}{CX:CXT}{k:Nat}{fa:Addr}{sp:Sp}{s₁:Shared}{vs:List Value}{ns:List Int}
  (KX:K.In s₁.heap) (hns:s₁.heap.Ns mainGlobals mg) (hb:s₁.heap.Ns builtinsNs mb) (hbb:∀x:Str,x≠"__name__"->mb x=bootBuiltins x) (hlim:s₁.heap.NoLimit) (hmods:∃mm,s₁.heap.Ns sysModules mm) (hg:s₁.gens=#[])
  (ha:s₁.heap.get? a=some { cls:=.type "list",data:=.seq vs.toArray }) (hi:IntsAre vs ns) (hl:ns.length<=sizeLine) (hr:Room k callerA)
  (F:∀base:Heap,K.In base->base.Ns mainGlobals mg->FnOk P w K mg base CX k fa fd [x] sp) (hbind:∀(s:Shared) (u:Value),BindsTo s fd ⟨[u],[]⟩ [(x,u)])
  (hsp:∀H:Hp,BJ H->SqL K H a (ns.map V.int)->sp [.ref a] H (fun v _=>v=.bl true) fun _ _ _=>False)
  (hCX:∀H e s',CX [] H s₁ (fun _ _ _=>False) e s'->False):
  codeAny (model P w) callerA (.call (.ref fa) ⟨[.ref a],[]⟩) (fun r s'=>r=.ok (.ret (.bool true))/\OldK s₁.heap s'.heap/\s'.os=s₁.os/\AllBare s'.gens) s₁:=by
 have rv:=rS hi;have lenV:=hi.length;have core:∀H:Hp,BJ H->SqL K H a (ns.map V.int)->HOk P w H s₁.heap->(∀b,H b≠none->b=a)->(H a≠none->K.lookup a=none) ->
   codeAny (model P w) callerA (.call (.ref fa) ⟨[.ref a],[]⟩) (fun r s'=>r=.ok (.ret (.bool true))/\OldK s₁.heap s'.heap/\s'.os=s₁.os/\AllBare s'.gens) s₁:=by
  intro H hO hS hok hA hK;have base_of:∀{b:Addr} {o:Obj},s₁.heap.get? b=some o->H b=none->(ka s₁.heap H).get? b=some o:=fun e n=>uI e n;have noA:∀{b:Addr} {o:Obj} {es:Array DictEntry} {ep:Nat},s₁.heap.get? b=some o->o.data=.dict es ep->H b=none:=fun {b o es ep} e d=>by
   cases q:H b with
   |none=>rfl
   |some u=>
    have e':b=a:=hA b (by rw[q];simp);subst e';rw[ha]at e;cases e;have d':Data.seq vs.toArray _=Data.dict es ep:=d;cases d'
  have nsK:∀{b:Addr} {m:Str->Option Value},s₁.heap.Ns b m->(ka s₁.heap H).Ns b m:=fun {b m} ⟨o,es,ep,e,d,r⟩=>⟨o,es,ep,base_of e (noA e d),d,r⟩;have hKb:K.In (ka s₁.heap H):=fun b o e=>base_of (KX b o e) (by
   cases q:H b with
   |none=>rfl
   |some u=>
    have e':b=a:=hA b (by rw[q];simp);subst e';rw[hK (by rw[q];simp)]at e;cases e)
  have hM:Mod K mg (ka s₁.heap H):=⟨hKb,nsK hns,⟨mb,nsK hb,hbb⟩,let⟨mc,h1,h2⟩:=hlim;⟨mc,nsK h1,h2⟩,let⟨mm,h1⟩:=hmods;⟨mm,nsK h1⟩⟩;have e0:Env0 P w K mg (ka s₁.heap H) callerA [] s₁ H:=⟨rfl,hM,fun b o e=>wc e,Nat.le_of_eq (zq _ _),trivial,fun b hb=>absurd (show b∈([]:List Addr)from hb) (by simp),hok,.of_eq hg⟩;refine codeAny_mono ((F _ hKb (nsK hns)).run callerA [] s₁ H ⟨[.ref a],[]⟩ [.ref a] [.ref a] _ _ hr e0 (hbind s₁ (.ref a)) (.cons rfl .nil) (hsp H hO hS)) fun r s' h=>?_;cases r with
  |error e=>exact(hCX H e s' h).elim
  |ok fl=>
   cases fl with
   |next=>exact False.elim h
   |brk=>exact False.elim h
   |cont=>exact False.elim h
   |ret u=>
    obtain⟨v,H',os,bare,un,hok',r',q⟩:=h;have q':v=.bl true:=q;subst q';obtain rfl:u=Value.bool true:=r';refine⟨rfl,OldK.of_keep fun b o e=>?_,os,bare⟩;cases q:H b with
    |none=>exact un.keep b o e q (by intro z;exact absurd (show b∈([]:List Addr)from z) (by simp)) (by simp)
    |some u=>
     rcases hO b with z|⟨ob,xs,z⟩
     ·rw[q]at z;cases z
     ·have z2:=un.frzs b ob _ z;obtain⟨e1,_⟩:=hok b _ z;obtain⟨e2,_⟩:=hok' b _ z2;rw[e]at e1;cases e1;exact e2
 cases hk:K.lookup a with
 |some o=>
  have e:=KX a o hk;rw[ha]at e;cases e;refine core (fun _=>none) (fun _=>.inl rfl) (.inr ⟨_,vs.toArray,_,hk,rfl,rfl,rfl,by rw[zai,lenV];exact hl,by simpa using rv⟩) (fun b u z=>by have z':(none:Option HO)=some u:=z;cases z') (fun b z=>absurd rfl z) fun z=>absurd rfl z
 |none=>
  refine core (fun b=>if b=a then some (.frz { cls:=.type "list",data:=.seq vs.toArray } (.lst (ns.map V.int)))else none) (fun b=>?_) (.inl (.inr ⟨{ cls:=.type "list",data:=.seq vs.toArray },if_pos rfl⟩)) (fun b u z=>?_) (fun b z=>?_) fun _=>hk
  ·by_cases hb:b=a
   ·exact .inr ⟨_,_,if_pos hb⟩
   ·exact .inl (if_neg hb)
  ·by_cases hb:b=a
   ·have z':=(if_pos hb).symm.trans z;cases z';subst hb;exact⟨ha,by rw[zad];exact hl,vs,_,rv,ha⟩
   ·have z':=(if_neg hb).symm.trans z;cases z'
  ·by_cases hb:b=a
   ·exact hb
   ·exact absurd (if_neg hb) z
def walk_of{l:PySem.W.OpenLaw}{n k:Nat}{q:Program}{f':List Str}{XP:(Str->Option Value)->Heap->Prop}{YP:World->Heap->Prop}{d:DefRec}{K:Params->zbS}{CX:World->CXT}{sp:World->Sp} 
  (hn:l.most=some n) (hn2:n<=sizeLine) (hdf:d.params.defaults=[]) (hr:Room k callerA)
  (hq:importsNone q=true) (hY:∀(w:World) (h:Heap),YP w h->(K w.params).In h)
  (F:∀(w:World) (mg:Str->Option Value) (fa:Addr) (h:Heap),(K w.params).In h->h.Ns mainGlobals mg->mg d.name=some (.ref fa) ->
   ∃fd:FuncData,(∀(s:Shared) (u:Value),BindsTo s fd ⟨[u],[]⟩ [(x,u)]) /\
    ∀base:Heap,(K w.params).In base->base.Ns mainGlobals mg->FnOk l.prog w (K w.params) mg base (CX w) k fa fd [x] (sp w))
  (hsp:∀(w:World) (H:Hp) (a:Addr) (ns:List Int),ns.length<=n->BJ H->SqL (K w.params) H a (ns.map V.int)->sp w [.ref a] H (fun v _=>v=.bl true) fun _ _ _=>False)
  (hCX:∀(w:World) (H:Hp) (s:Shared) (e:Value) (s':Shared),CX w [] H s (fun _ _ _=>False) e s'->False):
  PySem.W.WalkO q f' XP YP l.row.toRowW d [] (fun f vs=>PySem.call f vs):=by
 refine Att.attach_call hn hdf fun w s₀ s₁ mg mb fa o pm cd doc a vs ns G Y ho hd hcd hmg hobj hints ξ hg=>?_;have KX:=hY w _ Y;obtain⟨fd,hb,hF⟩:=F w mg fa _ KX G.T.g hmg;exact AU KX G.T.g G.T.b G.T.builtins G.T.nolimit (let⟨mm,hm,_⟩:=(G.T.seer hq).mods;⟨mm,hm⟩) hg hobj hints (zau ξ hn2) hr hF hb (fun H hO hS=>hsp w H a ns ξ hO hS) fun H e s'=>hCX w H s₁ e s'
def dB(s:Stmt):Arguments:=match s with
 |.FunctionDef _ a _ _ _ _ _ _ _ _=>a
 |_=>{ posonlyargs:=[],args:=[],vararg:=none,kwonlyargs:=[],kw_defaults:=[],kwarg:=none,defaults:=[] }
def bW(s:Stmt):List Stmt:=match s with
 |.FunctionDef _ _ b _ _ _ _ _ _ _=>b
 |_=>[]
def ak(s:Stmt):Scope:=match s with
 |.FunctionDef _ _ _ _ _ _ sc _ _ _=>sc
 |_=>{ kind:=.function,names:=[],isGenerator:=false,isCoroutine:=false }
abbrev CX0:CXT:=fun _ _ _ _ _ _=>False
abbrev E0:XK:=fun _ _ _=>False
def LQ:va CX0 X E0:=fun _ _ _ _ _ _ _ h=>h.elim
structure Fun(K:zbS)(x qual:Str)(st:Stmt)(f:Addr)(fd:FuncData):Prop where
 ex:∃(oc:Value) (od:Option Addr) (kV doc pm:Value) (an:Option Addr) (cdv ct:Value) (osl:Array (Option Value)),
  fd=PySem.W.fnOf x qual (dB st) (bW st) (ak st) .none kV doc pm an cdv ct/\K.lookup f=some ⟨oc,od,.func fd,osl⟩/\PySem.W.codeIn K cdv qual=true
 kp:PySem.W.keepIn K (.ref f)=true
section
variable{base:Heap}
def Fun.ok{N:List Str}{k:Nat}{sp:Sp}(F:Fun K x qual st f fd)(S:FnScope N ps (ak st))(len:∀vs H Q E,sp vs H Q E->vs.length=ps.length)
  (hbody:∀(cdv:Value) (A:Around) (outer:List Env) (s:Shared) (H:Hp) (vs:List V) (Q:VK) (E:XK),Room k (A.deeper (envOfC qual (ak st) s.heap.objs.size f cdv))->sp vs H Q E ->
   ∃t,PSs (iw CX0 P w K mg base N qual (ak st) f cdv A outer s H E).nox (bW st) t/\t { nx:=fun _ H'=>Q .non H',rt:=Q } (dy N vs) H):FnOk P w K mg base CX0 (k+1) f fd ps sp:=by
 obtain⟨oc,od,kV,doc,pm,an,cdv,ct,osl,rfl,lk,hcd⟩:=F.ex;refine EE lk hcd S len fun A outer s H vs Q E hr hsp=>?_;obtain⟨t,h,q⟩:=hbody cdv A outer s H vs Q E hr hsp;exact⟨t,h.nox,q⟩
def Fun.binds(F:Fun K x qual st f fd)
  (h:∀(kV doc pm:Value) (an:Option Addr) (cdv ct:Value) (us:List Value),us.length=ps.length->bindArgs (PySem.W.fnOf x qual (dB st) (bW st) (ak st) .none kV doc pm an cdv ct) ⟨us,[]⟩=pure (ps.zip us)):Binds K fd ps []:=by
 obtain⟨oc,od,kV,doc,pm,an,cdv,ct,osl,rfl,lk,hcd⟩:=F.ex;exact .all (h kV doc pm an cdv ct)
def qc{oc:Value}{od an:Option Addr}{osl:Array (Option Value)}{kV doc pm cdv ct:Value}(l:K.lookup f=some ⟨oc,od,.func (PySem.W.fnOf x qual (dB st) (bW st) (ak st) .none kV doc pm an cdv ct),osl⟩)
  (c:PySem.W.codeIn K cdv qual=true) (k:PySem.W.keepIn K (.ref f)=true):Fun K x qual st f (PySem.W.fnOf x qual (dB st) (bW st) (ak st) .none kV doc pm an cdv ct):=⟨⟨oc,od,kV,doc,pm,an,cdv,ct,osl,rfl,l,c⟩,k⟩
end
def jK{k:Nat}(hr:Room k A):A.units+1<cLine:=Nat.lt_of_le_of_lt (Nat.add_le_add_left (by decide:1<=64) _) hr.units
section
variable{κ:Type}[DecidableEq κ]
def fM(kvs:List (κ×V))(k:κ):Option V:=(kvs.find? fun kv=>decide (kv.1=k)).map (·.2)
def dI(kvs:List (κ×V))(k:κ)(v:V):List (κ×V):=
 if(kvs.any fun kv=>decide (kv.1=k))=true then kvs.map (fun kv=>if kv.1=k then(kv.1,v)else kv)else kvs++[(k,v)]
def kR{p:κ×V}{r:List (κ×V)}{k:κ}(e:p.1=k):fM (p::r) k=some p.2:=by simp[fM,zbm,e]
def kS{p:κ×V}{r:List (κ×V)}{k:κ}(e:¬p.1=k):fM (p::r) k=fM r k:=by simp[fM,zbm,e]
theorem tK(k:κ):∀kvs:List (κ×V),(kvs.any fun kv=>decide (kv.1=k))=(fM kvs k).isSome
 |[]=>rfl
 |p::r=>by
  rw[List.any_cons];by_cases e:p.1=k
  ·simp only[kR e,zaB e,Bool.true_or,Option.isSome_some]
  ·rw[kS e,zaA e,Bool.false_or];exact tK k r
def j9(kvs:List (κ×V))(k:κ)(v:V):(dI kvs k v).length<=kvs.length+1:=by
 unfold dI;split
 ·rw[zad];omega
 ·rw[zae,zac,List.length_nil];omega
def RelO.isSome_eq{u:Option Value}(r:RelO o u):o.isSome=u.isSome:=by
 cases o with
 |none=>cases u with
  |none=>rfl
  |some _=>exact(show False from r).elim
 |some _=>cases u with
  |none=>exact(show False from r).elim
  |some _=>rfl
def KV.val{kvs:List (κ×V)}{vs:List (κ×Value)}(r:KV kvs vs)(k:κ):RelO (fM kvs k) (valueAt vs k):=by
 unfold KV at r
 induction r with
 |nil=>exact True.intro
 |@cons p q ps qs h t ih=>
  obtain⟨h1,h2⟩:=h;by_cases e:p.1=k
  ·have e':q.1=k:=h1.symm.trans e;have b:valueAt (q::qs) k=some q.2:=by simp[valueAt,zbm,e']
   rw[kR e,b];exact h2
  ·have e':¬q.1=k:=fun z=>e (h1.trans z);have b:valueAt (q::qs) k=valueAt qs k:=by simp[valueAt,zbm,e']
   rw[kS e,b];exact ih
theorem KV.any{kvs:List (κ×V)}{vs:List (κ×Value)}(r:KV kvs vs)(k:κ):(kvs.any fun kv=>decide (kv.1=k))=vs.any fun kv=>decide (kv.1=k):=by
 unfold KV at r
 induction r with
 |nil=>rfl
 |cons h t ih=>rw[List.any_cons,List.any_cons,ih,h.1]
def KV.repl{kvs:List (κ×V)}{vs:List (κ×Value)}(r:KV kvs vs)(k:κ)(ry:RelV y u):
  KV (kvs.map fun kv=>if kv.1=k then(kv.1,y)else kv) (vs.map fun kv=>if kv.1=k then(kv.1,u)else kv):=by
 unfold KV at r ⊢
 induction r with
 |nil=>exact .nil
 |@cons p q ps qs h t ih=>
  rw[zar,zar];refine .cons ?_ ih;obtain⟨h1,h2⟩:=h;by_cases e:p.1=k
  ·rw[if_pos e,if_pos (h1.symm.trans e)];exact⟨h1,ry⟩
  ·rw[if_neg e,if_neg (fun z=>e (h1.trans z))];exact⟨h1,h2⟩
def KV.put{kvs:List (κ×V)}{vs:List (κ×Value)}(r:KV kvs vs)(k:κ)(ry:RelV y u):KV (dI kvs k y) (stored vs k u):=by
 unfold dI stored;rw[r.any k];by_cases e:(vs.any fun kv=>decide (kv.1=k))=true
 ·rw[if_pos e,if_pos e];exact r.repl k ry
 ·rw[if_neg e,if_neg e];exact Paired.snoc r ⟨rfl,ry⟩
def KV.length{kvs:List (κ×V)}{vs:List (κ×Value)}(r:KV kvs vs):kvs.length=vs.length:=Paired.length r
end
def sZ{k:Key}(r:RelV (kV k) u):(bT P w).is k u=true:=by
 cases k with
 |inl i=>obtain⟨t,e⟩:=(show ∃t,u=Value.int i t from r);subst e;exact vF P w i t
 |inr x=>obtain⟨t,e⟩:=(show ∃t,u=Value.str x t from r);subst e;exact vD P w x t
def J4{a b:Key}(e:kV a=kV b):a=b:=by
 cases a with
 |inl i=>cases b with
  |inl j=>have e':V.int i=V.int j:=e;injection e' with e';rw[e']
  |inr y=>exact nomatch (show V.int i=V.str y from e)
 |inr x=>cases b with
  |inl j=>exact nomatch (show V.str x=V.int j from e)
  |inr y=>have e':V.str x=V.str y:=e;injection e' with e';rw[e']
def LT{k:Option Key}(r:RelV (oV k) u):(gL P w).is k u=true:=by
 cases k with
 |none=>rw[show u=Value.none from r];rfl
 |some k=>exact sZ (P:=P) (w:=w) r
theorem r8{P:Program}{w:World}:∀{ks:List (Option Key)} {us:List Value},Vals (ks.map oV) us->ItemsAre (gL P w) ks us
 |[],_,r=>by rw[za0]at r;cases r;exact .nil
 |k::ks,_,r=>by
  rw[zar]at r;cases r with
  |cons h t=>exact .cons (LT h) (r8 t)
abbrev KT(H:Hp)(ad:Addr->Prop):List (List (Option Key)×V)->List (List (Option Key)×Addr×Value)->Prop:=Paired fun p q=>p.1=q.1/\(H q.2.1=some (.tup (p.1.map oV))/\ad q.2.1)/\RelV p.2 q.2.2
def KT.val(r:KT H ad kvs xs)(k:List (Option Key)):RelO (fM kvs k) ((atKey xs k).map (·.2)):=by
 induction r with
 |nil=>exact True.intro
 |@cons p q ps qs h t ih=>
  obtain⟨h1,_,h2⟩:=h;by_cases e:p.1=k
  ·have e':q.1=k:=h1.symm.trans e;have b:atKey (q::qs) k=some q.2:=by simp[atKey,zbm,e']
   rw[kR e,b];exact h2
  ·have e':¬q.1=k:=fun z=>e (h1.trans z);have b:atKey (q::qs) k=atKey qs k:=by simp[atKey,zbm,e']
   rw[kS e,b];exact ih
def KT.repl(r:KT H ad kvs xs)(k:List (Option Key))(ry:RelV y u):
  KT H ad (kvs.map fun kv=>if kv.1=k then(kv.1,y)else kv) (xs.map (putAt k u)):=by
 induction r with
 |nil=>exact .nil
 |@cons p q ps qs h t ih=>
  rw[zar,zar];refine .cons ?_ ih;obtain⟨h1,h2,h3⟩:=h;unfold putAt;by_cases e:p.1=k
  ·rw[if_pos e,if_pos (h1.symm.trans e)];exact⟨h1,h2,ry⟩
  ·rw[if_neg e,if_neg (fun z=>e (h1.trans z))];exact⟨h1,h2,h3⟩
def KT.put(r:KT H ad kvs xs)(k:List (Option Key)){b:Addr}(hb:H b=some (.tup (k.map oV)))(ry:RelV y u):
  KT H (fun x=>ad x\/x=b) (dI kvs k y) (storedH xs k b u):=by
 have e:(kvs.any fun kv=>decide (kv.1=k))=(atKey xs k).isSome:=by
  rw[tK,(r.val k).isSome_eq,Option.isSome_map]
 unfold dI storedH;rw[e];by_cases q:(atKey xs k).isSome=true
 ·rw[if_pos q,if_pos q];exact Paired.mapP (r.repl k ry) fun _ _ z=>⟨z.1,⟨z.2.1.1,.inl z.2.1.2⟩,z.2.2⟩
 ·rw[if_neg q,if_neg q];exact Paired.snoc (Paired.mapP r fun _ _ z=>⟨z.1,⟨z.2.1.1,.inl z.2.1.2⟩,z.2.2⟩) ⟨rfl,⟨hb,.inr rfl⟩,ry⟩
def KT.keeps(r:KT H ad kvs xs)(ht:∀b ys,H b=some (.tup ys)->H' b=some (.tup ys)):KT H' ad kvs xs:=
 Paired.mapP r fun _ _ z=>⟨z.1,⟨ht _ _ z.2.1.1,z.2.1.2⟩,z.2.2⟩
section
variable{h:Heap} 
def Eh{u:HO}(ok:HOk P w H h)(e:Rd H a u):ObjOk P w H h a u:=e.ok ok
def nW{kvs:List (Key×V)}(ok:HOk P w H h)(e:Rd H a (.dK kvs)):kvs.length<=sizeLine/\(a==sysModules)=false/\∃vs,KV kvs vs/\h.DictOf (bT P w) a vs:=
 show ObjOk P w H h a (.dK kvs)from Eh ok e
def EJ{kvs:List (Key×V)}(ok:HOk P w H h)(e:H a=some (.dK kvs)):kvs.length<=sizeLine/\(a==sysModules)=false/\∃vs,KV kvs vs/\h.DictOf (bT P w) a vs:=nW ok (.inl e)
def uy{ks:List (Option Key)}(ok:HOk P w H h)(e:H a=some (.tup (ks.map oV))):(tupleKind (gL P w)).is h ks a:=by
 obtain⟨_,its,r,o,h1,h2,n,h3⟩:=(show ObjOk P w H h a (.tup (ks.map oV))from ok a _ e);exact⟨o,its.toArray,n,h1,h2,h3.1,by simpa using r8 r⟩
def tz(ok:HOk P w H h)(e:Rd H a (.dT kvs ad)):kvs.length<=sizeLine/\(a==sysModules)=false /\
  ∃xs,KT H ad kvs xs/\h.DictOfH (tupleKind (gL P w)) a xs:=by
 obtain⟨z,y,xs,r,o,es,ep,h1,h2,h3,h4,h5⟩:=(show ObjOk P w H h a (.dT kvs ad)from Eh ok e);refine⟨z,y,xs,r,o,es,ep,h1,h2,h3,h4,fun x hx=>?_,h5⟩;have all:∀{l:List (List (Option Key)×V)} {m:List (List (Option Key)×Addr×Value)},KT H ad l m->∀x∈m,(tupleKind (gL P w)).is h x.1 x.2.1:=by
  intro l m q
  induction q with
  |nil=>intro x hx;exact nomatch hx
  |@cons p q ps qs hq t ih=>
   intro x hx;rcases zay.mp hx with e|hx
   ·subst e;exact uy ok (by rw[<-hq.1];exact hq.2.1.1)
   ·exact ih x hx
 exact all r x hx
def My(ok:HOk P w H h)(e:H a=some (.dT kvs ad)):kvs.length<=sizeLine/\(a==sysModules)=false /\
  ∃xs,KT H ad kvs xs/\h.DictOfH (tupleKind (gL P w)) a xs:=tz ok (.inl e)
end
def DGet(H:Hp)(a:Addr)(y:V)(r:Option V):Prop:=
 (∃kvs k,Rd H a (.dK kvs)/\y=kV k/\r=fM kvs k)\/∃kvs ad k b,Rd H a (.dT kvs ad)/\y=.ref b/\H b=some (.tup (k.map oV))/\r=fM kvs k
def DPut(H:Hp)(a:Addr)(y v:V)(H':Hp):Prop:=
 (∃kvs k,H a=some (.dK kvs)/\y=kV k/\kvs.length<sizeLine/\H'=upd H a (.dK (dI kvs k v))) \/
 ∃kvs ad k b,H a=some (.dT kvs ad)/\y=.ref b/\H b=some (.tup (k.map oV))/\kvs.length<sizeLine/\H'=upd H a (.dT (dI kvs k v) fun x=>ad x\/x=b)
def DGet.k{H:Hp}{a:Addr}{kvs:List (Key×V)}{k:Key}(e:H a=some (.dK kvs)):DGet H a (kV k) (fM kvs k):=.inl ⟨kvs,k,.inl e,rfl,rfl⟩
def DPut.k{H:Hp}{a:Addr}{kvs:List (Key×V)}{k:Key}{v:V}(e:H a=some (.dK kvs))(hl:kvs.length<sizeLine):DPut H a (kV k) v (upd H a (.dK (dI kvs k v))):=.inl ⟨kvs,k,e,rfl,hl,rfl⟩
section
variable{v:V}{r:Value}  
def Inv.big(I:Inv X ρ σ H s):sysModules<s.heap.objs.size:=by
 have h:mainGlobals<s.heap.objs.size:=(I.mod.glob.keeps I.bk).lt;exact Nat.lt_trans (by decide) h
def Aa(hu:A.units+1<cLine)(I:Inv X ρ σ H s)(g:DGet H a y (some v))(ry:RelV y u)(h:∀w' s',Inv X ρ σ H s'->RelV v w'->Q w' s'):
  wpAny (model X.prog X.w) A (getItem (.ref a) u) Q E s:=by
 rcases g with⟨kvs,k,e,ey,l⟩|⟨kvs,ad,k,b,e,ey,eb,l⟩
 ·subst ey;obtain⟨z,hd,vs,rel,dd⟩:=nW I.hok e;obtain⟨w',hw,rw'⟩:=RelO.some_of (v:=v) (o:=valueAt vs k) (by rw[l];exact rel.val k);exact wpAny_getItem_of (sZ ry) dd.mapOf hw (h w' _ (I.tok _) rw')
 ·subst ey;cases(show u=Value.ref b from ry);obtain⟨z,hd,xs,rel,dd⟩:=tz I.hok e;obtain⟨w',hw,rw'⟩:=RelO.some_of (v:=v) (o:=(atKey xs k).map (·.2)) (by rw[l];exact rel.val k);obtain⟨p,hp,hp2⟩:=zab.mp hw;refine wpAny_getItem_heap (tupleKind_room_in1 hu) (uy I.hok eb) dd hp ?_;rw[hp2];exact h w' _ (I.tok _) rw'
def rG{t':Nat}{ob:HO}(I:Inv X ρ σ H s)(mu:Mut (H a))(hs:Heap.SameBut a s.heap h')(he:∃q,h'.get? a=some q)(new:ObjOk X.prog X.w (upd H a ob) h' a ob):
  Inv X ρ σ (upd H a ob) { s with heap:=h',toks:=t' }:=
 I.write (x:=a) (e:=a) mu (.inl rfl) (fun b q hb z=>(hs.2 b hb).trans z) he new
def zY{kvs:List (Key×V)}{vs:List (Key×Value)}(z:kvs.length<=sizeLine)(hd:(a==sysModules)=false)(rel:KV kvs vs)(dd:h'.DictOf (bT P w) a vs):
  ObjOk P w H' h' a (.dK kvs):=⟨z,hd,vs,rel,dd⟩
def zZ{Q:Unit->Shared->Prop}(hu:A.units+1<cLine)(I:Inv X ρ σ H s)(g:DPut H a y v H')(ry:RelV y u)(rv:RelV v r)(h:∀s',Inv X ρ σ H' s'->Q () s'):
  wpAny (model X.prog X.w) A (setItem (.ref a) u r) Q E s:=by
 rcases g with⟨kvs,k,e,ey,l,eH⟩|⟨kvs,ad,k,b,e,ey,eb,l,eH⟩
 ·subst ey eH;obtain⟨z,hd,vs,rel,dd⟩:=EJ I.hok e;have hz:vs.length<=sizeLine:=by rw[<-rel.length];exact z
  have hl:(dI kvs k v).length<=sizeLine:=by have:=j9 kvs k v;omega
  refine wpAny_setItem_pairs (hsz:=hz) (sZ ry) dd fun h' dd' hs=>h _ ?_;have he:∃q,h'.get? a=some q:=let⟨q,_,_,hq,_⟩:=dd';⟨q,hq⟩;exact rG I (by rw[e];exact True.intro) hs he (zY hl hd (rel.put k rv) dd')
 ·subst ey eH;cases(show u=Value.ref b from ry);obtain⟨z,hd,xs,rel,dd⟩:=My I.hok e;have hz:xs.length<=sizeLine:=by rw[<-Paired.length rel];exact z
  have hl:(dI kvs k v).length<=sizeLine:=by have:=j9 kvs k v;omega
  refine wpAny_setItem_heap (hsz:=hz) (tupleKind_room_in1 hu) (uy I.hok eb) dd fun h' dd' hs=>h _ ?_;obtain⟨q,es,ep,hq,h2,h3,h4,_,h5⟩:=dd';refine rG I (by rw[e];exact True.intro) hs ⟨q,hq⟩ ⟨hl,hd,_,(rel.put k eb rv).keeps fun c ys ec=>?_,q,es,ep,hq,h2,h3,h4,h5⟩;rw[aG (L3 ec e (fun z=>nomatch z))];exact ec
end
def xX(i:Expr):Prop:=∀ov iv,subscripted i false ov iv=operate [ov,iv] (getItem ov iv)
def ER{prog:Program}{env:Env}{slice:Expr}{T id:String} 
  (hl:typeLookup (.type T) "__getitem__"=pure (some (.builtin id))) (hs:xX slice)
  (h:wpAny (model prog w) A (eval value env) (fun o s₁=>wpAny (model prog w) A (eval slice env) (fun i s₂=>s₂.TypeIs o T/\wpAny (model prog w) A (getItem o i) Q E s₂) E s₁) E s):
  wpAny (model prog w) A (eval (.Subscript value slice pos) env) Q E s:=by
 refine Subscript_ (wpAny_mono h (fun o s₁ h₁=>wpAny_mono h₁ (fun i s₂ h₂=>?_) fun _ _ x=>x) fun _ _ x=>x);obtain⟨hT,h₂⟩:=h₂;unfold subscriptTail;refine zam ?_;rw[getitemInPython_of_ne hT.not_modules];refine zam (wpAny_specialOf hT hl ?_);have fin:wpAny (model prog w) A (subscripted slice false o i) (fun r s₃=>wpAny (model prog w) A (letTemporaryGo value o r >>= fun _=>pure r) Q E s₃) E s₂:=by
  rw[hs o i];exact wpAny_operating (wpAny_mono h₂ (fun r s₃ h₃=>zam (wpAny_letTemporaryGo (zaT h₃))) fun _ _ x=>x)
 first
  |exact zaT (zam fin)
  |exact zam (zaT (zam fin))
  |exact zam fin
def vJ(I:Inv X ρ σ H s)(g:DGet H a y o):s.TypeIs (.ref a) "dict":=by
 rcases g with⟨kvs,k,e,_,_⟩|⟨kvs,ad,k,b,e,_,_,_⟩
 ·obtain⟨_,_,vs,_,dd⟩:=nW I.hok e;exact dd.typeIs
 ·obtain⟨_,_,xs,_,dd⟩:=tz I.hok e;exact dd.typeIs
def Eb(td ty:TE):TE:=fun σ H Q=>td σ H fun x H1=>ty σ H1 fun y H2=>∃a v,x=.ref a/\DGet H2 a y (some v)/\Q v H2
def Ee(td ty tv:TE):TS:=fun D σ H=>tv σ H fun v H1=>td σ H1 fun x H2=>ty σ H2 fun y H3=>∃a H4,x=.ref a/\DPut H3 a y v H4/\D.nx σ H4
section
variable{o i e:Expr}{pos' tpos:Pos}{td ty:TE}
def Fm(hu:X.A.units+1<cLine)(ho:PE X o td)(hi:PE X i ty)(hs:xX i):PE X (.Subscript o i pos) (Eb td ty):=by
 intro ρ s σ H Q I h;refine ER PySem.F.slot_dict_getitem.lookup hs (thn (ho ρ s σ H _ I h) fun u s1 ⟨x,H1,I1,rx,q1⟩=>thn (hi ρ s1 σ H1 _ I1 q1) fun iv s2 ⟨y,H2,I2,ry,a,v,ex,g,q2⟩=>?_);subst ex;obtain rfl:u=Value.ref a:=rx;exact⟨vJ I2 g,Aa hu I2 g ry fun w' s3 I3 rw'=>⟨v,H2,I3,rw',q2⟩⟩
def E8(hu:X.A.units+1<cLine)(ho:PE X o td)(hi:PE X i ty)(hv:PE X value tv)(hs:swapsWith value (some (.Subscript o i pos')) pos.line X.env=pure false):
  PS X (.Assign [.Subscript o i pos'] value pos) (Ee td ty tv):=by
 intro ρ s σ H D I h;refine wpAny_Assign_Subscript (thn (hv ρ s σ H _ I h) fun r s1 ⟨v,H1,I1,rv,q1⟩=>thn (ho ρ s1 σ H1 _ I1 q1) fun u s2 ⟨x,H2,I2,rx,q2⟩=>thn (hi ρ s2 σ H2 _ I2 q2) fun iv s3 ⟨y,H3,I3,ry,a,H4,ex,g,q3⟩=>?_) hs;subst ex;obtain rfl:u=Value.ref a:=rx;exact zZ hu I3 g ry rv fun s4 I4=>⟨σ,H4,I4,q3⟩
end
def uZ(h:Heap)(hb:sysModules<h.objs.size):ObjOk P w H (h.push { cls:=.type "dict",data:=.dict #[] }) h.objs.size (.dK []):=
 ⟨zbh _,zbK.mpr (Ne.symm (zaw hb)),[],.nil,Heap.DictOf.new h⟩
def Jb:TE:=fun _ H Q=>∀p,H p=none->Q (.ref p) (upd H p (.dK []))
def pe_dnewK:PE X (.Dict [] [] pos) Jb:=fun ρ s σ H Q I h=>
 wpAny_Dict_empty ⟨.ref s.heap.objs.size,_,I.laid (a:=s.heap.objs.size) (o:=.dK []) (t':=s.toks) (fun _ _ q=>zaf _ q) (zav _) (uZ s.heap I.big),rfl,h _ (I.hok.fresh (zav _))⟩
def pH:List (TE×TE)->St->Hp->(List (V×V)->Hp->Prop)->Prop
 |[],_,H,Q=>Q [] H
 | (tk,tv)::r,σ,H,Q=>tk σ H fun x H1=>tv σ H1 fun y H2=>pH r σ H2 fun ps H3=>Q ((x,y)::ps) H3
abbrev VV:List (V×V)->List (Value×Value)->Prop:=Paired fun p q=>RelV p.1 q.1/\RelV p.2 q.2
def PPs(X:Cx)(pos:Pos)(keys:List (Option Expr))(values:List Expr)(trs:List (TE×TE)):Prop:=
 ∀(ρ:List (Addr×Obj)) (s:Shared) (σ:St) (H:Hp) (Q:List (V×V)->Hp->Prop),Inv X ρ σ H s->pH trs σ H Q ->
  wpAny (model X.prog X.w) X.A (evalPairs (pairTrees keys values X.env pos)) (fun vs s'=>∃ps H',Inv X ρ σ H' s'/\VV ps vs/\Q ps H') X.xe s
def E9:PPs X pos [] [] []:=fun ρ s σ H Q I h=>pairTrees_nil_walk ⟨[],H,I,.nil,h⟩
def AD{k v:Expr}{ks:List (Option Expr)}{vs:List Expr}{tk:TE}{trs:List (TE×TE)}(hk:PE X k tk)(hv:PE X v tv)(hr:PPs X pos ks vs trs):
  PPs X pos (some k::ks) (v::vs) ((tk,tv)::trs):=fun ρ s σ H Q I h=>
 pairTrees_cons_walk (thn (hk ρ s σ H _ I h) fun u s1 ⟨x,H1,I1,rx,q1⟩=>thn (hv ρ s1 σ H1 _ I1 q1) fun w2 s2 ⟨y,H2,I2,ry,q2⟩=>
  thn (hr ρ s2 σ H2 _ I2 q2) fun ws s3 ⟨ps,H3,I3,rel,q3⟩=>⟨(x,y)::ps,H3,I3,.cons ⟨rx,ry⟩ rel,q3⟩)
def h8(kvs more:List (Key×V)):List (Key×V):=more.foldl (fun acc kv=>dI acc kv.1 kv.2) kvs
def KV.merge:∀{more:List (Key×V)} {rs:List (Key×Value)} {kvs:List (Key×V)} {vs:List (Key×Value)},KV more rs->KV kvs vs->KV (h8 kvs more) (merged vs rs):=by
 intro more rs kvs vs r;unfold KV at r
 induction r generalizing kvs vs with
 |nil=>intro q;exact q
 |@cons p q ps qs h t ih=>
  intro r0;have e:KV (dI kvs p.1 p.2) (stored vs q.1 q.2):=by
   have:=r0.put p.1 h.2;rw[<-h.1];exact this
  exact ih e
theorem ma:∀(more kvs:List (Key×V)),(h8 kvs more).length<=kvs.length+more.length
 |[],kvs=>by show kvs.length<=kvs.length+0;omega
 |p::r,kvs=>by
  have h1:=ma r (dI kvs p.1 p.2);have h2:=j9 kvs p.1 p.2;show(h8 (dI kvs p.1 p.2) r).length<=_;rw[zac];omega
theorem qx{P:Program}{w:World}:∀{kvs:List (Key×V)} {ws:List (Value×Value)},VV (kvs.map fun kv=>(kV kv.1,kv.2)) ws->∃rs,Carries (bT P w) ws rs/\KV kvs rs
 |[],_,r=>by rw[za0]at r;cases r;exact⟨[],True.intro,.nil⟩
 |p::kvs,_,r=>by
  rw[zar]at r;cases r with
  |@cons a b as bs h t=>
   obtain⟨rs,c,q⟩:=qx (P:=P) (w:=w) t;obtain⟨b1,b2⟩:=b;exact⟨(p.1,b2)::rs,⟨sZ h.1,rfl,c⟩,.cons ⟨rfl,h.2⟩ q⟩
def Ea(trs:List (TE×TE)):TE:=fun σ H Q=>∀p,H p=none->pH trs σ (upd H p (.dK [])) fun ps H2=>H2 p=some (.dK [])/\∃kvs:List (Key×V),ps=kvs.map (fun kv=>(kV kv.1,kv.2))/\kvs.length<=15/\Q (.ref p) (upd H2 p (.dK (h8 [] kvs)))
def Fk{keys:List (Option Expr)}{values:List Expr}{trs:List (TE×TE)}(h:PPs X pos keys values trs)(hall:keys.all (·.isSome)=true)(hl:keys.length=values.length)(h0:keys≠[])
  (h15:keys.length<=15):PE X (.Dict keys values pos) (Ea trs):=by
 intro ρ s σ H Q I q;have hn:=I.hok.fresh (zav s.heap.objs.size);have I1:=I.laid (a:=s.heap.objs.size) (o:=.dK []) (h':=s.heap.push { cls:=.type "dict",data:=.dict #[] }) (t':=s.toks) (fun _ _ q=>zaf _ q) (zav _) (uZ s.heap I.big);refine wpAny_Dict_walk (knd:=bT X.prog X.w) hall hl h0 h15 (thn (h ρ _ σ _ _ I1 (q _ hn)) fun ws s2 ⟨ps,H2,I2,rel,e,kvs,ep,lk,q2⟩=>?_);subst ep;obtain⟨rs,c,rk⟩:=qx (P:=X.prog) (w:=X.w) rel;obtain⟨z,hd,vs0,r0,dd⟩:=EJ I2.hok e;cases r0;refine⟨rs,c,dd,fun h' dd' hs=>⟨.ref s.heap.objs.size,_,?_,rfl,q2⟩⟩;have hz:(h8 [] kvs).length<=sizeLine:=by
  have h1:=ma kvs [];rw[List.length_nil]at h1;rw[sizeLine_eq];omega
 have he:∃q,h'.get? s.heap.objs.size=some q:=let⟨q,_,_,hq,_⟩:=dd';⟨q,hq⟩;exact rG I2 (by rw[e];exact True.intro) hs he (zY hz hd (rk.merge .nil) dd')
end L2
set_option maxHeartbeats 4000000
namespace L2
variable{scope:Scope}{env:Env}{names:List (Str×NameKind)}{n c k i j d d1 d2 d' dr cd:Nat}{X:Cx}{M:Model}{A:Around}{E:Value->Shared->Prop}{ρ:List (Addr×Obj)}{σ σ':St}{H H2 H' H1 H0:Hp}{h':Heap}{t':TT}{fp:List Addr}{p p2 p1 q:Bool}{o u:HO}{x z:Str}{ps N ns:List Str}{pos ω μ ζ pos' px:Pos}{e tg elt iter b:Expr}{es ifs:List Expr}{K:zbS}{l jt tu a:Addr}{w:World}{prog:Program}{js:List (Option Nat)}{vs:List V}{rd:HO->Prop}{v y:V}{ds ds1 ds2 ds' ds0 dps lk dsi:List Nat}{Q Q':VK}{op op':CmpOp}{T:String}{st:Stmt}{r:V->List V->Hp->VK->Prop}{r':List V->Hp->VK->Prop}{fn:Value}{Dn:Ends}
open PySem PySem.Spec PyProof.Rows
def Gd{α β:Type}{l:List α}{f:α->β->Sem (ForInStep β)}{g:β->α->β}(h:∀x∈l,∀c,f x c=pure (.yield (g c x))):∀c,forIn l c f=pure (l.foldl g c):=by
 induction l with
 |nil=>intro c;rfl
 |cons x l ih=>
  intro c;rw[List.forIn_cons,h x zaq,pure_bind];exact ih (fun y hy=>h y (zaj _ hy)) (g c x)
def fF(env:Env)(acc:List (Str×Addr))(x:Str×NameKind):List (Str×Addr):=
 if x.2==NameKind.free then(x.1,(env.cells.lookup x.1).getD 0)::acc else acc
def bP(env:Env)(names:List (Str×NameKind)):List (Str×Addr):=names.foldl (fF env) []
def lH(h:∀y∈scope.names,y.2=.free->∃c,env.cells.lookup y.1=some c):closureFor scope env=pure (bP env scope.names):=by
 simp only[closureFor];rw[Gd (g:=fF env) (fun x hx c=>by
  obtain⟨n,kind⟩:=x;by_cases hk:kind=.free
  ·obtain⟨a,e⟩:=h _ hx hk;subst hk;have e':env.cells.lookup n=some a:=e;simp[cellOf,fF,e']
  ·have hb:(kind==NameKind.free)=false:=by simpa using hk
   simp[fF,hb])]
 rfl
theorem qv{env:Env}:∀(names:List (Str×NameKind)) (acc:List (Str×Addr)) (p:Str×Addr),
  p∈names.foldl (fF env) acc->p∈acc\/((p.1,NameKind.free)∈names/\p.2=(env.cells.lookup p.1).getD 0)
 |[],_,_,h=>.inl h
 | (n,k)::r,acc,p,h=>by
  rw[List.foldl_cons]at h;rcases qv r _ p h with q|⟨q,e⟩
  ·unfold fF at q;by_cases hk:(k==NameKind.free)=true
   ·rw[if_pos hk]at q;rcases zay.mp q with z|z
    ·subst z;have hk':k=NameKind.free:=by simpa using hk
     subst hk';exact .inr ⟨zaq,rfl⟩
    ·exact .inl z
   ·rw[if_neg hk]at q;exact .inl q
  ·exact .inr ⟨zaj _ q,e⟩
theorem oA{env:Env}:∀(names:List (Str×NameKind)) (acc:List (Str×Addr)) (p:Str×Addr),p∈acc->p∈names.foldl (fF env) acc
 |[],_,_,h=>h
 |x::r,acc,p,h=>by
  rw[List.foldl_cons];refine oA r _ p ?_;unfold fF;split
  ·exact zaj _ h
  ·exact h
theorem qw{env:Env}{n:Str}:∀(names:List (Str×NameKind)) (acc:List (Str×Addr)),(n,NameKind.free)∈names->∃c,(n,c)∈names.foldl (fF env) acc
 | (m,k)::r,acc,h=>by
  rw[List.foldl_cons];rcases zay.mp h with e|e
  ·cases e;exact⟨(env.cells.lookup n).getD 0,oA r _ _ (by unfold fF;rw[if_pos (show(((n,NameKind.free):Str×NameKind).2==NameKind.free)=true from rfl)];exact zaq)⟩
  ·exact qw r _ e
theorem iq{α:Type}:∀{l:List (Str×α)} {n:Str} {c:α},(n,c)∈l->∃c',l.lookup n=some c'
 | (m,d)::r,n,c,h=>by
  rw[zas];cases hb:n==m with
  |true=>exact⟨d,rfl⟩
  |false=>
   rcases zay.mp h with e|e
   ·cases e;simp at hb
   ·exact iq e
def u0{n:Str}(h:(n,NameKind.free)∈names):∃c,(bP env names).lookup n=some c:=
 let⟨_,e⟩:=qw (env:=env) names [] h
 iq e
def se{n:Str}{c:Addr}(h:∀y∈names,y.2=.free->∃c,env.cells.lookup y.1=some c)(e:(bP env names).lookup n=some c):env.cells.lookup n=some c:=by
 rcases qv names [] (n,c) (zaU e)with q|⟨q,z⟩
 ·simp at q
 ·obtain⟨a,ea⟩:=h _ q rfl;have z':c=(env.cells.lookup n).getD 0:=z;have ea':env.cells.lookup n=some a:=ea;rw[ea']at z';rw[ea',z'];rfl
theorem kY{env:Env}:∀{names:List (Str×NameKind)} {x:Str} {k:NameKind},
  (names.map fun(n,k)=>if(k==NameKind.free&&env.scope.kind==.function&&env.kindOf n==some .cell)then(n,NameKind.cell)else(n,k)).lookup x=some k ->
  names.lookup x=some k\/(names.lookup x=some .free/\k=.cell)
 |[],_,_,h=>by simp at h
 | (n,k0)::r,x,k,h=>by
  rw[zar]at h;cases hx:x==n with
  |true=>
   rcases Bool.eq_false_or_eq_true (k0==NameKind.free&&env.scope.kind==.function&&env.kindOf n==some .cell)with hc|hc
   ·simp only[hc,if_true,zas,hx]at h;have hk:k0=.free:=by
     simp only[zbk,beq_iff_eq]at hc;exact hc.1.1
    refine .inr ⟨?_,?_⟩
    ·simp only[zas,hx,hk]
    ·exact(zat h).symm
   ·simp only[hc,Bool.false_eq_true,if_false,zas,hx]at h;refine .inl ?_;simp only[zas,hx];exact h
  |false=>
   have h':(r.map fun(n,k)=>if(k==NameKind.free&&env.scope.kind==.function&&env.kindOf n==some .cell)then(n,NameKind.cell)else(n,k)).lookup x=some k:=by
    rcases Bool.eq_false_or_eq_true (k0==NameKind.free&&env.scope.kind==.function&&env.kindOf n==some .cell)with hc|hc
    ·simp only[hc,if_true,zas,hx]at h;exact h
    ·simp only[hc,Bool.false_eq_true,if_false,zas,hx]at h;exact h
   simp only[zas,hx];exact kY h'
theorem pQ{env:Env}:∀{names:List (Str×NameKind)} {x:Str},names.lookup x=some .free ->
  (names.map fun(n,k)=>if(k==NameKind.free&&env.scope.kind==.function&&env.kindOf n==some .cell)then(n,NameKind.cell)else(n,k)).lookup x=some .cell \/
  (names.map fun(n,k)=>if(k==NameKind.free&&env.scope.kind==.function&&env.kindOf n==some .cell)then(n,NameKind.cell)else(n,k)).lookup x=some .free
 |[],_,h=>by simp at h
 | (n,k0)::r,x,h=>by
  rw[zar];cases hx:x==n with
  |true=>
   simp only[zas,hx]at h;rcases Bool.eq_false_or_eq_true (k0==NameKind.free&&env.scope.kind==.function&&env.kindOf n==some .cell)with hc|hc
   ·refine .inl ?_;simp only[hc,if_true,zas,hx]
   ·refine .inr ?_;simp only[hc,Bool.false_eq_true,if_false,zas,hx];exact h
  |false=>
   simp only[zas,hx]at h;have ih:=pQ (env:=env) h;rcases Bool.eq_false_or_eq_true (k0==NameKind.free&&env.scope.kind==.function&&env.kindOf n==some .cell)with hc|hc
   ·simp only[hc,if_true,zas,hx];exact ih
   ·simp only[hc,Bool.false_eq_true,if_false,zas,hx];exact ih
def ce(js:List (Option Nat))(σ:St):St:=js.map fun j=>match j with
 |some j=>(σ[j]?).join
 |none=>none
def PTs(X:Cx)(ifs:List Expr)(tt:TT):Prop:=
 ∀(ρ:List (Addr×Obj)) (s:Shared) (σ:St) (H:Hp) (Q:Bool->Hp->Prop),Inv X ρ σ H s->tt σ H Q ->
  wpAny (model X.prog X.w) X.A (forIn ifs true fun c r=>if r=true then do let ok <-isTrue c X.env (eval c X.env);pure (ForInStep.yield ok)else pure (ForInStep.yield r)) (TP X ρ σ Q) X.xe s
def MC:TT:=fun _ H Q=>Q true H
def pts_nil:PTs X [] MC:=fun _ _ _ H _ I h=>wpAny_tests_nil ⟨H,I,h⟩
def E5{c:Expr}{tc:TT}(hc:PT X c tc):PTs X [c] tc:=fun ρ s σ H Q I h=>wpAny_tests_one (hc ρ s σ H Q I h)
def JZ(g:TG)(tt:TT)(te:TE)(D:Addr)(x:V)(τ:St)(H:Hp)(N:St->Hp->Prop):Prop:=
 g x τ H fun τ4 H4=>tt τ4 H4 fun b H5=>if b=true then te τ4 H5 fun v H6=>∃xs,H6 D=some (.lst xs)/\xs.length<sizeLine/\N τ4 (upd H6 D (.lst (xs++[v])))else N τ4 H5
def nP(J:It)(g:TG)(tt:TT)(te:TE)(σ0:St)(H1:Hp)(D:Addr)(Q:VK):Prop:=
 ∃W:Nat->Nat->St->Hp->Prop,(∃m,W 0 m σ0 (upd H1 D (.lst []))) /\
  ∀i m τ H2,W i m τ H2->(J.stop i H2/\Q (.ref D) H2)\/(J.go i H2/\∃N:St->Hp->Prop,(∀τ' H',N τ' H'->∃m',m'<m/\W (i+1) m' τ' H')/\∀x H3,J.yld i H2 x H3->JZ g tt te D x τ H3 N)
def tLC(wi:TI)(g:TG)(tt:TT)(te:TE)(js:List (Option Nat)):TE:=fun σ H Q=>
 wi σ H fun J H1=>∀D,H1 D=none->nP J g tt te (ce js σ) H1 D Q
def thF{α:Type}{t:Sem α}{Q Q':α->Shared->Prop}{s:Shared}(h:wpAny M A t Q (fun _ _=>False) s)(hQ:∀a s,Q a s->Q' a s):wpAny M A t Q' E s:=
 wpAny_mono h hQ fun _ _ x=>x.elim
def xT:∀(bs:List Bool),(List.range bs.length).all (fun i=>bs.getD i true)=bs.all id:=fun bs=>by
 rw[Bool.eq_iff_iff,List.all_eq_true,List.all_eq_true];constructor
 ·intro h b hb;obtain⟨i,hi,e⟩:=List.mem_iff_getElem.mp hb;have q:=h i (zbn.mpr hi);rw[zbg,zak hi,e]at q;exact q
 ·intro h i hi;have hi':=zbn.mp hi;rw[zbg,zak hi'];exact h _ (zaK hi')
def BF(hc:X.calm=true):CallR X (.builtin "all") (fun xs H Q=>∃(p:Addr) (bs:List Bool),xs=[.ref p]/\SqL X.K H p (bs.map V.bl)/\Q (.bl (bs.all id)) H):=by
 intro ρ s σ H xs us Q I r h;obtain⟨p,bs,rfl,hp,q⟩:=h;obtain⟨u,rfl,ru⟩:=cZ r;cases ru;obtain⟨its,rv,pl,hz⟩:=I.list hp;have hl:its.length=bs.length:=by rw[<-rv.length,zad]
 have hlt:p<s.heap.objs.size:=by
  obtain⟨o,n,e,_⟩:=id pl;exact zal e
 refine call_all_walk (wpAny_pyIter_list pl.isList ?_);refine⟨s.heap.objs.size,[s.heap.objs.size,p],[s.heap.objs.size],its.toArray.size,fun i v=>its.toArray[i]?=some v,_,fun i=>bs.getD i true,rfl,Walks.list (A:=X.A.in1) (show X.A.in1.handled=none from I.ok.hd hc) s.heap.objs.size p (zaw hlt) its.toArray,?_,?_,?_⟩
 ·exact⟨⟨_,zan _ rfl,rfl,rfl⟩,pl.isList.push _⟩
 ·intro i v s' Q' E' hv hq;have hv':its[i]?=some v:=by simpa using hv
  have hi:i<bs.length:=by
   rw[<-hl];exact(zah.mp hv').1
  obtain⟨u,hu,ru⟩:=rv.get (i:=i) (x:=V.bl bs[i]) (by rw[zao,zak hi];rfl);rw[hu]at hv';cases hv';cases ru;have e:bs.getD i true=bs[i]:=by rw[zbg,zak hi];rfl
  have hq':Q' (bs.getD i true) s':=hq;rw[e]at hq';exact zbv hq'
 ·intro h' tk hk;have e:(List.range its.toArray.size).all (fun i=>bs.getD i true)=bs.all id:=by
   rw[<-xT bs,zai,hl]
  rw[e];refine⟨.bl (bs.all id),H,I.kept (t':=tk) fun b o z=>hk b o ?_ (zaf _ z),rfl,q⟩;intro z';have z'':b=s.heap.objs.size:=by simpa using z'
  exact zaw (zal z) z''
def BD:CallR X (.builtin "isinstance") (fun xs H Q=>∃x t n b,xs=[x,.ty n]/\TyOf X.K H x t/\PySem.W.kitOne X.K t (.type n)=some b/\Q (.bl b) H):=by
 intro ρ s σ H xs us Q I r h;obtain⟨x,t,n,b,rfl,ty,e,q⟩:=h;obtain⟨u,w',rfl,r1,r2⟩:=sR r;cases r2;exact zn I r1 ty e fun tk=>⟨.bl b,H,I.tok _,rfl,q⟩
section
open PySem.SeqAt
variable{s:Shared}
end
def Inv.turnedLaid{s:Shared}{t':Nat}{p:Addr}(I:Inv X ρ σ H s)(f:∀b∈fp,fW X ρ H b)(hp:s.heap.objs.size<=p)
  (k:∀b ob,b∉fp->s.heap.get? b=some ob->h'.get? b=some ob) (th:∀b∈fp,∃ob,h'.get? b=some ob) (new:ObjOk X.prog X.w (upd H p o) h' p o):Inv X ρ σ (upd H p o) { s with heap:=h',toks:=t' }:=by
 have hn:H p=none:=I.hok.fresh hp;have ne:∀b ob,s.heap.get? b=some ob->b≠p:=fun b ob e=>zaw (zag (zal e) hp);have nf:∀b u,H b=some u->b∉fp:=fun b u e z=>by rw[(f b z).1]at e;cases e
 refine I.step (g':=s.gens) (d':=s.drawn) (ch:=fp) (fun b hb=>⟨(f b hb).2.2.2.1,(f b hb).2.1,(f b hb).2.2.2.2.1,(f b hb).2.2.2.2.2⟩) (fun b ob _ _ hc e _=>k b ob hc e) (fun b ob _ _ hc e _=>⟨ob.slots,k b ob hc e⟩)
  (fun b ob _ e n=>by rw[aG (ne b ob e)];exact n) (fun b ob hc e=>⟨ob,k b ob hc e⟩) (fun b xs e=>by rw[aG (bY e hn)];exact e) (fun b ob u e=>by rw[aG (bY e hn)];exact e)
  (fun b ps e=>⟨#[],by rw[aG (bY e hn),e];simp⟩) (fun m hm=>?_) (fun b u e=>?_) I.bare
 ·obtain⟨ob,es,ep,ho,r⟩:=hm;exact⟨ob,es,ep,k _ ob (fun z=>(f _ z).2.1 rfl) ho,r⟩
 ·by_cases hb:b=p
  ·subst hb;rw[aC]at e;cases e;exact new
  ·rw[aG hb]at e;refine(I.hok b u e).stay (fun c v hc q=>k c v ?_ q) (fun c q=>by rw[aG (bY q hn)];exact q) fun c xs q=>by rw[aG (bY q hn)];exact q
   rcases hc with z|z
   ·rw[z];exact nf b u e
   ·exact nf c _ z
def Kn(P:Program)(w:World)(K:zbS)(mg:Str->Option Value)(base:Heap)(k:Nat)(x:Str)(ps:List Str)(sp:Sp):Prop:=
 ∃f fd,FnOk P w K mg base CX0 k f fd ps sp/\mg x=some (.ref f)/\PySem.W.keepIn K (.ref f)=true/\Binds K fd ps []
def Kn.mono{P:Program}{w:World}{K:zbS}{mg:Str->Option Value}{base:Heap}{j k:Nat}{x:Str}{ps:List Str}{sp:Sp}(G:Kn P w K mg base j x ps sp)(h:j<=k):Kn P w K mg base k x ps sp:=
 let⟨f,fd,a,b,c,d⟩:=G
 ⟨f,fd,a.mono h,b,c,d⟩
section
variable{sp:Sp}{p:Pos}{t:TA}
def El(G:Kn X.prog X.w X.K X.mg X.base k x ps sp)(hr:Room k X.A)(hg:Gl X x)(ha:PA X (e::es) t)(hdb:(x==("__debug__":Str))=false:=by decide)
  (he:starEach (e::es) X.env=(false,eval e X.env)::starEach es X.env:=by rfl) (hpl:(backTo pos (starEach es X.env)).any (·.1)=false:=by rfl):
  PE X (.Call (.Name x p) (e::es) [] pos) (sS sp [] E0 t):=by
 obtain⟨f,fd,F,hm,hk,hb⟩:=G;exact Fp F hr hg hm hk hb .nil LQ ha hdb he hpl
end
def MJ(K:zbS):List V->Hp->VK->Prop:=fun xs H Q=>∃x n,xs=[x]/\Lq K x H n/\Q (.int n) H
def E2(K:zbS):List V->Hp->VK->Prop:=fun xs H Q=>∃p ys,xs=[.ref p]/\(SqL K H p ys\/SqT K H p ys)/\∀l,H l=none->Q (.ref l) (upd H l (.lst ys))
def Jp(K:zbS):List V->Hp->VK->Prop:=fun xs H Q=>∃p ys,xs=[.ref p]/\((SqL K H p ys/\∀l,H l=none->Q (.ref l) (upd H l (.tup ys)))\/(SqT K H p ys/\Q (.ref p) H))
def ML(K:zbS):List V->Hp->VK->Prop:=fun xs H Q=>∃(p:Addr) (bs:List Bool),xs=[.ref p]/\SqL K H p (bs.map V.bl)/\Q (.bl (bs.all id)) H
section
def MY(hK:X.K=K):CallR X (.builtin "len") (MJ K):=by subst hK;exact BC
def FE(hK:X.K=K):CallR X (.type "list") (E2 K):=by subst hK;exact u4
def J5(hK:X.K=K):CallR X (.type "tuple") (Jp K):=by subst hK;exact sM
def M0(hK:X.K=K)(hc:X.calm=true):CallR X (.builtin "all") (ML K):=by subst hK;exact BF hc
def MZ(hK:X.K=K):IxR X (wW K):=by subst hK;exact ix_list
def MW(hK:X.K=K):SlR X (Jr K):=by subst hK;exact ET
def MV(hK:X.K=K):SlR X (Jq K):=by subst hK;exact Ji
variable{l:Expr}{tl:TE}{t:TGs}{p p2:Pos}
end
def sgn(c:Nat):V:=.str ⟨#[c]⟩
def Its(z:Str):It:=⟨fun i _=>i<z.cps.size,fun i H x H'=>H'=H/\∃c,z.cps[i]?=some c/\x=sgn c,fun i _=>z.cps.size<=i⟩
def At{P:Program}(it:Addr)(z:Str)(t:Tok)(ty:String)(hty:ty="str_ascii_iterator"\/ty="str_iterator"):
  Turn P w K tg (Its z) [it] it (fun i h=>h.IsStrIter it ty z t i) where
 mem:=by simp
 obj:=fun i h st b hb=>by
  have e:b=it:=by simpa using hb
  subst e;obtain⟨o,e,c,d⟩:=st;exact⟨o,e,fun v q=>by rw[d]at q;cases q⟩
 keep:=fun i h h' st k=>let⟨o,e,r⟩:=st;⟨o,k it (by simp) o e,r⟩
 item:=by
  intro X hP hw hK hc i ρ s σ H E I hf st hg;subst hP hw hK;obtain⟨f0,f1,f2,f3,f4,f5⟩:=hf it (by simp);have W:Walks X.prog X.w X.A it [it] [it] z.cps.size (SignAt z) (fun i h=>h.IsStrIter it ty z t i):=by
   rcases hty with rfl|rfl
   ·exact Walks.strAscii (I.ok.hd hc) it z t
   ·exact Walks.strWide (I.ok.hd hc) it z t
  refine W.item i s _ _ hg st fun v h' tk hv st' kk=>?_;obtain⟨c,u,hcv,rfl⟩:=hv;have I1:Inv X ρ σ H { s with heap:=h',toks:=tk }:=I.turned (fun b o hb e=>kk b o (by simpa using hb) e) f0 f1 f3 f4 f5;obtain⟨o,e,ec,ed⟩:=id st';refine⟨_,rfl,tj (s:={ s with heap:=h',toks:=tk }) (n:=ty) e ec ed (by rcases hty with rfl|rfl<;>decide) ⟨sgn c,H,I1,⟨u,rfl⟩,⟨rfl,c,hcv,rfl⟩,st',fun b hb=>(hf b hb).1⟩⟩
 done:=by
  intro X hP hw hK hc i ρ s σ H E I hf st hg;subst hP hw hK;obtain⟨f0,f1,f2,f3,f4,f5⟩:=hf it (by simp);have hle:z.cps.size<=i:=hg;rcases hty with rfl|rfl
  ·exact wpAny_pyNext_ascii_end (I.ok.hd hc) st (by simpa using hle) fun h' he=>⟨rfl,I.turned (t':=s.toks) (fun b o hb e=>he b o hb e) f0 f1 f3 f4 f5⟩
  ·exact wpAny_pyNext_wide_end (I.ok.hd hc) st (by simpa using hle) fun h' he=>⟨rfl,I.turned (t':=s.toks) (fun b o hb e=>he b o hb e) f0 f1 f3 f4 f5⟩
 self:=fun A i s Q E st h=>by
  rcases hty with rfl|rfl
  ·exact wpAny_pyIter_striter_ascii st h
  ·exact wpAny_pyIter_striter_wide st h
def eT(z:Str):List V:=z.cps.toList.map sgn
theorem on:∀{xs:List V} {us:List Value},xs.length=us.length->(∀(i:Nat) x u,xs[i]?=some x->us[i]?=some u->RelV x u)->Vals xs us
 |[],[],_,_=>.nil
 |[],_::_,h,_=>by cases h
 |_::_,[],h,_=>by cases h
 |x::xs,u::us,h,f=>.cons (f 0 x u rfl rfl) (on (Nat.succ.inj h) fun i y v a b=>f (i+1) y v (by simpa using a) (by simpa using b))
def rJ(hc:X.calm=true):CallR X (.type "list") (fun xs H Q=>∃z,xs=[.str z]/\z.cps.size<=sizeLine/\∀l,H l=none->Q (.ref l) (upd H l (.lst (eT z)))):=by
 intro ρ s σ H xs us Q I r h;obtain⟨z,rfl,hz,q⟩:=h;obtain⟨u,rfl,t,rfl⟩:=cZ r;refine call_list_str (I.ok.hd hc) z t (fun h' tk acc c' hk ho hi=>?_) hz;have hl:(eT z).length=acc.toList.length:=by
  unfold eT;rw[zad,zaY,zaY,hi.1]
 have rv:Vals (eT z) acc.toList:=on hl fun i x v a b=>by
  obtain⟨c,tk',hcv,rfl⟩:=hi.2 i v (by simpa using b);unfold eT at a;rw[zao]at a;have e:z.cps.toList[i]?=some c:=by simpa using hcv
  rw[e]at a;cases a;exact⟨_,rfl⟩
 refine⟨.ref s.heap.objs.size,_,I.laid (t':=tk) (o:=.lst (eT z)) hk (zav _) ⟨?_,acc.toList,c',rv,by simpa using ho⟩,rfl,q _ I.fresh⟩;unfold eT;rw[zad,zaY];exact hz
def pI{ys:List Str}:∀{us:List Value},Vals (ys.map V.str) us->StrsAre us ys:=by
 induction ys with
 |nil=>intro us r;cases r;exact .nil
 |cons y ys ih=>
  intro us r;cases r with
  |cons r1 r2=>
   obtain⟨t,e⟩:=r1;subst e;exact .cons y t (ih r2)
def Ei(K:zbS):V->List V->Hp->VK->Prop:=fun x xs H Q=>∃sep ys p,x=.str sep/\xs=[.ref p]/\(SqL K H p (ys.map V.str)\/SqT K H p (ys.map V.str))/\sep.length<=16/\(ys.map (·.length)).sum+ys.length<=1048576/\Q (.str (Txt.join sep ys)) H
def cU(hK:X.K=K):MtR X "str.join" (Ei K):=by
 subst hK;intro ρ s σ H x xs v us Q I rx rs h;obtain⟨sep,ys,p,rfl,rfl,hp,hs,hw,q⟩:=h;obtain⟨t,rfl⟩:=rx;obtain⟨u,rfl,ru⟩:=cZ rs;cases ru;rcases hp with hp|hp
 ·obtain⟨its,rv,pl,_⟩:=I.list hp;exact join_listW pl.isList (by simpa using pI rv) hs hw fun t' k=>⟨.str _,H,I.tok k,⟨_,rfl⟩,q⟩
 ·obtain⟨its,rv,pl,_⟩:=I.tuple hp;exact join_tupleW pl (by simpa using pI rv) hs hw fun t' k=>⟨.str _,H,I.tok k,⟨_,rfl⟩,q⟩
def bq(xs:List Nat)(lo hi:Option Int):List Nat:=(xs.drop (HT.sIx xs.length 0 lo)).take (HT.sIx xs.length xs.length hi-HT.sIx xs.length 0 lo)
def tU(n d:Nat)(v:Option Int)(h:d<=n):HT.sIx n d v<=n:=by
 cases v with
 |none=>exact h
 |some i=>
  unfold HT.sIx
  dsimp only
  split<;>omega
def Aw(lo hi:Option Int)(n:Nat):Builtin.Str.strSliceIndices lo hi 1 n=(List.range (HT.sIx n n hi-HT.sIx n 0 lo)).map (HT.sIx n 0 lo+·):=by
 obtain⟨h1,h2,h3⟩:=mt lo hi n;have e:Builtin.Str.strSliceIndices lo hi 1 n=sliceRange (sliceBounds lo hi none n).1 (sliceBounds lo hi none n).2.1 (sliceBounds lo hi none n).2.2:=by
  cases lo<;>cases hi<;>rfl
 rw[e,h1,h2,h3,sliceRange_one]
def wQ(x:Str)(lo hi:Option Int):Txt.slice x lo hi=⟨(bq x.cps.toList lo hi).toArray⟩:=by
 unfold Txt.slice;have hl:x.length=x.cps.toList.length:=by simp[Str.length]
 rw[Aw];have e:(((List.range (HT.sIx x.length x.length hi-HT.sIx x.length 0 lo)).map (HT.sIx x.length 0 lo+·)).filterMap (x.cps[·]?))=bq x.cps.toList lo hi:=by
  rw[pick_run,hl];rfl
 rw[e];split
 ·rename_i hc;have hc':HT.sIx x.length x.length hi-HT.sIx x.length 0 lo=x.length:=by simpa using hc
  have h1:=tU x.length x.length hi (zav _);have ha:HT.sIx x.length 0 lo=0\/x.length=0:=by omega
  have:bq x.cps.toList lo hi=x.cps.toList:=by
   unfold bq;rw[<-hl,hc'];rcases ha with z|z
   ·rw[z,List.drop_zero,hl,zaQ]
   ·rw[z,List.take_zero];rw[hl]at z;exact(List.eq_nil_of_length_eq_zero z).symm
  rw[this]
 ·rfl
def MH:V->Option Int->Option Int->Hp->VK->Prop:=fun x lo hi H Q=>∃z,x=.str z/\z.length<=sizeLine/\Q (.str ⟨(bq z.cps.toList lo hi).toArray⟩) H
def sl_str:SlR X MH:=by
 intro ρ s σ H x v vl vu lo hi sl Q I rx hs pl pu h;obtain⟨z,rfl,hz,q⟩:=h;obtain⟨t,rfl⟩:=rx;rw[<-wQ]at q;have go:∀(l u:Option (Int×Tok)),s.heap.IsSlice sl l u none->l.map (·.1)=lo->u.map (·.1)=hi->wpAny (model X.prog X.w) X.A (getItem (.str z t) (.ref sl)) (EP X ρ σ Q) X.xe s:=fun l u hsl e1 e2=>by
  subst e1 e2;exact wpAny_getItem_str_slice (st:=none) hsl rfl (post_val_or_str ⟨zau (Txt.slice_le z _ _) hz,fun t' k=>⟨.str _,H,I.tok k,⟨_,rfl⟩,q⟩⟩)
 refine⟨"str",_,F.slot_str_getitem.lookup,typeIs_str _ _ _,?_⟩;cases pl with
 |none=>
  cases pu with
  |none=>exact go none none hs rfl rfl
  |int j u=>exact go none (some (j,u)) hs rfl rfl
 |int i t=>
  cases pu with
  |none=>exact go (some (i,t)) none hs rfl rfl
  |int j u=>exact go (some (i,t)) (some (j,u)) hs rfl rfl
def Inv.turnedMany{s:Shared}{t':Nat}(I:Inv X ρ σ H s)(f:∀b∈fp,fW X ρ H b)
  (k:∀b ob,b∉fp->s.heap.get? b=some ob->h'.get? b=some ob):Inv X ρ σ H { s with heap:=h',toks:=t' }:=by
 have nf:∀b u,H b=some u->b∉fp:=fun b u e z=>by rw[(f b z).1]at e;cases e
 refine I.step (g':=s.gens) (d':=s.drawn) (ch:=fp) (fun b hb=>⟨(f b hb).2.2.2.1,(f b hb).2.1,(f b hb).2.2.2.2.1,(f b hb).2.2.2.2.2⟩) (fun b ob _ _ hc e _=>k b ob hc e) (fun b ob _ _ hc e _=>⟨ob.slots,k b ob hc e⟩)
  (fun _ _ _ _ n=>n) (fun b ob hc e=>⟨ob,k b ob hc e⟩) (fun _ _ e=>e) (fun _ _ _ e=>e) (fun b ps e=>⟨#[],by rw[e];simp⟩) (fun m hm=>?_) (fun b u e=>?_) I.bare
 ·obtain⟨ob,es,ep,ho,r⟩:=hm;exact⟨ob,es,ep,k _ ob (fun z=>(f _ z).2.1 rfl) ho,r⟩
 ·refine(I.hok b u e).stay (fun c v hc q=>k c v ?_ q) (fun _ q=>q) fun _ _ q=>q;rcases hc with z|z
  ·rw[z];exact nf b u e
  ·exact nf c _ z
abbrev li(z:Str):List Nat:=z.cps.toList
def mk1(c:Nat):Str:=⟨#[c]⟩
def ofL(l:List Nat):Str:=⟨l.toArray⟩
def p0(l:List Nat):li (ofL l)=l:=rfl
def yO(z:Str):ofL (li z)=z:=rfl
def JY{a b:Str}(h:li a=li b):a=b:=by rw[<-yO a,<-yO b,h]
def mH(z:Str):z.length=(li z).length:=rfl
def yV(a b:Str):li (a++b)=li a++li b:=by
 show(a.cps++b.cps).toList=_;rw[Array.toList_append]
def emp:Str:=""
def cat(ks:List Str):Str:=Txt.join emp ks
def aw(ks:List Str):List Nat:=(ks.map li).flatten
def Ll(ks:List Str):li (cat ks)=aw ks:=by
 unfold cat Txt.join aw;rw[StrLaws.glued_eq_join]
 induction ks with
 |nil=>rfl
 |cons x r ih=>
  cases r with
  |nil=>
   show li x=_;simp
  |cons y r=>
   show li (x++emp++Str.join emp (y::r))=_;rw[yV,yV,ih];show li x++[]++_=li x++((y::r).map li).flatten;rw[zbo]
def u7(cs:List Nat):aw (cs.map mk1)=cs:=by
 unfold aw;rw[zaR]
 induction cs with
 |nil=>rfl
 |cons c r ih=>
  rw[zar,List.flatten_cons,ih];rfl
def sr(ks:List Str)(x:Str):aw (ks++[x])=aw ks++li x:=by
 unfold aw;rw[zaC,List.flatten_append];simp
def u8(ks:List Str):(ks.map (·.length)).sum=(aw ks).length:=by
 unfold aw;rw[List.length_flatten,zaR];rfl
def Sub(x z:List Nat):Prop:=∀c∈x,c∈z
theorem jR{α β:Type}(f:α->β):∀(ys:List α) (k:Nat),(ys.map f).eraseIdx k=(ys.eraseIdx k).map f
 |[],_=>rfl
 |_::_,0=>rfl
 |y::ys,k+1=>by
  show f y::(ys.map f).eraseIdx k=f y::(ys.eraseIdx k).map f;rw[jR f ys k]
def Jl{i:Int}(h0:0<=i)(h1:i<(n:Int)):seqIndex? i n=some i.toNat:=PySem.seqIndex_of h0 h1
section
variable{s:Shared}
structure ZApart(z TI TO i1 i2:Addr):Prop where
 TIz:TI≠z
 TOz:TO≠z
 i1z:i1≠z
 i2z:i2≠z
 TITO:TI≠TO
 TIi1:TI≠i1
 TIi2:TI≠i2
 TOi1:TO≠i1
 TOi2:TO≠i2
 i12:i1≠i2
end
def wH(n:Nat):ZApart (n+4) (n+2) (n+3) n (n+1):=⟨(by show(n+2:Nat)≠(n+4:Nat);omega),(by show(n+3:Nat)≠(n+4:Nat);omega),(by show(n:Nat)≠(n+4:Nat);omega),(by show(n+1:Nat)≠(n+4:Nat);omega),(by show(n+2:Nat)≠(n+3:Nat);omega),(by show(n+2:Nat)≠(n:Nat);omega),(by show(n+2:Nat)≠(n+1:Nat);omega),(by show(n+3:Nat)≠(n:Nat);omega),(by show(n+3:Nat)≠(n+1:Nat);omega),(by show(n:Nat)≠(n+1:Nat);omega)⟩
def v7:V->List V->Hp->VK->Prop:=fun x xs H Q=>∃z y,x=.str z/\xs=[.str y]/\Q (.bl (Txt.startswith z y)) H
def jH:MtR X "str.startswith" v7:=by
 intro ρ s σ H x xs v us Q I rx rs h;obtain⟨z,y,rfl,rfl,q⟩:=h;obtain⟨t,rfl⟩:=rx;obtain⟨u,rfl,ru⟩:=cZ rs;obtain⟨t2,rfl⟩:=ru;exact SC.startswith ⟨.bl _,H,I,rfl,q⟩
def ck(z y:Str):Bool:=!(Builtin.Str.occurrences z y 0 z.length 1).isEmpty
def Jx(neg:Bool):R2:=fun x y H Q=>∃a b,x=.str a/\y=.str b/\Q (.bl (if neg then !ck b a else ck b a)) H
def op_inS:OpR X (compareOp .In) (Jx false):=by
 intro ρ s σ H x y v u Q I rx ry h;obtain⟨a,b,rfl,rfl,q⟩:=h;obtain⟨t,rfl⟩:=rx;obtain⟨t2,rfl⟩:=ry;exact PySem.P.in_str ⟨.bl _,H,I,rfl,q⟩
def op_notInS:OpR X (compareOp .NotIn) (Jx true):=by
 intro ρ s σ H x y v u Q I rx ry h;obtain⟨a,b,rfl,rfl,q⟩:=h;obtain⟨t,rfl⟩:=rx;obtain⟨t2,rfl⟩:=ry;exact PySem.P.notIn_str ⟨.bl _,H,I,rfl,q⟩
section
open PySem.SeqAt
end
theorem fK:∀(names:List (Str×NameKind)) (n:Nat) (acc:List (Str×Addr)),cellsFrom n names acc=cellsFrom n names []++acc
 |[],_,_=>rfl
 | (x,k)::r,n,acc=>by
  unfold cellsFrom;split
  ·rw[fK r (n+1) ((x,n)::acc),fK r (n+1) [(x,n)],zaD];rfl
  ·exact fK r n acc
theorem ix:∀(names:List (Str×NameKind)) (n:Nat) (acc:List (Str×Addr)) {x:Str} {c:Addr},(x,c)∈cellsFrom n names acc->(x,c)∈acc\/(x,NameKind.cell)∈names
 |[],_,_,_,_,h=>.inl h
 | (y,k)::r,n,acc,x,c,h=>by
  unfold cellsFrom at h;split at h
  ·rename_i hk;rcases ix r _ _ h with h|h
   ·rcases zay.mp h with e|e
    ·have hk':k=.cell:=by simpa using hk
     have e':=(Prod.mk.inj e).1;rw[e',<-hk'];exact .inr zaq
    ·exact .inl e
   ·exact .inr (zaj _ h)
  ·rcases ix r _ _ h with h|h
   ·exact .inl h
   ·exact .inr (zaj _ h)
theorem gP:∀(names:List (Str×NameKind)) (n:Nat) (acc:List (Str×Addr)) {p:Str×Addr},p∈acc->p∈cellsFrom n names acc
 |[],_,_,_,h=>h
 | (y,k)::r,n,acc,p,h=>by
  unfold cellsFrom;split
  ·exact gP r _ _ (zaj _ h)
  ·exact gP r _ _ h
theorem iy:∀(names:List (Str×NameKind)) (n:Nat) (acc:List (Str×Addr)) {x:Str},(x,NameKind.cell)∈names->∃c,(x,c)∈cellsFrom n names acc
 |[],_,_,_,h=>by simp at h
 | (y,k)::r,n,acc,x,h=>by
  unfold cellsFrom;rcases zay.mp h with e|e
  ·cases e;rw[if_pos (by rfl)];exact⟨n,gP r _ _ zaq⟩
  ·split
   ·exact iy r _ _ e
   ·exact iy r _ _ e
theorem uq{α:Type}:∀{a b:List (Str×α)} {x:Str} {c:α},(a++b).lookup x=some c->a.lookup x=some c\/(a.lookup x=none/\b.lookup x=some c)
 |[],_,_,_,h=>.inr ⟨rfl,h⟩
 | (n,v)::r,b,x,c,h=>by
  rw[zaZ,zas]at h;rw[zas];cases e:x==n with
  |true=>rw[e]at h;exact .inl h
  |false=>rw[e]at h;exact uq h
theorem mG{α:Type}:∀{a b:List (Str×α)} {x:Str} {c:α},a.lookup x=some c->(a++b).lookup x=some c
 |[],_,_,_,h=>by simp at h
 | (n,v)::r,b,x,c,h=>by
  rw[zaZ,zas];rw[zas]at h;cases e:x==n with
  |true=>rw[e]at h;exact h
  |false=>rw[e]at h;exact mG h
theorem lu{α:Type}:∀{a b:List (Str×α)} {x:Str} {c:α},a.lookup x=none->b.lookup x=some c->(a++b).lookup x=some c
 |[],_,_,_,_,h=>h
 | (n,v)::r,b,x,c,hn,h=>by
  rw[zaZ,zas];rw[zas]at hn;cases e:x==n with
  |true=>rw[e]at hn;cases hn
  |false=>rw[e]at hn;exact lu hn h
abbrev au(X:Cx)(scope:Scope)(ns:List Str)(C:Addr)(cl:List (Str×Addr))(s₀:Shared)(H₀:Hp)(fp:List Addr):Cx:=
 { X with N:=ns,s₀:=s₀,H₀:=H₀,env:=compEnvC scope cl C X.env,outer:=X.stack,ex:=fp,fn:=fun x=>scope.names.lookup x==some NameKind.cell,pn:=[],xe:=fun _ _=>False }
structure BlkOkC(X:Cx)(scope:Scope)(ns:List Str)(js:List (Option Nat)):Prop where
 kind:scope.kind=.function
 uniq:∀y∈scope.names,y.2=.cell->scope.names.lookup y.1=some .cell
 names:∀y∈scope.names,y.2=.local->scope.names.lookup y.1=some .local
 free:∀y∈scope.names,y.2=.free->X.env.kindOf y.1=some .cell\/X.env.kindOf y.1=some .free
 nd:ns.Nodup
 len:js.length=ns.length
 out:∀(i:Nat) (x:Str) (j:Nat),ns[i]?=some x->js[i]?=some (some j)->X.N[j]?=some x/\scope.names.lookup x=some .free
def wE(N:List Str)(sc scope:Scope)(ns:List Str)(js:List (Option Nat)):Bool:=
 decide (scope.kind=.function)&&scope.names.all (fun y=>decide (y.2=.cell->scope.names.lookup y.1=some .cell))&&scope.names.all (fun y=>decide (y.2=.local->scope.names.lookup y.1=some .local)) &&
 scope.names.all (fun y=>decide (y.2=.free->sc.names.lookup y.1=some .cell\/sc.names.lookup y.1=some .free))&&decide ns.Nodup&&decide (js.length=ns.length) &&
 (List.range ns.length).all (fun i=>match js[i]?,ns[i]? with
  |some (some j),some x=>decide (N[j]?=some x)&&decide (scope.names.lookup x=some .free)
  |_,_=>true)
def GO(h7:∀i<ns.length,(match js[i]?,ns[i]? with
  |some (some j),some x=>decide (N[j]?=some x)&&decide (scope.names.lookup x=some .free)
  |_,_=>true)=true)(e1:ns[i]?=some x)(e2:js[i]?=some (some j)):N[j]?=some x/\scope.names.lookup x=some .free:=by
 have q:=h7 i (zah.mp e1).1;rw[e1,e2]at q;simpa using q
def BlkOkC.of{N0:List Str}{sc0:Scope}(hN:X.N=N0)(hS:X.env.scope=sc0)(h:wE N0 sc0 scope ns js=true):BlkOkC X scope ns js:=by
 unfold wE at h;simp only[zbk,List.all_eq_true,decide_eq_true_eq,zbn]at h;obtain⟨⟨⟨⟨⟨⟨h1,h2⟩,h3⟩,h4⟩,h5⟩,h6⟩,h7⟩:=h;refine⟨h1,fun y hy=>h2 y hy,fun y hy=>h3 y hy,fun y hy hk=>?_,h5,h6,fun i x j e1 e2=>?_⟩
 ·have q:=h4 y hy hk;rw[<-hS]at q;exact q
 ·rw[hN];exact GO h7 e1 e2
section
variable{s:Shared}
def fj{globals:Addr}{closure:List (Str×Addr)}{qual:Str}{outer:Env}{builtins:Addr}{Q:Env->Shared->Prop}
  (hQ:Q (newEnv scope s.heap.objs.size globals (cellsFrom (s.heap.objs.size+1) scope.names closure) qual none .none (some outer) builtins) { s with heap:=pushCells (s.heap.push { cls:=.type "dict",data:=.dict #[] }) scope.names }):
  wpAny M A (newFunctionEnv scope globals closure [] qual none .none (some outer) builtins) Q E s:=by
 simp only[newFunctionEnv,Option.isSome_some,if_true];refine zam (wpAny_alloc ?_);refine zam (wpAny_layCells _ (fun name kind cells=>by cases hkc:kind==NameKind.cell<;>simp[hkc]) _ _ _ _ ?_);rw[show({ s with heap:=s.heap.push { cls:=.type "dict",data:=.dict #[] } }:Shared).heap.objs.size=s.heap.objs.size+1 from zbr ..];rw[List.forIn_nil];exact zam (zaT (zaT hQ))
end
section
variable{wi:TI}{g:TG}{tt:TT}{te:TE}
def u6{s3:Shared}{H3:Hp}{h₁:Heap}{tk:Nat}(B:BlkOkC X scope ns js)(I3:Inv X ρ σ H3 s3)
  (f3:∀b∈fp,fW X ρ H3 b) (lt3:∀b∈fp,b<s3.heap.objs.size) (hns:h₁.Ns s3.heap.objs.size (fun _=>none)) (old:∀b u,s3.heap.get? b=some u->h₁.get? b=some u)
  (cok:CellsOk h₁ (s3.heap.objs.size+1) (cellsFrom (s3.heap.objs.size+1) scope.names [])):
  Inv (au X scope ns s3.heap.objs.size (cellsFrom (s3.heap.objs.size+1) scope.names (bP X.env scope.names)) s3 H3 fp) [] (ce js σ) H3 { s3 with heap:=h₁,toks:=tk }:=by
 rw[fK];have hmem:∀{x:Str} {c:Addr},(x,c)∈cellsFrom (s3.heap.objs.size+1) scope.names []->scope.names.lookup x=some .cell:=fun {x c} h=>by
  rcases ix _ _ _ h with h|h
  ·simp at h
  ·exact B.uniq _ h rfl
 have hhas:∀{x:Str},scope.names.lookup x=some .cell->∃c,(cellsFrom (s3.heap.objs.size+1) scope.names []).lookup x=some c:=fun {x} h=>by
  obtain⟨c,hc⟩:=iy scope.names (s3.heap.objs.size+1) [] (zaU h);exact iq hc
 generalize cellsFrom (s3.heap.objs.size+1) scope.names []=CS at cok hmem hhas;have has:∀y∈scope.names,y.2=.free->∃c,X.env.cells.lookup y.1=some c:=fun y hy hk=>I3.ok.has y.1 (B.free y hy hk);have look:∀{n:Str} {c:Addr},(CS++bP X.env scope.names).lookup n=some c->(CS.lookup n=some c/\h₁.IsCell c none/\s3.heap.objs.size+1<=c)\/(CS.lookup n=none/\X.env.cells.lookup n=some c/\c<s3.heap.objs.size):=fun {n c} e=>by
  rcases uq e with e|⟨e1,e2⟩
  ·exact .inl ⟨e,cok.empty n c (zaU e)⟩
  ·have e3:=se has e2;obtain⟨v,hv⟩:=I3.cell n c e3;exact .inr ⟨e1,e3,hv.lt⟩
 refine⟨⟨I3.ok.mod,B.kind,I3.ok.glob,I3.ok.blt,zav _,fun y z c h1 h2=>?_,fun y hy=>?_,fun y c hf h=>?_,I3.ok.hd,I3.ok.frames,.inl rfl,fun b hb=>?_,I3.bs,zau I3.ok.bsz I3.sz,
   fun b o e hb=>?_,fun b hb z=>?_,I3.stack,I3.stkFree⟩,
  rfl,I3.bare,Un.kept old,⟨_,hns,fun i x v h1 h2 h3=>?_⟩,fun y c h=>?_,I3.fresh,fun y c h=>?_,fun p hp=>absurd (show p∈([]:List (Addr×Obj))from hp) (by simp),I3.hok.kept old,?_⟩
 ·rcases look h1 with⟨a1,_,a3⟩|⟨_,a2,a3⟩<;>rcases look h2 with⟨b1,_,b3⟩|⟨_,b2,b3⟩
  ·exact name_of_addr cok.apart (zaU a1) (zaU b1)
  ·exact absurd (zag (zag b3 (Nat.le_succ _)) a3) (zaI _)
  ·exact absurd (zag (zag a3 (Nat.le_succ _)) b3) (zaI _)
  ·exact I3.ok.inj y z c a2 b2
 ·have hf:scope.names.lookup y=some .cell\/scope.names.lookup y=some .free:=by
   rcases hy with hy|hy
   ·rcases kY (env:=X.env) hy with q|q
    ·exact .inl q
    ·exact .inr q.1
   ·rcases kY (env:=X.env) hy with q|q
    ·exact .inr q
    ·exact .inr q.1
  show ∃c,(CS++bP X.env scope.names).lookup y=some c;rcases hf with hf|hf
  ·obtain⟨c,hc⟩:=hhas hf;exact⟨c,mG hc⟩
  ·obtain⟨c,hc⟩:=u0 (env:=X.env) (zaU hf);cases e:CS.lookup y with
   |none=>exact⟨c,lu e hc⟩
   |some d=>exact⟨d,mG e⟩
 ·rcases look h with⟨_,_,a3⟩|⟨a1,_,_⟩
  ·show s3.heap.objs.size<=c;omega
  ·have hf':(scope.names.lookup y==some NameKind.cell)=true:=hf;obtain⟨d,hd⟩:=hhas (by simpa using hf');rw[a1]at hd;cases hd
 ·refine⟨zaw (lt3 b hb),fun x c e=>?_⟩;rcases look e with⟨_,_,a3⟩|⟨_,a2,_⟩
  ·have:=lt3 b hb;intro z;subst z;exact zaI _ (zag (zag this (Nat.le_succ _)) a3)
  ·exact(f3 b hb).2.2.2.2.1 x c a2
 ·rcases(f3 b hb).2.2.2.1 with z|z
  ·exact I3.ok.noex b o e z
  ·exact absurd (zag (zag (zal e) I3.ok.bsz) z) (zaI _)
 ·rcases zay.mp (I3.stkSub b z)with q|q
  ·exact(f3 b hb).2.1 q
  ·exact(f3 b hb).2.2.1 q
 ·have h2':(js.map fun j=>match j with|some j=>(σ[j]?).join|none=>none)[i]?=some (some v):=h2;rw[zao]at h2';obtain⟨j,hj,hσ⟩:∃j,js[i]?=some (some j)/\σ[j]?=some (some v):=by
   cases e:js[i]? with
   |none=>rw[e]at h2';simp at h2'
   |some oj=>
    rw[e]at h2';cases oj with
    |none=>simp at h2'
    |some j=>
     refine⟨j,rfl,?_⟩;have q:(σ[j]?).join=some v:=by simpa using h2'
     cases e2:σ[j]? with
     |none=>rw[e2]at q;simp at q
     |some ov=>
      rw[e2]at q;simp at q;rw[q]
  obtain⟨hN,hfr⟩:=B.out i x j h1 hj;have hf:=B.free (x,.free) (zaU hfr) rfl;have hf':X.env.kindOf x=some .cell\/X.env.kindOf x=some .free:=hf;obtain⟨m,hn,hl⟩:=I3.loc;obtain⟨u,r,l⟩:=hl j x v hN hσ (by
   rcases hf' with z|z
   ·exact .inr (.inl z)
   ·exact .inr (.inr z))
  refine⟨u,r,?_⟩;rcases l with⟨hk,_⟩|⟨hk,c,hc,hcell⟩
  ·rcases hf' with z|z
   ·rw[z]at hk;cases hk
   ·rw[z]at hk;cases hk
  ·obtain⟨c',hc'⟩:=u0 (env:=X.env) (zaU hfr);have e':=se has hc';rw[hc]at e';cases e';obtain⟨o,ho,hd⟩:=hcell;have hno:CS.lookup x=none:=by
    cases e:CS.lookup x with
    |none=>rfl
    |some d=>
     have q:=hmem (zaU e);rw[hfr]at q;cases q
   exact .inr ⟨pQ (env:=X.env) hfr,c,lu hno hc',⟨o,old c o ho,hd⟩⟩
 ·rcases look h with⟨_,a2,_⟩|⟨_,a2,_⟩
  ·exact⟨_,a2⟩
  ·obtain⟨v,o,ho,hd⟩:=I3.cell y c a2;exact⟨v,o,old c o ho,hd⟩
 ·rcases look h with⟨_,_,a3⟩|⟨_,a2,_⟩
  ·exact I3.hok.fresh (by omega)
  ·exact I3.freeC y c a2
 ·show(js.map _).length=ns.length;rw[zad];exact B.len
def uu{s2:Shared}{Qv:VK}{J:It}{it:Addr}{tn:Nat->Heap->Prop}{RR:Value->Addr->Result->Shared->Prop}
  (B:BlkOkC X scope ns js) (hc:X.calm=true) (I2:Inv X ρ σ H2 s2) (T:Turn X.prog X.w X.K tg J fp it tn) (st2:tn 0 s2.heap) (f2:∀b∈fp,fW X ρ H2 b)
  (hg:∀C cl s₀ H₀ fp,PG (au X scope ns C cl s₀ H₀ fp) tg g) (ht:∀C cl s₀ H₀ fp,PTs (au X scope ns C cl s₀ H₀ fp) ifs tt) (he:∀C cl s₀ H₀ fp,PE (au X scope ns C cl s₀ H₀ fp) elt te)
  (hw:∀D,H2 D=none->nP J g tt te (ce js σ) H2 D Qv)
  (hRR:∀D C s' H',Inv X ρ σ H' s'->Qv (.ref D) H'->(∃m,s'.heap.Ns C m)->H' C=none->C≠X.env.locals->X.s₀.heap.objs.size<=C->(∀x c,X.env.cells.lookup x=some c->c≠C)->(∀p∈X.pn++ρ,p.1≠C)->RR (.ref D) C (.ok .next) s'):
  wpAny (model X.prog X.w) X.A (newList []) (fun acc s₃=>wpAny (model X.prog X.w) X.A (newFunctionEnv scope X.env.globals (bP X.env scope.names) [] X.env.qual none .none (some X.env)) (fun cenv s₄=>
   codeAny (model X.prog X.w) X.A (.compStart (.ListComp elt [⟨tg,iter,ifs,0⟩] scope pos) 0 (.ref it) acc { cenv with scope:=relabel scope X.env }) (RR acc cenv.locals) s₄) X.xe s₃) X.xe s2:=by
 refine wpAny_newObj_type (fj ?_)
 dsimp only
 have I3:Inv X ρ σ (upd H2 s2.heap.objs.size (.lst [])) { s2 with heap:=s2.heap.push { cls:=.type "list",data:=.seq ([]:List Value).toArray },toks:=s2.toks }:=I2.lnew .nil (zbh _);generalize hs3:({ s2 with heap:=s2.heap.push { cls:=.type "list",data:=.seq ([]:List Value).toArray },toks:=s2.toks }:Shared)=s3 at I3;have e3:s3.heap=s2.heap.push { cls:=.type "list",data:=.seq ([]:List Value).toArray }:=by rw[<-hs3]
 have k3:∀b u,s2.heap.get? b=some u->s3.heap.get? b=some u:=fun b u e=>by rw[e3];exact zaf _ e
 have sz3:s3.heap.objs.size=s2.heap.objs.size+1:=by rw[e3,zbr]
 have hD:H2 s2.heap.objs.size=none:=I2.fresh;obtain⟨h₁,hh₁⟩:∃h₁,h₁=pushCells (s3.heap.push { cls:=.type "dict",data:=.dict #[] }) scope.names:=⟨_,rfl⟩;have old:∀b u,s3.heap.get? b=some u->h₁.get? b=some u:=fun b u e=>by
  rw[hh₁];exact pushCells_keeps _ _ b u (zaf _ e)
 have hns:h₁.Ns s3.heap.objs.size (fun _=>none):=by
  rw[hh₁];exact(Heap.Ns.new s3.heap (.type "dict")).keeps (pushCells_keeps _ _)
 have cok:CellsOk h₁ (s3.heap.objs.size+1) (cellsFrom (s3.heap.objs.size+1) scope.names []):=by
  have q:=cellsFrom_ok scope.names (s3.heap.push { cls:=.type "dict",data:=.dict #[] }) (s3.heap.objs.size+1) [] ⟨fun _ _ hm=>(nomatch hm),List.Pairwise.nil⟩ (by rw[zbr];exact zav _);rw[zbr,<-hh₁]at q;exact q
 have obj2:∀b∈fp,b<s2.heap.objs.size:=fun b hb=>let⟨o,e,_⟩:=T.obj 0 _ st2 b hb;zal e;have f3:∀b∈fp,fW X ρ (upd H2 s2.heap.objs.size (.lst [])) b:=fun b hb=>⟨by rw[aG (zaw (obj2 b hb))];exact(f2 b hb).1,(f2 b hb).2⟩;have lt3:∀b∈fp,b<s3.heap.objs.size:=fun b hb=>by rw[sz3];exact Nat.lt_succ_of_lt (obj2 b hb)
 obtain⟨W,⟨m0,w0⟩,turn⟩:=hw _ hD;have J0:=fun tk=>u6 (tk:=tk) B I3 f3 lt3 hns old cok;have has:∀y∈scope.names,y.2=.free->∃c,X.env.cells.lookup y.1=some c:=fun y hy hk=>I2.ok.has y.1 (B.free y hy hk);have stat:∀{H':Hp},(∀b∈fp,H' b=none)->∀b∈fp,fW (au X scope ns s3.heap.objs.size (cellsFrom (s3.heap.objs.size+1) scope.names (bP X.env scope.names)) s3 (upd H2 s2.heap.objs.size (.lst [])) fp) [] H' b:=fun hn b hb=>
  ⟨hn b hb,zaw (lt3 b hb),(J0 0).ok.exfs b hb,.inl hb,fun x c e=>(J0 0).ok.exf b hb |>.2 x c e,fun p hp=>absurd (show p∈([]:List (Addr×Obj))from hp) (by simp)⟩
 have fin:∀{τ:St} {H':Hp} {s':Shared},Inv (au X scope ns s3.heap.objs.size (cellsFrom (s3.heap.objs.size+1) scope.names (bP X.env scope.names)) s3 (upd H2 s2.heap.objs.size (.lst [])) fp) [] τ H' s'->Qv (.ref s2.heap.objs.size) H'->RR (.ref s2.heap.objs.size) s3.heap.objs.size (.ok .next) s':=fun {τ H' s'} I6 q=>by
  have u1:Un (frs X.stack) fp H2 (upd H2 s2.heap.objs.size (.lst [])) s2.heap s3.heap:=Un.laid k3 (zav _) hD;have os3:s3.os=s2.os:=by rw[<-hs3]
  have I7:Inv X ρ σ H' s':=I2.call' (ch:=fp) (I6.os.trans os3) (u1.trans I6.base) I6.hok I6.bare fun b hb=>⟨(f2 b hb).2.2.2.1,(f2 b hb).2.1,(f2 b hb).2.2.2.2.1,(f2 b hb).2.2.2.2.2⟩;have le2:s2.heap.objs.size<=s3.heap.objs.size:=by rw[sz3];exact Nat.le_succ _
  refine hRR _ _ s' H' I7 q ?_ I6.free (Nat.ne_of_gt (zag I2.lt le2)) (zau I2.sz le2) (fun x c e z=>?_) fun p hp z=>?_
  ·obtain⟨m,hn,_⟩:=I6.loc;exact⟨m,hn⟩
  ·obtain⟨v,hv⟩:=I2.cell x c e;exact absurd (zag hv.lt (by rw[z];exact le2)) (zaI _)
  ·exact absurd (zag (zal (I2.pin p hp).1) (by rw[z];exact le2)) (zaI _)
 rw[<-e3,<-hh₁];have loop:∀tk,codeAny (model X.prog X.w) X.A (.compLoop (.ListComp elt [⟨tg,iter,ifs,0⟩] scope pos) 0 (.ref it) (.ref s2.heap.objs.size) (compEnvC scope (cellsFrom (s3.heap.objs.size+1) scope.names (bP X.env scope.names)) s3.heap.objs.size X.env))
   (RR (.ref s2.heap.objs.size) s3.heap.objs.size) { s3 with heap:=h₁,toks:=tk }:=fun tk=>by
  refine codeAny_loop rfl (fun n s'=>∃i τ H',Inv (au X scope ns s3.heap.objs.size (cellsFrom (s3.heap.objs.size+1) scope.names (bP X.env scope.names)) s3 (upd H2 s2.heap.objs.size (.lst [])) fp) [] τ H' s'/\tn i s'.heap/\(∀b∈fp,H' b=none)/\W i n τ H') (fun n s5 hI=>?_) m0
   ⟨0,_,_,J0 tk,T.keep _ _ _ st2 fun b _ o e=>old b o (k3 b o e),fun b hb=>(f3 b hb).1,w0⟩
  obtain⟨i,τ,H5,I5,st5,fr5,w5⟩:=hI;show wpAny _ X.A ((compTurn (.ListComp elt [⟨tg,iter,ifs,0⟩] scope pos) 0 (.ref it) (.ref s2.heap.objs.size) (compEnvC scope (cellsFrom (s3.heap.objs.size+1) scope.names (bP X.env scope.names)) s3.heap.objs.size X.env)).onRaise (fun x=>do noteFrame x (compEnvC scope (cellsFrom (s3.heap.objs.size+1) scope.names (bP X.env scope.names)) s3.heap.objs.size X.env);theTreesLotGoes x)) _ _ s5;refine wpAny_noted ?_;rw[compTurn_list];refine zam (wpAny_standAt (zam ?_));rcases turn i n τ H5 w5 with⟨stop,qn⟩|⟨go,N,hN,step⟩
  ·refine thn (T.done (au X scope ns s3.heap.objs.size (cellsFrom (s3.heap.objs.size+1) scope.names (bP X.env scope.names)) s3 (upd H2 s2.heap.objs.size (.lst [])) fp) rfl rfl rfl hc i [] s5 τ H5 _ I5 (stat fr5) st5 stop) ?_;rintro r s6 ⟨hr,I6⟩;subst hr;exact zaT (fin I6 qn)
  ·refine thn (T.item (au X scope ns s3.heap.objs.size (cellsFrom (s3.heap.objs.size+1) scope.names (bP X.env scope.names)) s3 (upd H2 s2.heap.objs.size (.lst [])) fp) rfl rfl rfl hc i [] s5 τ H5 _ I5 (stat fr5) st5 go) ?_;rintro r s6 ⟨u,hr,h6⟩;subst hr
   dsimp only
   refine zam (thn h6 fun _ s7 ⟨x,H7,I7,r7,y7,st7,fr7⟩=>?_);have I7':=I7.pinned (stat fr7) (T.obj _ _ st7);have back:∀{τ9:St} {H9:Hp} {s9:Shared},Inv (au X scope ns s3.heap.objs.size (cellsFrom (s3.heap.objs.size+1) scope.names (bP X.env scope.names)) s3 (upd H2 s2.heap.objs.size (.lst [])) fp) ([]++ku fp s7.heap) τ9 H9 s9 ->
     Inv (au X scope ns s3.heap.objs.size (cellsFrom (s3.heap.objs.size+1) scope.names (bP X.env scope.names)) s3 (upd H2 s2.heap.objs.size (.lst [])) fp) [] τ9 H9 s9/\tn (i+1) s9.heap/\∀b∈fp,H9 b=none:=fun {τ9 H9 s9} I9=>by
    refine⟨I9.unpinned,T.keep _ _ _ st7 fun b hb o e=>(I9.pin (b,o) (zbf _ (zbf _ (eV hb e)))).1,fun b hb=>?_⟩;obtain⟨o,e,d⟩:=T.obj _ _ st7 b hb;exact(I9.pin (b,o) (zbf _ (zbf _ (eV hb e)))).2.1
   refine zam (thF (hg _ _ _ _ _ _ s7 τ H7 x u _ I7' r7 (step x H7 y7)) fun _ s8 ⟨τ8,H8,I8,q8⟩=>?_);refine zam (thF (ht _ _ _ _ _ _ s8 τ8 H8 _ I8 q8) fun b s9 ⟨H9,I9,q9⟩=>?_);cases b with
   |false=>
    rw[if_neg zbl]at q9;obtain⟨m',hm,w9⟩:=hN _ _ q9;obtain⟨a1,a2,a3⟩:=back I9;exact zaT ⟨rfl,m',hm,i+1,τ8,H9,a1,a2,a3,w9⟩
   |true=>
    rw[if_pos rfl]at q9;refine zam (zam (thF (he _ _ _ _ _ _ s9 τ8 H9 _ I9 q9) fun v s10 ⟨y,H10,I10,r10,q10⟩=>?_));obtain⟨xs,hx,hz,n10⟩:=q10;obtain⟨m',hm,w10⟩:=hN _ _ n10;refine zam (thF (mF _ s10 τ8 H10 (.ref s2.heap.objs.size) [y] (.ref s2.heap.objs.size) [v] (fun _ H11=>W (i+1) m' τ8 H11) I10 rfl (.cons r10 .nil) ⟨_,xs,y,rfl,rfl,hx,hz,w10⟩) fun _ s11 ⟨_,H11,I11,_,q11⟩=>?_);obtain⟨a1,a2,a3⟩:=back I11;exact zaT (zaT ⟨rfl,m',hm,i+1,τ8,H11,a1,a2,a3,q11⟩)
 have hst1:tn 0 h₁:=T.keep _ _ _ st2 fun b _ o e=>old b o (k3 b o e);subst hs3;exact codeAny_compStart_list (loop _) (T.self _ 0 _ _ _ hst1 (loop _))
def yH(B:BlkOkC X scope ns js)(hc:X.calm=true)(hi:PI X tg iter wi)
  (hg:∀C cl s₀ H₀ fp,PG (au X scope ns C cl s₀ H₀ fp) tg g) (ht:∀C cl s₀ H₀ fp,PTs (au X scope ns C cl s₀ H₀ fp) ifs tt) (he:∀C cl s₀ H₀ fp,PE (au X scope ns C cl s₀ H₀ fp) elt te)
  (hs:∀x,foldedSetIterable iter X.env x=pure x:=by intro _;rfl):PE X (.ListComp elt [⟨tg,iter,ifs,0⟩] scope pos) (tLC wi g tt te js):=by
 intro ρ s σ H Q I h;rw[eval_ListComp];have hclos:=lH (scope:=scope) (env:=X.env) (fun y hy hk=>I.ok.has y.1 (B.free y hy hk));refine wpAny_comprehension_free (use:=none) rfl hs hclos B.kind B.names (thn (hi ρ s σ H _ I h) fun v s1 h1=>thn h1 fun itv s2 h2=>?_);obtain⟨it,fp,tn,J,H2,e,I2,T,st2,f2,hw⟩:=h2;subst e;refine uu (RR:=fun acc C=>compPost (model X.prog X.w) X.A X.xe none (EP X ρ σ Q) acc C) B hc I2 T st2 f2 hg ht he hw ?_;intro D C s' H' I' q hm c0 c1 c2 c3 c4;obtain⟨m,hn⟩:=hm;exact⟨m,hn,fun h' hs'=>⟨.ref D,H',I'.turned (t':=s'.toks) (fun b o hb e=>(hs'.2 b hb).trans e) c0 c1 (.inr c2) c3 c4,rfl,q⟩⟩
def rT(hN:X.N.Nodup)(hi':X.N[i]?=some x)(hx:X.env.scope.names.lookup x=some .local)(B:BlkOkC X scope ns js)(hc:X.calm=true)(hi:PI X tg iter wi)
  (hg:∀C cl s₀ H₀ fp,PG (au X scope ns C cl s₀ H₀ fp) tg g) (ht:∀C cl s₀ H₀ fp,PTs (au X scope ns C cl s₀ H₀ fp) ifs tt) (he:∀C cl s₀ H₀ fp,PE (au X scope ns C cl s₀ H₀ fp) elt te)
  (hsw:swapsWith (.ListComp elt [⟨tg,iter,ifs,0⟩] scope pos) (some (.Name x pos')) ζ.line X.env=pure true:=by rfl)
  (hs:∀x,foldedSetIterable iter X.env x=pure x:=by intro _;rfl):PS X (.Assign [.Name x pos'] (.ListComp elt [⟨tg,iter,ifs,0⟩] scope pos) ζ) (Av (tLC wi g tt te js) (qa i)):=by
 intro ρ s σ H D I h;rw[exec_Assign_Name_used _ _ _ _ hsw];have hclos:=lH (scope:=scope) (env:=X.env) (fun y hy hk=>I.ok.has y.1 (B.free y hy hk));refine zam (wpAny_standAt (zam ?_));show wpAny _ X.A (do let _ <-comprehension (.ListComp elt [⟨tg,iter,ifs,0⟩] scope pos) scope X.env _ (newList []) false (eval iter X.env) (some (assign (.Name x pos') X.env))) _ _ s;refine zam (wpAny_mono (wpAny_comprehension_free (use:=some (assign (.Name x pos') X.env)) (Q:=fun _ s'=>SP X ρ D .next s') rfl hs hclos B.kind B.names
  (thn (hi ρ s σ H _ I h) fun v s1 h1=>thn h1 fun itv s2 h2=>?_)) (fun _ s' hq=>zaT (zaT hq)) fun _ _ e=>e)
 obtain⟨it,fp,tn,J,H2,e,I2,T,st2,f2,hw⟩:=h2;subst e;refine uu (RR:=fun acc C=>compPost (model X.prog X.w) X.A X.xe (some (assign (.Name x pos') X.env)) (fun _ s'=>SP X ρ D .next s') acc C) B hc I2 T st2 f2 hg ht he hw ?_;intro D' C s' H' I' q hm c0 c1 c2 c3 c4;obtain⟨m,hn⟩:=hm;show wpAny _ X.A (assign (.Name x pos') X.env (.ref D')) _ _ _;refine wpAny_assign_Name (ms (v:=.ref D') I' hN hi' (.inl hx) rfl (fun s4 I4 ⟨a,hsb,ha⟩=>?_) (.inr hx));have ne:C≠a:=by
  rcases ha with z|z
  ·rw[z];exact c1
  ·exact(c3 x a z).symm
 exact⟨m,hn.sameBut hsb ne,fun h' hs'=>⟨_,H',I4.turned (t':=s4.toks) (fun b o hb e=>(hs'.2 b hb).trans e) c0 c1 (.inr c2) c3 c4,q⟩⟩
end
def LG:R2:=fun x y H Q=>∃z n,x=.str z/\y=.int n/\z.length<=4000/\-(2 ^ 63)<=n/\n<=4000/\Q (.str (Txt.mul z n)) H
def op_mulS:OpR X (binaryOp .Mult) LG:=by
 intro ρ s σ H x y v u Q I rx ry h;obtain⟨z,n,rfl,rfl,hz,h0,h1,q⟩:=h;obtain⟨t,rfl⟩:=rx;obtain⟨t2,rfl⟩:=ry;exact SB.mul (mulOk_of 4000 4000 hz h1 h0 (by decide) (by decide)) fun t' k=>⟨.str _,H,I.tok _,⟨_,rfl⟩,q⟩
mutual
def DV(H:Hp):V->PyData->Prop
 |v,.none=>v=.non
 |v,.bool b=>v=.bl b
 |v,.int i=>v=.int i
 |v,.str x=>v=.str x
 |v,.list ds=>∃a xs,v=.ref a/\H a=some (.lst xs)/\DVs H xs ds
 |v,.tuple ds=>∃a xs,v=.ref a/\H a=some (.tup xs)/\DVs H xs ds
 |_,.dict _=>False
def DVs(H:Hp):List V->List PyData->Prop
 |vs,[]=>vs=[]
 |vs,d::ds=>∃v r,vs=v::r/\DV H v d/\DVs H r ds
end
section
variable{s:Shared}
mutual
theorem DV.reads(I:Inv X ρ σ H s):∀{v:V} {u:Value} (d:PyData),DV H v d->RelV v u->∃as,Reads s.heap u d as
 |_,_,.none,h,r=>by
  unfold DV at h;subst h;cases r;exact⟨_,.none⟩
 |_,_,.bool b,h,r=>by
  unfold DV at h;subst h;cases r;exact⟨_,.bool _⟩
 |_,_,.int i,h,r=>by
  unfold DV at h;subst h;obtain⟨t,rfl⟩:=r;exact⟨_,.int _ _⟩
 |_,_,.str x,h,r=>by
  unfold DV at h;subst h;obtain⟨t,rfl⟩:=r;exact⟨_,.str _ _⟩
 |_,_,.list ds,h,r=>by
  unfold DV at h;obtain⟨a,xs,rfl,h1,h2⟩:=h;cases r;obtain⟨its,rv,⟨o,n,e1,e2,_,e3⟩,_⟩:=I.list (SqL.of h1);obtain⟨as,ra⟩:=DVs.reads I ds h2 rv;exact⟨_,.list e1 e2 e3 (by simpa using ra)⟩
 |_,_,.tuple ds,h,r=>by
  unfold DV at h;obtain⟨a,xs,rfl,h1,h2⟩:=h;cases r;obtain⟨its,rv,⟨o,e1,e2,n,e3⟩,_⟩:=I.tuple (SqT.of h1);obtain⟨as,ra⟩:=DVs.reads I ds h2 rv;exact⟨_,.tuple e1 e2 e3 (by simpa using ra)⟩
 |_,_,.dict _,h,_=>by
  unfold DV at h;exact h.elim
theorem DVs.reads(I:Inv X ρ σ H s):∀{vs:List V} {us:List Value} (ds:List PyData),DVs H vs ds->Vals vs us->∃as,ReadsAll s.heap us ds as
 |_,_,[],h,r=>by
  unfold DVs at h;subst h;cases r;exact⟨_,.nil⟩
 |_,_,d::ds,h,r=>by
  unfold DVs at h;obtain⟨v,t,rfl,h1,h2⟩:=h;cases r with
  |cons ru rr=>
   obtain⟨as,a1⟩:=DV.reads I d h1 ru;obtain⟨bs,a2⟩:=DVs.reads I ds h2 rr;exact⟨_,.cons a1 a2⟩
end
end
mutual
theorem sd{H:Hp}:∀{v:V} (d:PyData),DV H v d->d.hasDict=false
 |_,.none,_=>by simp only[PyData.hasDict]
 |_,.bool _,_=>by simp only[PyData.hasDict]
 |_,.int _,_=>by simp only[PyData.hasDict]
 |_,.str _,_=>by simp only[PyData.hasDict]
 |_,.list ds,h=>by
  unfold DV at h;obtain⟨a,xs,e,h1,h2⟩:=h;simp only[PyData.hasDict];exact lF ds h2
 |_,.tuple ds,h=>by
  unfold DV at h;obtain⟨a,xs,e,h1,h2⟩:=h;simp only[PyData.hasDict];exact lF ds h2
 |_,.dict _,h=>by
  unfold DV at h;exact h.elim
theorem lF{H:Hp}:∀{vs:List V} (ds:List PyData),DVs H vs ds->PyData.hasDictAll ds=false
 |_,[],_=>by simp only[PyData.hasDictAll]
 |_,d::ds,h=>by
  unfold DVs at h;obtain⟨v,r,e,h1,h2⟩:=h;simp only[PyData.hasDictAll,sd d h1,lF ds h2,Bool.or_self]
end
def LE:List V->Hp->VK->Prop:=fun xs H Q=>∃x d,xs=[x]/\DV H x d/\d.showable=true/\d.depth<=60/\d.shown.length<=sizeLine/\Q (.str d.shown) H
def Ad(hg:X.A.guards=some [])(hu:X.A.units+64<cLine):CallR X (.builtin "repr") LE:=by
 intro ρ s σ H xs us Q I r h;obtain⟨x,d,rfl,hd,hsh,hdp,hsz,q⟩:=h;obtain⟨u,rfl,ru⟩:=cZ r;have nd:=sd d hd;obtain⟨as,rd⟩:=DV.reads I d hd ru;cases d with
 |none=>
  unfold DV at hd;subst hd;cases ru;have e:(PyData.none).shown=("None":Str):=PyData.shown_none;rw[e]at q;exact P.repr_of_none ⟨.str _,H,I.tok _,⟨_,rfl⟩,q⟩
 |bool b=>
  unfold DV at hd;subst hd;cases ru;have e:(PyData.bool b).shown=(if b then "True" else "False":Str):=PyData.shown_bool b;rw[e]at q;exact P.repr_of_bool ⟨.str (if b then "True" else "False"),H,I.tok _,⟨_,rfl⟩,q⟩
 |int i=>
  unfold DV at hd;subst hd;obtain⟨t,rfl⟩:=ru;have e:(PyData.int i).shown=((toString i:String):Str):=PyData.shown_int i;rw[e]at q;have hl:i.natAbs.log2<1920:=by simpa[PyData.showable]using hsh
  exact P.repr_of_int hl ⟨.str _,H,I.tok _,⟨_,rfl⟩,q⟩
 |str y=>
  unfold DV at hd;subst hd;obtain⟨t,rfl⟩:=ru;have e:(PyData.str y).shown=reprText y:=PyData.shown_str y;rw[e]at q hsz;exact P.repr_of_str ⟨.str _,H,I.tok _,⟨_,rfl⟩,q⟩ hsz
 |list ds=>
  have hd':=hd;unfold DV at hd';obtain⟨a,ys,rfl,_,_⟩:=hd';cases ru;exact repr_of_reads' rd hsh (PyData.noDict_hsm nd) hg (by omega) (fun _ _ e=>e) (fun h' u tk hk=>⟨.str _,H,I.kept (t':=tk) hk,⟨_,rfl⟩,q⟩) hsz
 |tuple ds=>
  have hd':=hd;unfold DV at hd';obtain⟨a,ys,rfl,_,_⟩:=hd';cases ru;exact repr_of_reads' rd hsh (PyData.noDict_hsm nd) hg (by omega) (fun _ _ e=>e) (fun h' u tk hk=>⟨.str _,H,I.kept (t':=tk) hk,⟨_,rfl⟩,q⟩) hsz
 |dict _=>
  unfold DV at hd;exact hd.elim
section
variable{s:Shared}
def wN{vals:Array Value}{y:Value}{R:Value->Shared->Prop}(a1:s.heap.IsTupleIter jt tu n)(a2:s.heap.IsTuple tu vals)(a3:vals[n]?=some y)
  (q:∀g,g.IsTupleIter jt tu (n+1)->Heap.SameBut jt s.heap g->R y { s with heap:=g }):wpAny (model prog w) A (Builtin.SmallTypes.nextOf (.ref jt)) R E s:=by
 obtain⟨ob,b1,b2,b3⟩:=id a1;obtain⟨ot,c1,_,m,c2⟩:=a2;unfold Builtin.SmallTypes.nextOf;refine zam (zbw (name:=Str.ofString "__next__") a1.typeIs F.slot_tuple_iterator_next (wpAny_call_entry F.slot_tuple_iterator_next a1.typeIs F.entry_tuple_iterator_next ?_ (F.args_tuple_iterator_next_1 _)));show wpAny _ _ (field (.ref jt) 0 >>= _) _ _ s;refine zam (wpAny_field b1 b3 (x:=.ref tu) rfl ?_);show wpAny _ _ (if(Value.ref tu==Value.none)=true then _ else _) _ _ s;rw[if_neg (show ¬((Value.ref tu==Value.none)=true)from zbl)];show wpAny _ _ (field (.ref jt) 1 >>= _) _ _ s;refine zam (wpAny_field b1 b3 (x:=.int n 0) rfl ?_);show wpAny _ _ (seqItems? (.ref tu) >>= _) _ _ s;refine zam (wpAny_seqItems c1 c2 ?_);simp only[zaL,a3];refine zam (wpAny_setField b1 b3 (by simp) (zaT ⟨y,rfl,zaT (q _ ?_ (Heap.SameBut.update ..))⟩));refine⟨_,Heap.get?_update_self _ b1 (Obj.isFreed_of_fields (Obj.data_mapFields b3 _)),(Obj.cls_mapFields ..).trans b2,?_⟩;rw[Obj.data_mapFields b3];simp[rawInt]
def ym{vals:Array Value}{R:Value->Shared->Prop}(hh:A.handled=none)(a1:s.heap.IsTupleIter jt tu n)(a2:s.heap.IsTuple tu vals)(a3:vals[n]?=none)
  (q:∀g e,Heap.ExtBut jt s.heap g->(∃o,g.get? e=some o/\o.cls=.type "StopIteration")->E (.ref e) { s with heap:=g }):wpAny (model prog w) A (Builtin.SmallTypes.nextOf (.ref jt)) R E s:=by
 obtain⟨ob,b1,b2,b3⟩:=id a1;obtain⟨ot,c1,_,m,c2⟩:=a2;unfold Builtin.SmallTypes.nextOf;refine zam (zbw (name:=Str.ofString "__next__") a1.typeIs F.slot_tuple_iterator_next (wpAny_call_entry F.slot_tuple_iterator_next a1.typeIs F.entry_tuple_iterator_next ?_ (F.args_tuple_iterator_next_1 _)));show wpAny _ _ (field (.ref jt) 0 >>= _) _ _ s;refine zam (wpAny_field b1 b3 (x:=.ref tu) rfl ?_);show wpAny _ _ (if(Value.ref tu==Value.none)=true then _ else _) _ _ s;rw[if_neg (show ¬((Value.ref tu==Value.none)=true)from zbl)];show wpAny _ _ (field (.ref jt) 1 >>= _) _ _ s;refine zam (wpAny_field b1 b3 (x:=.int n 0) rfl ?_);show wpAny _ _ (seqItems? (.ref tu) >>= _) _ _ s;refine zam (wpAny_seqItems c1 c2 ?_);simp only[zaL,a3];refine zam (wpAny_rule (zam (wpAny_setField b1 b3 (by simp) ?_)));show wpAny _ _ (newExc (.type "StopIteration") [] >>= _) _ _ _;refine zam ?_;simp only[newExc,newTuple];refine zam (wpAny_newObj_type ?_ (by show(0:Nat)<=_;exact zbh _));refine zam (m:=firstArgMember _ _) (wpAny_of_eq (a:=Value.none) (by first|rfl | (simp only[firstArgMember];rfl)) ?_);refine wpAny_newObj_type ?_;simp only[raiseNew];refine zam (wpAny_handled ?_)
 first|rw[show A.in1.handled=none from hh]|rw[hh]
 refine zam (zaT (wpAny_throw ?_));exact q _ _ (((Heap.SameBut.update ..).extBut.push _).push _) ⟨_,zan _ rfl,rfl⟩
def ig(hh:A.handled=none)(jt tu:Addr)(hne:tu≠jt)(vals:Array Value):Draws prog w A jt [jt,tu] vals.size (fun i v=>vals[i]?=some v) (fun i h=>h.IsTupleIter jt tu i/\h.IsTuple tu vals) where
 live:=fun _ _ st=>let⟨o,ho,_⟩:=st.1;⟨o,ho⟩
 frame:=fun _ _ _ st hk=>⟨st.1.at fun o e=>hk jt (by simp) o e,let⟨o,ho,r⟩:=st.2;⟨o,hk tu (by simp) o ho,r⟩⟩
 item:=fun i s Q E hi st hQ=>by
  refine wN st.1 st.2 (y:=vals[i]) (by simp[hi]) fun g st' sb=>?_;exact hQ _ g s.toks (by simp[hi]) ⟨st',let⟨o,ho,r⟩:=st.2;⟨o,sb.extBut _ _ hne ho,r⟩⟩ sb
 done:=fun s Q E st hE=>ym hh st.1 st.2 (by simp) hE
end
section
open PySem.SeqAt
end
def Rp(H:Hp)(v:V)(txt:Str):Prop:=(∃d,DV H v d/\d.showable=true/\d.depth<=60/\d.shown.length<=sizeLine/\txt=d.shown)\/∃a,v=.ref a/\Rd H a (.dK [])/\txt=("{}":Str)
def Js:List V->Hp->VK->Prop:=fun xs H Q=>∃x txt,xs=[x]/\Rp H x txt/\Q (.str txt) H
def xS(hg:X.A.guards=some [])(hu:X.A.units+64<cLine):CallR X (.builtin "repr") Js:=by
 intro ρ s σ H xs us Q I r h;obtain⟨x,txt,rfl,hd,q⟩:=h;rcases hd with⟨d,h1,h2,h3,h4,rfl⟩|⟨a,rfl,ha,rfl⟩
 ·exact Ad hg hu ρ s σ H _ us Q I r ⟨x,d,rfl,h1,h2,h3,h4,q⟩
 ·obtain⟨u,rfl,ru⟩:=cZ r;cases ru;obtain⟨_,hsys,vs,kv,dd⟩:=nW I.hok ha;have hv:vs=[]:=by
   have e:=KV.length kv;exact za6.mp e.symm
  subst hv;have rd:Reads s.heap (.ref a) (.dict []) (a::[]++[]):=by
   obtain⟨o,es,n,g1,g2,g3,_,g5,_⟩:=dd;have h0:es.toList=[]:=by
    generalize es.toList=L at g5;cases g5;rfl
   refine .dict g1 g2.1 g3 ?_ ?_
   ·rw[h0];exact .nil
   ·rw[h0];exact .nil
  have e:(PyData.dict []).shown=("{}":Str):=by decide +kernel
  refine repr_of_reads' rd (by decide +kernel) (fun _ hm=>?_) hg (by show X.A.units+(1+1)<cLine;omega) (fun _ _ e=>e) (fun h' u tk hk=>⟨.str _,H,I.kept (t':=tk) hk,⟨_,rfl⟩,?_⟩) (by rw[e];decide)
  ·have hm':sysModules=a:=by simpa using hm
   rw[<-hm']at hsys;simp at hsys
  ·rw[e];exact q
abbrev D:=PyData
variable{t t1 t2:D}{ks:List (D×D)}{g g':D->D->Option D}{ts us:List D}
abbrev En:=List (Option D)
variable{en en' en1 en2:En}
abbrev AS:=Addr->Prop
variable{R R' R1:Nat->AS}{O O' G F2 Ox Ox' F1 F0 F' O1:AS}
def dn:Nat->Nat
 |0=>0
 |1=>0
 |2=>1
 |n+3=>n+3
def GM:∀{a b:Nat},a<=b->dn a<=dn b
 |0,_,_=>zbh _
 |1,_,_=>zbh _
 |2,2,_=>zav _
 |2,b+3,_=>by show 1<=b+3;omega
 |a+3,b+3,h=>h
 |a+3,0,h=>by omega
 |a+3,1,h=>by omega
 |a+3,2,h=>by omega
 |2,0,h=>by omega
 |2,1,h=>by omega
def kD:Key->D
 |.inl i=>.int i
 |.inr x=>.str x
def FzL(K:zbS)(O:AS)(H:Hp)(a:Addr)(vs:List V):Prop:=(Rd H a (.lst vs)/\¬O a)\/∀H',SqL K H' a vs
def FzT(K:zbS)(O:AS)(H:Hp)(a:Addr)(vs:List V):Prop:=H a=some (.tup vs)/\¬O a
def FzL.sq(h:FzL K O H a vs):SqL K H a vs:=h.elim (fun h=>.inl h.1) fun h=>h H
def FzT.sq(h:FzT K O H a vs):SqT K H a vs:=SqT.of h.1
def fS(a C:Addr):Heap->Prop:=fun h=>∃o,h.get? a=some o/\o.cls=.ref C/\∀c,o.data≠.cls c
def oD:Option Key->D
 |none=>.none
 |some k=>kD k
def MF:D->Bool
 |.none=>true
 |.bool _=>true
 |.int _=>true
 |.str _=>true
 |_=>false
def dV:D->V
 |.bool b=>.bl b
 |.int i=>.int i
 |.str x=>.str x
 |_=>.non
abbrev TKs:=List (List (Option Key)×D)
def tkD(q:List (Option Key)×D):D×D:=(.tuple (q.1.map oD),q.2)
def tkL(kvs:TKs):List (D×D):=(.none,.none)::kvs.map tkD
def tkV(q:List (Option Key)×D):List (Option Key)×V:=(q.1,dV q.2)
def PrD(O:AS)(H:Hp)(rd:HO->Prop)(ks:List (D×D)):Prop:=∃(kvs:TKs) (ad:Addr->Prop),(kvs.all fun q=>MF q.2)=true/\ks=tkL kvs/\rd (.dT (kvs.map tkV) ad)/\∀b,ad b->¬O b/\∃vs,H b=some (.tup vs)
def TupD(K:zbS)(H:Hp)(O:AS)(ks:List (D×D))(a:Addr):Prop:=(PrD O H (Rd H a) ks/\¬O a) \/
 ∃(x:Str) (C:Addr),ks=[(.none,.str x)]/\PySem.W.nsIn K mainGlobals x=some (some (.ref C))/\H a=some (.ext (fS a C))/\¬O a
def PrD.to{rd':HO->Prop}(h:PrD O H rd ks)(k0:∀kvs ad,rd (.dT kvs ad)->rd' (.dT kvs ad))(k:∀b o,H b=some o->¬O b->H' b=some o/\¬O' b):PrD O' H' rd' ks:=by
 obtain⟨kvs,ad,h2,h3,h4,h5⟩:=h;refine⟨kvs,ad,h2,h3,k0 _ _ h4,fun b z=>?_⟩;obtain⟨g1,vs,g2⟩:=h5 b z;exact⟨(k b _ g2 g1).2,vs,(k b _ g2 g1).1⟩
def TupD.to{K:zbS}{H H':Hp}{O O':AS}{ks:List (D×D)}{a:Addr}(h:TupD K H O ks a)(k:∀b o,H b=some o->¬O b->H' b=some o/\¬O' b):TupD K H' O' ks a:=by
 rcases h with⟨h2,h3⟩|⟨x,C,h1,h0,h2,h3⟩
 ·refine .inl ⟨h2.to (fun kvs ad r=>?_) k,?_⟩
  ·rcases r with r|⟨o,r⟩
   ·exact .inl (k a _ r h3).1
   ·exact .inr ⟨o,(k a _ r h3).1⟩
  ·obtain⟨_,_,_,_,r,_⟩:=h2;rcases r with r|⟨o,r⟩<;>exact(k a _ r h3).2
 ·obtain⟨g1,g2⟩:=k a _ h2 h3;exact .inr ⟨x,C,h1,h0,g1,g2⟩
def Le4(a b:Nat):Prop:=a<=b/\(b=4->a=0\/a=4)
instance (a b:Nat):Decidable (Le4 a b):=inferInstanceAs (Decidable (_/\_))
def Le4.refl(a:Nat):Le4 a a:=⟨zav _,.inr⟩
def Le4.zero(a:Nat):Le4 0 a:=⟨zbh _,fun _=>.inl rfl⟩
theorem Le4.dn{a b:Nat}(h:Le4 a b):Le4 (L2.dn a) (L2.dn b):=⟨GM h.1,fun e=>by
 have:b=4:=by
  match b,e with
  |0,e=>cases e
  |1,e=>cases e
  |2,e=>cases e
  |n+3,e=>exact e
 exact(h.2 this).imp (fun z=>by rw[z];rfl) fun z=>by rw[z];rfl⟩
mutual
def Ow(K:zbS)(O:AS)(H:Hp):D->Nat->V->AS->Prop
 |.none,_,v,_=>v=.non
 |.bool b,_,v,_=>v=.bl b
 |.int i,_,v,_=>v=.int i
 |.str x,_,v,_=>v=.str x
 |.tuple ts,d,v,F=>∃a vs,v=.ref a/\((d=0/\FzT K O H a vs/\Ows K O H ts 0 vs F)\/(d≠0/\H a=some (.tup vs)/\F a/\∃F':AS,(∀b,F' b->F b/\b≠a)/\Ows K O H ts (dn d) vs F'))
 |.list ts,d,v,F=>∃a vs,v=.ref a/\((d=0/\FzL K O H a vs/\Ows K O H ts 0 vs F)\/(d≠0/\H a=some (.lst vs)/\F a/\∃F':AS,(∀b,F' b->F b/\b≠a)/\Ows K O H ts (dn d) vs F'))
 |.dict ks,d,v,F=>∃a vs,v=.ref a/\((d=0/\Rd H a (.dK vs)/\¬O a/\Owd K O H ks 0 vs F)\/(d≠0/\H a=some (.dK vs)/\F a/\∃F':AS,(∀b,F' b->F b/\b≠a)/\Owd K O H ks (dn d) vs F')\/(d=0/\TupD K H O ks a)\/(d=4/\F a/\PrD O H (fun u=>H a=some u) ks))
def Ows(K:zbS)(O:AS)(H:Hp):List D->Nat->List V->AS->Prop
 |[],_,vs,_=>vs=[]
 |t::ts,d,vs,F=>∃v r,∃F1 F2:AS,vs=v::r/\(∀b,F1 b->F b)/\(∀b,F2 b->F b)/\(∀b,F1 b->¬F2 b)/\Ow K O H t d v F1/\Ows K O H ts d r F2
def Owd(K:zbS)(O:AS)(H:Hp):List (D×D)->Nat->List (Key×V)->AS->Prop
 |[],_,vs,_=>vs=[]
 | (k,t)::ts,d,vs,F=>∃q v r,∃F1 F2:AS,vs=(q,v)::r/\k=kD q/\(∀b,F1 b->F b)/\(∀b,F2 b->F b)/\(∀b,F1 b->¬F2 b)/\Ow K O H t d v F1/\Owd K O H ts d r F2
end
def Rd.mv(hk:∀o,H a=some o->H' a=some o)(h:Rd H a u):Rd H' a u:=by
 rcases h with h|⟨o,h⟩
 ·exact .inl (hk _ h)
 ·exact .inr ⟨o,hk _ h⟩
def Rd.there(h:Rd H a u):H a≠none:=by
 rcases h with h|⟨o,h⟩<;>rw[h]<;>exact fun z=>nomatch z
structure Mv(O O':AS)(G:AS)(H H':Hp):Prop where
 k:∀a o,H a=some o->(¬O a\/G a)->H' a=some o
 o:∀a,O' a->O a\/H a=none
def FzL.mv{G:AS}{a:Addr}{vs:List V}(m:Mv O O' G H H')(h:FzL K O H a vs):FzL K O' H' a vs:=by
 rcases h with⟨h,n⟩|h
 ·refine .inl ⟨h.mv fun o e=>m.k _ _ e (.inl n),fun z=>?_⟩;rcases m.o _ z with z|z
  ·exact n z
  ·exact h.there z
 ·exact .inr h
def FzT.mv(m:Mv O O' G H H')(h:FzT K O H a vs):FzT K O' H' a vs:=by
 obtain⟨h,n⟩:=h;refine⟨m.k _ _ h (.inl n),fun z=>?_⟩;rcases m.o _ z with z|z
 ·exact n z
 ·rw[h]at z;cases z
mutual
theorem Ow.mv{G:AS}(m:Mv O O' G H H'):∀(t:D) {d:Nat} {v:V} {F:AS},(∀b,F b->G b)->Ow K O H t d v F->Ow K O' H' t d v F
 |.none,_,_,_,_,h=>h
 |.bool _,_,_,_,_,h=>h
 |.int _,_,_,_,_,h=>h
 |.str _,_,_,_,_,h=>h
 |.tuple ts,_,_,_,g,h=>by
  obtain⟨a,vs,e,⟨h0,h1,h2⟩|⟨h0,h1,h2,F',hf,h3⟩⟩:=h
  ·exact⟨a,vs,e,.inl ⟨h0,h1.mv m,Ows.mv m ts g h2⟩⟩
  ·exact⟨a,vs,e,.inr ⟨h0,m.k _ _ h1 (.inr (g _ h2)),h2,F',hf,Ows.mv m ts (fun b hb=>g _ (hf b hb).1) h3⟩⟩
 |.list ts,_,_,_,g,h=>by
  obtain⟨a,vs,e,⟨h0,h1,h2⟩|⟨h0,h1,h2,F',hf,h3⟩⟩:=h
  ·exact⟨a,vs,e,.inl ⟨h0,h1.mv m,Ows.mv m ts g h2⟩⟩
  ·exact⟨a,vs,e,.inr ⟨h0,m.k _ _ h1 (.inr (g _ h2)),h2,F',hf,Ows.mv m ts (fun b hb=>g _ (hf b hb).1) h3⟩⟩
 |.dict ks,_,_,_,g,h=>by
  obtain⟨a,vs,e,⟨h0,h1,hn,h2⟩|⟨h0,h1,h2,F',hf,h3⟩|⟨h0,ht⟩|⟨h0,h1,hp⟩⟩:=h
  ·refine⟨a,vs,e,.inl ⟨h0,h1.mv fun o e=>m.k _ _ e (.inl hn),fun z=>?_,Owd.mv m ks g h2⟩⟩;rcases m.o _ z with z|z
   ·exact hn z
   ·exact h1.there z
  ·exact⟨a,vs,e,.inr (.inl ⟨h0,m.k _ _ h1 (.inr (g _ h2)),h2,F',hf,Owd.mv m ks (fun b hb=>g _ (hf b hb).1) h3⟩)⟩
  ·refine⟨a,vs,e,.inr (.inr (.inl ⟨h0,ht.to fun b o h2 hn=>⟨m.k _ _ h2 (.inl hn),fun z=>?_⟩⟩))⟩;rcases m.o _ z with z|z
   ·exact hn z
   ·rw[h2]at z;cases z
  ·refine⟨a,vs,e,.inr (.inr (.inr ⟨h0,h1,hp.to (fun _ _ q=>m.k _ _ q (.inr (g _ h1))) fun b o h2 hn=>⟨m.k _ _ h2 (.inl hn),fun z=>?_⟩⟩))⟩;rcases m.o _ z with z|z
   ·exact hn z
   ·rw[h2]at z;cases z
theorem Ows.mv{G:AS}(m:Mv O O' G H H'):∀(ts:List D) {d:Nat} {vs:List V} {F:AS},(∀b,F b->G b)->Ows K O H ts d vs F->Ows K O' H' ts d vs F
 |[],_,_,_,_,h=>h
 |t::ts,_,_,_,g,h=>by
  obtain⟨v,r,F1,F2,e,h1,h2,h3,h4,h5⟩:=h;exact⟨v,r,F1,F2,e,h1,h2,h3,Ow.mv m t (fun b hb=>g _ (h1 b hb)) h4,Ows.mv m ts (fun b hb=>g _ (h2 b hb)) h5⟩
theorem Owd.mv{G:AS}(m:Mv O O' G H H'):∀(ts:List (D×D)) {d:Nat} {vs:List (Key×V)} {F:AS},(∀b,F b->G b)->Owd K O H ts d vs F->Owd K O' H' ts d vs F
 |[],_,_,_,_,h=>h
 | (k,t)::ts,_,_,_,g,h=>by
  obtain⟨q,v,r,F1,F2,e,e2,h1,h2,h3,h4,h5⟩:=h;exact⟨q,v,r,F1,F2,e,e2,h1,h2,h3,Ow.mv m t (fun b hb=>g _ (h1 b hb)) h4,Owd.mv m ts (fun b hb=>g _ (h2 b hb)) h5⟩
end
def FzL.sub(ho:∀a,O' a->O a)(h:FzL K O H a vs):FzL K O' H a vs:=h.imp (fun h=>⟨h.1,fun z=>h.2 (ho _ z)⟩) id
def FzT.sub(ho:∀a,O' a->O a)(h:FzT K O H a vs):FzT K O' H a vs:=⟨h.1,fun z=>h.2 (ho _ z)⟩
mutual
theorem Ow.cut:∀(t:D) {d d':Nat} {v:V} {F:AS},Le4 d' d->Ow K O H t d v F->∃F':AS,(∀b,F' b->F b)/\∀O':AS,(∀a,O' a->O a)->(∀a,F a->O' a->F' a)->Ow K O' H t d' v F'
 |.none,_,_,_,F,_,h=>⟨F,fun _ z=>z,fun _ _ _=>h⟩
 |.bool _,_,_,_,F,_,h=>⟨F,fun _ z=>z,fun _ _ _=>h⟩
 |.int _,_,_,_,F,_,h=>⟨F,fun _ z=>z,fun _ _ _=>h⟩
 |.str _,_,_,_,F,_,h=>⟨F,fun _ z=>z,fun _ _ _=>h⟩
 |.tuple ts,d,d',_,F,hd,h=>by
  obtain⟨a,vs,e,⟨h0,h1,h2⟩|⟨h0,h1,h2,G,hg,h3⟩⟩:=h
  ·subst h0;have e0:d'=0:=Nat.le_zero.mp hd.1;subst e0;obtain⟨F',s1,s2⟩:=Ows.cut ts (.refl _) h2;exact⟨F',s1,fun O' ho hx=>⟨a,vs,e,.inl ⟨rfl,h1.sub ho,s2 O' ho hx⟩⟩⟩
  ·by_cases e0:d'=0
   ·subst e0;obtain⟨F',s1,s2⟩:=Ows.cut ts (.zero _) h3;refine⟨F',fun b hb=>(hg _ (s1 b hb)).1,fun O' ho hx=>⟨a,vs,e,.inl ⟨rfl,⟨h1,fun z=>(hg _ (s1 _ (hx _ h2 z))).2 rfl⟩,s2 O' ho fun b hb=>hx b (hg b hb).1⟩⟩⟩
   ·obtain⟨F',s1,s2⟩:=Ows.cut ts hd.dn h3;refine⟨fun b=>b=a\/F' b,fun b hb=>hb.elim (fun z=>z▸h2) fun z=>(hg _ (s1 b z)).1,fun O' ho hx=>⟨a,vs,e,.inr ⟨e0,h1,.inl rfl,F',fun b hb=>⟨.inr hb,(hg _ (s1 b hb)).2⟩,s2 O' ho fun b hb hz=>?_⟩⟩⟩;exact(hx b (hg b hb).1 hz).elim (fun z=>absurd z (hg b hb).2) id
 |.list ts,d,d',_,F,hd,h=>by
  obtain⟨a,vs,e,⟨h0,h1,h2⟩|⟨h0,h1,h2,G,hg,h3⟩⟩:=h
  ·subst h0;have e0:d'=0:=Nat.le_zero.mp hd.1;subst e0;obtain⟨F',s1,s2⟩:=Ows.cut ts (.refl _) h2;exact⟨F',s1,fun O' ho hx=>⟨a,vs,e,.inl ⟨rfl,h1.sub ho,s2 O' ho hx⟩⟩⟩
  ·by_cases e0:d'=0
   ·subst e0;obtain⟨F',s1,s2⟩:=Ows.cut ts (.zero _) h3;refine⟨F',fun b hb=>(hg _ (s1 b hb)).1,fun O' ho hx=>⟨a,vs,e,.inl ⟨rfl,.inl ⟨.inl h1,fun z=>(hg _ (s1 _ (hx _ h2 z))).2 rfl⟩,s2 O' ho fun b hb=>hx b (hg b hb).1⟩⟩⟩
   ·obtain⟨F',s1,s2⟩:=Ows.cut ts hd.dn h3;refine⟨fun b=>b=a\/F' b,fun b hb=>hb.elim (fun z=>z▸h2) fun z=>(hg _ (s1 b z)).1,fun O' ho hx=>⟨a,vs,e,.inr ⟨e0,h1,.inl rfl,F',fun b hb=>⟨.inr hb,(hg _ (s1 b hb)).2⟩,s2 O' ho fun b hb hz=>?_⟩⟩⟩;exact(hx b (hg b hb).1 hz).elim (fun z=>absurd z (hg b hb).2) id
 |.dict ts,d,d',_,F,hd,h=>by
  obtain⟨a,vs,e,⟨h0,h1,hn,h2⟩|⟨h0,h1,h2,G,hg,h3⟩|⟨h0,ht⟩|⟨h0,h1,hp⟩⟩:=h
  ·subst h0;have e0:d'=0:=Nat.le_zero.mp hd.1;subst e0;obtain⟨F',s1,s2⟩:=Owd.cut ts (.refl _) h2;exact⟨F',s1,fun O' ho hx=>⟨a,vs,e,.inl ⟨rfl,h1,fun z=>hn (ho _ z),s2 O' ho hx⟩⟩⟩
  ·by_cases e0:d'=0
   ·subst e0;obtain⟨F',s1,s2⟩:=Owd.cut ts (.zero _) h3;refine⟨F',fun b hb=>(hg _ (s1 b hb)).1,fun O' ho hx=>⟨a,vs,e,.inl ⟨rfl,.inl h1,fun z=>(hg _ (s1 _ (hx _ h2 z))).2 rfl,s2 O' ho fun b hb=>hx b (hg b hb).1⟩⟩⟩
   ·obtain⟨F',s1,s2⟩:=Owd.cut ts hd.dn h3;refine⟨fun b=>b=a\/F' b,fun b hb=>hb.elim (fun z=>z▸h2) fun z=>(hg _ (s1 b z)).1,fun O' ho hx=>⟨a,vs,e,.inr (.inl ⟨e0,h1,.inl rfl,F',fun b hb=>⟨.inr hb,(hg _ (s1 b hb)).2⟩,s2 O' ho fun b hb hz=>?_⟩)⟩⟩;exact(hx b (hg b hb).1 hz).elim (fun z=>absurd z (hg b hb).2) id
  ·subst h0;have e0:d'=0:=Nat.le_zero.mp hd.1;subst e0;exact⟨F,fun _ z=>z,fun O' ho hx=>⟨a,vs,e,.inr (.inr (.inl ⟨rfl,ht.to fun _ o h2 hn=>⟨h2,fun z=>hn (ho _ z)⟩⟩))⟩⟩
  ·rcases hd.2 h0 with e0|e0
   ·exact⟨fun _=>False,fun _ z=>z.elim,fun O' ho hx=>⟨a,vs,e,.inr (.inr (.inl ⟨e0,.inl ⟨hp.to (fun _ _ q=>.inl q) fun _ o h2 hn=>⟨h2,fun z=>hn (ho _ z)⟩,fun z=>hx a h1 z⟩⟩))⟩⟩
   ·exact⟨F,fun _ z=>z,fun O' ho hx=>⟨a,vs,e,.inr (.inr (.inr ⟨e0,h1,hp.to (fun _ _ q=>q) fun _ o h2 hn=>⟨h2,fun z=>hn (ho _ z)⟩⟩))⟩⟩
theorem Ows.cut:∀(ts:List D) {d d':Nat} {vs:List V} {F:AS},Le4 d' d->Ows K O H ts d vs F->∃F':AS,(∀b,F' b->F b)/\∀O':AS,(∀a,O' a->O a)->(∀a,F a->O' a->F' a)->Ows K O' H ts d' vs F'
 |[],_,_,_,F,_,h=>⟨F,fun _ z=>z,fun _ _ _=>h⟩
 |t::ts,_,_,_,F,hd,h=>by
  obtain⟨v,r,F1,F2,e,h1,h2,h3,h4,h5⟩:=h;obtain⟨G1,a1,a2⟩:=Ow.cut t hd h4;obtain⟨G2,b1,b2⟩:=Ows.cut ts hd h5;refine⟨fun b=>G1 b\/G2 b,fun b hb=>hb.elim (fun z=>h1 _ (a1 _ z)) fun z=>h2 _ (b1 _ z),fun O' ho hx=>⟨v,r,G1,G2,e,fun b=>.inl,fun b=>.inr,fun b z1 z2=>h3 b (a1 b z1) (b1 b z2),a2 O' ho fun b hb hz=>?_,b2 O' ho fun b hb hz=>?_⟩⟩
  ·exact(hx b (h1 b hb) hz).elim id fun z=>absurd (b1 b z) (h3 b hb)
  ·exact(hx b (h2 b hb) hz).elim (fun z=>absurd hb (h3 b (a1 b z))) id
theorem Owd.cut:∀(ts:List (D×D)) {d d':Nat} {vs:List (Key×V)} {F:AS},Le4 d' d->Owd K O H ts d vs F->∃F':AS,(∀b,F' b->F b)/\∀O':AS,(∀a,O' a->O a)->(∀a,F a->O' a->F' a)->Owd K O' H ts d' vs F'
 |[],_,_,_,F,_,h=>⟨F,fun _ z=>z,fun _ _ _=>h⟩
 | (k,t)::ts,_,_,_,F,hd,h=>by
  obtain⟨q,v,r,F1,F2,e,e2,h1,h2,h3,h4,h5⟩:=h;obtain⟨G1,a1,a2⟩:=Ow.cut t hd h4;obtain⟨G2,b1,b2⟩:=Owd.cut ts hd h5;refine⟨fun b=>G1 b\/G2 b,fun b hb=>hb.elim (fun z=>h1 _ (a1 _ z)) fun z=>h2 _ (b1 _ z),fun O' ho hx=>⟨q,v,r,G1,G2,e,e2,fun b=>.inl,fun b=>.inr,fun b z1 z2=>h3 b (a1 b z1) (b1 b z2),a2 O' ho fun b hb hz=>?_,b2 O' ho fun b hb hz=>?_⟩⟩
  ·exact(hx b (h1 b hb) hz).elim id fun z=>absurd (b1 b z) (h3 b hb)
  ·exact(hx b (h2 b hb) hz).elim (fun z=>absurd hb (h3 b (a1 b z))) id
end
mutual
theorem Ow.grow(ho:∀a,O' a->O a):∀(t:D) {d:Nat} {v:V} {F F':AS},(∀b,F b->F' b)->Ow K O H t d v F->Ow K O' H t d v F'
 |.none,_,_,_,_,_,h=>h
 |.bool _,_,_,_,_,_,h=>h
 |.int _,_,_,_,_,_,h=>h
 |.str _,_,_,_,_,_,h=>h
 |.tuple ts,_,_,_,_,hf,h=>by
  obtain⟨a,vs,e,⟨h0,h1,h2⟩|⟨h0,h1,h2,G,hg,h3⟩⟩:=h
  ·exact⟨a,vs,e,.inl ⟨h0,h1.sub ho,Ows.grow ho ts hf h2⟩⟩
  ·exact⟨a,vs,e,.inr ⟨h0,h1,hf _ h2,G,fun b hb=>⟨hf _ (hg b hb).1,(hg b hb).2⟩,Ows.grow ho ts (fun _ z=>z) h3⟩⟩
 |.list ts,_,_,_,_,hf,h=>by
  obtain⟨a,vs,e,⟨h0,h1,h2⟩|⟨h0,h1,h2,G,hg,h3⟩⟩:=h
  ·exact⟨a,vs,e,.inl ⟨h0,h1.sub ho,Ows.grow ho ts hf h2⟩⟩
  ·exact⟨a,vs,e,.inr ⟨h0,h1,hf _ h2,G,fun b hb=>⟨hf _ (hg b hb).1,(hg b hb).2⟩,Ows.grow ho ts (fun _ z=>z) h3⟩⟩
 |.dict ts,_,_,_,_,hf,h=>by
  obtain⟨a,vs,e,⟨h0,h1,hn,h2⟩|⟨h0,h1,h2,G,hg,h3⟩|⟨h0,ht⟩|⟨h0,h1,hp⟩⟩:=h
  ·exact⟨a,vs,e,.inl ⟨h0,h1,fun z=>hn (ho _ z),Owd.grow ho ts hf h2⟩⟩
  ·exact⟨a,vs,e,.inr (.inl ⟨h0,h1,hf _ h2,G,fun b hb=>⟨hf _ (hg b hb).1,(hg b hb).2⟩,Owd.grow ho ts (fun _ z=>z) h3⟩)⟩
  ·exact⟨a,vs,e,.inr (.inr (.inl ⟨h0,ht.to fun _ o h2 hn=>⟨h2,fun z=>hn (ho _ z)⟩⟩))⟩
  ·exact⟨a,vs,e,.inr (.inr (.inr ⟨h0,hf _ h1,hp.to (fun _ _ q=>q) fun _ o h2 hn=>⟨h2,fun z=>hn (ho _ z)⟩⟩))⟩
theorem Ows.grow(ho:∀a,O' a->O a):∀(ts:List D) {d:Nat} {vs:List V} {F F':AS},(∀b,F b->F' b)->Ows K O H ts d vs F->Ows K O' H ts d vs F'
 |[],_,_,_,_,_,h=>h
 |t::ts,_,_,_,_,hf,h=>by
  obtain⟨v,r,F1,F2,e,h1,h2,h3,h4,h5⟩:=h;exact⟨v,r,F1,F2,e,fun b z=>hf _ (h1 b z),fun b z=>hf _ (h2 b z),h3,Ow.grow ho t (fun _ z=>z) h4,Ows.grow ho ts (fun _ z=>z) h5⟩
theorem Owd.grow(ho:∀a,O' a->O a):∀(ts:List (D×D)) {d:Nat} {vs:List (Key×V)} {F F':AS},(∀b,F b->F' b)->Owd K O H ts d vs F->Owd K O' H ts d vs F'
 |[],_,_,_,_,_,h=>h
 | (k,t)::ts,_,_,_,_,hf,h=>by
  obtain⟨q,v,r,F1,F2,e,e2,h1,h2,h3,h4,h5⟩:=h;exact⟨q,v,r,F1,F2,e,e2,fun b z=>hf _ (h1 b z),fun b z=>hf _ (h2 b z),h3,Ow.grow ho t (fun _ z=>z) h4,Owd.grow ho ts (fun _ z=>z) h5⟩
end
mutual
theorem Ow.full:∀(t:D) {v:V} {F:AS},Ow K O H t 3 v F->Ow K O' H t 3 v F
 |.none,_,_,h=>h
 |.bool _,_,_,h=>h
 |.int _,_,_,h=>h
 |.str _,_,_,h=>h
 |.tuple ts,_,_,h=>by
  obtain⟨a,vs,e,⟨h0,h1,h2⟩|⟨h0,h1,h2,G,hg,h3⟩⟩:=h
  ·cases h0
  ·exact⟨a,vs,e,.inr ⟨h0,h1,h2,G,hg,Ows.full ts h3⟩⟩
 |.list ts,_,_,h=>by
  obtain⟨a,vs,e,⟨h0,h1,h2⟩|⟨h0,h1,h2,G,hg,h3⟩⟩:=h
  ·cases h0
  ·exact⟨a,vs,e,.inr ⟨h0,h1,h2,G,hg,Ows.full ts h3⟩⟩
 |.dict ts,_,_,h=>by
  obtain⟨a,vs,e,⟨h0,h1,hn,h2⟩|⟨h0,h1,h2,G,hg,h3⟩|⟨h0,_⟩|⟨h0,hp⟩⟩:=h
  ·cases h0
  ·exact⟨a,vs,e,.inr (.inl ⟨h0,h1,h2,G,hg,Owd.full ts h3⟩)⟩
  ·cases h0
  ·cases h0
theorem Ows.full:∀(ts:List D) {vs:List V} {F:AS},Ows K O H ts 3 vs F->Ows K O' H ts 3 vs F
 |[],_,_,h=>h
 |t::ts,_,_,h=>by
  obtain⟨v,r,F1,F2,e,h1,h2,h3,h4,h5⟩:=h;exact⟨v,r,F1,F2,e,h1,h2,h3,Ow.full t h4,Ows.full ts h5⟩
theorem Owd.full:∀(ts:List (D×D)) {vs:List (Key×V)} {F:AS},Owd K O H ts 3 vs F->Owd K O' H ts 3 vs F
 |[],_,_,h=>h
 | (k,t)::ts,_,_,h=>by
  obtain⟨q,v,r,F1,F2,e,e2,h1,h2,h3,h4,h5⟩:=h;exact⟨q,v,r,F1,F2,e,e2,h1,h2,h3,Ow.full t h4,Owd.full ts h5⟩
end
mutual
theorem Ow.any0:∀(t:D) {v:V} {F F':AS},Ow K O H t 0 v F->Ow K O H t 0 v F'
 |.none,_,_,_,h=>h
 |.bool _,_,_,_,h=>h
 |.int _,_,_,_,h=>h
 |.str _,_,_,_,h=>h
 |.tuple ts,_,_,_,h=>by
  obtain⟨a,vs,e,⟨h0,h1,h2⟩|⟨h0,_⟩⟩:=h
  ·exact⟨a,vs,e,.inl ⟨rfl,h1,Ows.any0 ts h2⟩⟩
  ·exact absurd rfl h0
 |.list ts,_,_,_,h=>by
  obtain⟨a,vs,e,⟨h0,h1,h2⟩|⟨h0,_⟩⟩:=h
  ·exact⟨a,vs,e,.inl ⟨rfl,h1,Ows.any0 ts h2⟩⟩
  ·exact absurd rfl h0
 |.dict ts,_,_,_,h=>by
  obtain⟨a,vs,e,⟨h0,h1,hn,h2⟩|⟨h0,_⟩|⟨_,ht⟩|⟨h0,_⟩⟩:=h
  ·exact⟨a,vs,e,.inl ⟨rfl,h1,hn,Owd.any0 ts h2⟩⟩
  ·exact absurd rfl h0
  ·exact⟨a,vs,e,.inr (.inr (.inl ⟨rfl,ht⟩))⟩
  ·cases h0
theorem Ows.any0:∀(ts:List D) {vs:List V} {F F':AS},Ows K O H ts 0 vs F->Ows K O H ts 0 vs F'
 |[],_,_,_,h=>h
 |t::ts,_,_,_,h=>by
  obtain⟨v,r,F1,F2,e,_,_,_,h4,h5⟩:=h;exact⟨v,r,fun _=>False,fun _=>False,e,fun _ z=>z.elim,fun _ z=>z.elim,fun _ z=>z.elim,Ow.any0 t h4,Ows.any0 ts h5⟩
theorem Owd.any0:∀(ts:List (D×D)) {vs:List (Key×V)} {F F':AS},Owd K O H ts 0 vs F->Owd K O H ts 0 vs F'
 |[],_,_,_,h=>h
 | (k,t)::ts,_,_,_,h=>by
  obtain⟨q,v,r,F1,F2,e,e2,_,_,_,h4,h5⟩:=h;exact⟨q,v,r,fun _=>False,fun _=>False,e,e2,fun _ z=>z.elim,fun _ z=>z.elim,fun _ z=>z.elim,Ow.any0 t h4,Owd.any0 ts h5⟩
end
def Ow.fz{F:AS}(ho:∀a,O' a->O a)(hn:∀a,F a->¬O' a)(h:Ow K O H t d v F):Ow K O' H t 0 v F2:=by
 obtain⟨F',s1,s2⟩:=Ow.cut t (.zero d) h;exact Ow.any0 t (s2 O' ho fun a z1 z2=>absurd z2 (hn a z1))
def U(A B:AS):AS:=fun a=>A a\/B a
def Own(R:Nat->AS)(Ox:AS):AS:=fun a=>(∃i,R i a)\/Ox a
def gY{A B:AS}(h:∀a,A a↔B a):A=B:=funext fun a=>propext (h a)
structure EnvOk(K:zbS)(ds:List Nat)(Ox:AS)(H:Hp)(σ:St)(en:En)(R:Nat->AS):Prop where
 at_:∀(i:Nat) (t:D),en[i]?=some (some t)->∃v d,σ[i]?=some (some v)/\ds[i]?=some d/\Ow K (Own R Ox) H t d v (R i)
 dj:∀i j a,R i a->R j a->i=j
 dx:∀i a,R i a->¬Ox a
 dom:∀a,Own R Ox a->∃o,H a=some o
 l1:en.length=σ.length
 l2:ds.length=σ.length
structure Post(K:zbS)(p:Bool)(ds':List Nat)(Ox:AS)(σ:St)(H:Hp)(en:En)(R:Nat->AS)(en':En)(H':Hp)(R':Nat->AS)(F:AS):Prop where
 env:EnvOk K ds' (U F Ox) H' σ en' R'
 fx:∀a,F a->¬Ox a
 keep:∀a o,H a=some o->(∀i,¬R i a)->H' a=some o
 own:∀a,(F a\/∃i,R' i a)->(∃i,R i a)\/H a=none
 dom:∀a o,H a=some o->∃o',H' a=some o'
 pure:p=true->en'=en/\R'=R/\∀a o,H a=some o->H' a=some o
def EnvOk.grow(e:EnvOk K ds Ox H σ en R)(hk:∀a o,H a=some o->H' a=some o){F:AS}(hf:∀a,F a->H a=none/\∃o,H' a=some o):EnvOk K ds (U F Ox) H' σ en R:=by
 have fo:∀a,F a->¬Own R Ox a:=fun a z z2=>by
  obtain⟨o,q⟩:=e.dom a z2;rw[(hf a z).1]at q;cases q
 refine⟨fun i t h=>?_,e.dj,fun i a h z=>?_,fun a h=>?_,e.l1,e.l2⟩
 ·obtain⟨v,d,h1,h2,h3⟩:=e.at_ i t h;refine⟨v,d,h1,h2,Ow.mv (G:=R i) ⟨fun a o q _=>hk a o q,fun a z=>?_⟩ t (fun _ z=>z) h3⟩;rcases z with z|z|z
  ·exact .inl (.inl z)
  ·exact .inr (hf a z).1
  ·exact .inl (.inr z)
 ·rcases z with z|z
  ·exact fo a z (.inl ⟨i,h⟩)
  ·exact e.dx i a h z
 ·rcases h with h|h|h
  ·obtain⟨o,q⟩:=e.dom a (.inl h);exact⟨o,hk a o q⟩
  ·exact(hf a h).2
  ·obtain⟨o,q⟩:=e.dom a (.inr h);exact⟨o,hk a o q⟩
def EnvOk.fewer(e:EnvOk K ds Ox H σ en R)(h:∀a,Ox' a->Ox a):EnvOk K ds Ox' H σ en R:=by
 refine⟨fun i t q=>?_,e.dj,fun i a z1 z2=>e.dx i a z1 (h a z2),fun a z=>e.dom a (z.imp id (h a)),e.l1,e.l2⟩;obtain⟨v,d,h1,h2,h3⟩:=e.at_ i t q;exact⟨v,d,h1,h2,Ow.grow (fun a z=>z.imp id (h a)) t (fun _ z=>z) h3⟩
def tF(K:zbS)(p:Bool)(ds ds':List Nat)(d:Nat)(f:En->Option (D×En)):TE:=fun σ H Q=>
 ∃Ox en R t en',EnvOk K ds Ox H σ en R/\f en=some (t,en')/\∀v H' R' F,Post K p ds' Ox σ H en R en' H' R' F->Ow K (Own R' (U F Ox)) H' t d v F->Q v H'
def Post.refl(e:EnvOk K ds Ox H σ en R):Post K p ds Ox σ H en R en H R (fun _=>False):=by
 have eq:U (fun _=>False) Ox=Ox:=gY fun a=>⟨fun z=>z.elim (fun z=>z.elim) id,.inr⟩;exact⟨eq.symm▸e,fun _ z=>z.elim,fun _ _ q _=>q,fun a z=>z.elim (fun z=>z.elim) .inl,fun a o q=>⟨o,q⟩,fun _=>⟨rfl,rfl,fun _ _ q=>q⟩⟩
def Post.new(e:EnvOk K ds Ox H σ en R)(hk:∀a o,H a=some o->H' a=some o){F:AS}(hf:∀a,F a->H a=none/\∃o,H' a=some o):Post K p ds Ox σ H en R en H' R F:=by
 refine⟨e.grow hk hf,fun a z z2=>?_,fun a o q _=>hk a o q,fun a z=>z.elim (fun z=>.inr (hf a z).1) .inl,fun a o q=>⟨o,hk a o q⟩,fun _=>⟨rfl,rfl,hk⟩⟩;obtain⟨o,q⟩:=e.dom a (.inr z2);rw[(hf a z).1]at q;cases q
theorem Post.trans{H1 H2:Hp}{R1 R2:Nat->AS}{F1 F2:AS}(P1:Post K p1 ds1 Ox σ H en R en1 H1 R1 F1)(P2:Post K p2 ds2 (U F1 Ox) σ H1 en1 R1 en2 H2 R2 F2):
  Post K (p1&&p2) ds2 Ox σ H en R en2 H2 R2 (U F1 F2):=by
 have eq:U F2 (U F1 Ox)=U (U F1 F2) Ox:=gY fun a=>by unfold U;exact⟨fun z=>by rcases z with z|z|z;exact .inl (.inr z);exact .inl (.inl z);exact .inr z,fun z=>by rcases z with (z|z)|z;exact .inr (.inl z);exact .inl z;exact .inr (.inr z)⟩
 have n1:∀a,H1 a=none->H a=none:=fun a z=>by
  cases q:H a with
  |none=>rfl
  |some o=>
   obtain⟨o',q'⟩:=P1.dom a o q;rw[z]at q';cases q'
 refine⟨eq▸P2.env,fun a z z2=>?_,fun a o q n=>?_,fun a z=>?_,fun a o q=>?_,fun hp=>?_⟩
 ·rcases z with z|z
  ·exact P1.fx a z z2
  ·exact P2.fx a z (.inr z2)
 ·refine P2.keep a o (P1.keep a o q n) fun i z=>?_;rcases P1.own a (.inr ⟨i,z⟩)with⟨j,z⟩|z
  ·exact n j z
  ·rw[q]at z;cases z
 ·rcases z with (z|z)|z
  ·exact P1.own a (.inl z)
  ·rcases P2.own a (.inl z)with z|z
   ·exact P1.own a (.inr z)
   ·exact .inr (n1 a z)
  ·rcases P2.own a (.inr z)with z|z
   ·exact P1.own a (.inr z)
   ·exact .inr (n1 a z)
 ·obtain⟨o',q'⟩:=P1.dom a o q;exact P2.dom a o' q'
 ·have h1:p1=true:=by cases p1<;>simp_all
  have h2:p2=true:=by cases p2<;>simp_all
  obtain⟨a1,a2,a3⟩:=P1.pure h1;obtain⟨b1,b2,b3⟩:=P2.pure h2;exact⟨b1.trans a1,b2.trans a2,fun a o q=>b3 a o (a3 a o q)⟩
def Ow.over{R2:Nat->AS}(P1:EnvOk K ds1 (U F1 Ox) H1 σ en1 R1)(P2:Post K p2 ds2 (U F1 Ox) σ H1 en1 R1 en2 H2 R2 F2)(h:Ow K (Own R1 (U F1 Ox)) H1 t d v F1):
  Ow K (Own R2 (U (U F1 F2) Ox)) H2 t d v F1:=by
 refine Ow.mv (G:=F1) ⟨fun a o q z=>P2.keep a o q fun i zi=>?_,fun a z=>?_⟩ t (fun _ z=>z) h
 ·rcases z with z|z
  ·exact z (.inl ⟨i,zi⟩)
  ·exact P1.dx i a zi (.inl z)
 ·rcases z with z | (z|z)|z
  ·rcases P2.own a (.inr z)with z|z
   ·exact .inl (.inl z)
   ·exact .inr z
  ·exact .inl (.inr (.inl z))
  ·rcases P2.own a (.inl z)with z|z
   ·exact .inl (.inl z)
   ·exact .inr z
  ·exact .inl (.inr (.inr z))
def mZ:U F2 (U F1 Ox)=U (U F1 F2) Ox:=gY fun a=>by unfold U;exact⟨fun z=>by rcases z with z|z|z;exact .inl (.inr z);exact .inl (.inl z);exact .inr z,fun z=>by rcases z with (z|z)|z;exact .inr (.inl z);exact .inl z;exact .inr (.inr z)⟩
def two{f g:En->Option (D×En)}{Q:V->V->Hp->Prop}(e:EnvOk K ds Ox H σ en R)(h1:f en=some (t1,en1))(h2:g en1=some (t2,en2))
  (k:∀x y H2 R2 F1 F2,Post K (p1&&p2) ds2 Ox σ H en R en2 H2 R2 (U F1 F2)->Ow K (Own R2 (U (U F1 F2) Ox)) H2 t1 d1 x F1->Ow K (Own R2 (U (U F1 F2) Ox)) H2 t2 d2 y F2->Q x y H2):
  tF K p1 ds ds1 d1 f σ H fun x H1=>tF K p2 ds1 ds2 d2 g σ H1 fun y H2=>Q x y H2:=by
 refine⟨Ox,en,R,t1,en1,e,h1,fun x H1 R1 F1 P1 o1=>?_⟩;refine⟨U F1 Ox,en1,R1,t2,en2,P1.env,h2,fun y H2 R2 F2 P2 o2=>?_⟩;exact k x y H2 R2 F1 F2 (P1.trans P2) (Ow.over P1.env P2 o1) (mZ▸o2)
abbrev ME:=En->Option (D×En)
variable{f f1 f2 fk fe:ME}{fs:List (ME×ME)}
abbrev MT:=En->Option (Bool×En)
variable{c1 c2:MT}
abbrev MA:=En->Option (List (D ⊕ Nat)×En)
variable{fa:MA}
def ae(i:Nat):ME:=fun en=>(en[i]?).join.map fun t=>(t,en)
def eMv(i:Nat):ME:=fun en=>(en[i]?).join.map fun t=>(t,en.set i none)
def eC(t:D):ME:=fun en=>some (t,en)
def e1(g:D->Option D)(f:ME):ME:=fun en=>(f en).bind fun r=>(g r.1).map fun t=>(t,r.2)
def e2(g:D->D->Option D)(f1 f2:ME):ME:=fun en=>(f1 en).bind fun r=>(f2 r.2).bind fun q=>(g r.1 q.1).map fun t=>(t,q.2)
def iu(f g:ME):ME:=fun en=>(f en).bind fun r=>match r.1 with
 |.bool true=>g r.2
 |.bool false=>some (.bool false,r.2)
 |_=>none
def eOr(f g:ME):ME:=fun en=>(f en).bind fun r=>match r.1 with
 |.bool true=>some (.bool true,r.2)
 |.bool false=>g r.2
 |_=>none
def pk(f:ME):ME:=fun en=>(f en).bind fun r=>match r.1 with
 |.bool b=>some (.bool (!b),r.2)
 |_=>none
def eIf(c:MT)(f g:ME):ME:=fun en=>(c en).bind fun r=>if r.1 then f r.2 else g r.2
def tV(f:ME):MT:=fun en=>(f en).bind fun r=>match r.1 with
 |.bool b=>some (b,r.2)
 |_=>none
def iz(f g:MT):MT:=fun en=>(f en).bind fun r=>if r.1 then g r.2 else some (false,r.2)
def bOr(f g:MT):MT:=fun en=>(f en).bind fun r=>if r.1 then some (true,r.2)else g r.2
def bE(f:MT):MT:=fun en=>(f en).map fun r=>(!r.1,r.2)
def af:MA:=fun en=>some ([],en)
def ac(f:ME)(r:MA):MA:=fun en=>(f en).bind fun x=>(r x.2).map fun y=>(.inl x.1::y.1,y.2)
def aL(i:Nat)(r:MA):MA:=fun en=>(en[i]?).join.bind fun _=>(r en).map fun y=>(.inr i::y.1,y.2)
def vals:List (D ⊕ Nat)->Option (List D)
 |[]=>some []
 |.inl t::r=>(vals r).map (t::·)
 |.inr _::_=>none
def eN(g:List D->Option D)(fa:MA):ME:=fun en=>(fa en).bind fun r=>(vals r.1).bind fun ts=>(g ts).map fun t=>(t,r.2)
def NewTo(H H':Hp)(F:AS):Prop:=(∀a o,H a=some o->H' a=some o)/\∀a,F a->H a=none/\∃o,H' a=some o
def NoA:AS:=fun _=>False
def iA{A:AS}:U NoA A=A:=gY fun a=>⟨fun z=>z.elim (fun z=>z.elim) id,.inr⟩
def rF1(K:zbS)(g:D->Option D)(d:Nat):V->Hp->VK->Prop:=fun x H Q=>∃(O:AS) (a t:D),Ow K O H a 0 x NoA/\(∀a,O a->∃o,H a=some o)/\g a=some t/\∀v H' F,NewTo H H' F->Ow K (U F O) H' t d v F->Q v H'
def rF2(K:zbS)(g:D->D->Option D)(d:Nat):R2:=fun x y H Q=>∃(O:AS) (a b t:D),Ow K O H a 0 x NoA/\Ow K O H b 0 y NoA/\(∀a,O a->∃o,H a=some o)/\g a b=some t/\∀v H' F,NewTo H H' F->Ow K (U F O) H' t d v F->Q v H'
def rFn(K:zbS)(g:List D->Option D)(d:Nat):List V->Hp->VK->Prop:=fun xs H Q=>∃(O:AS) (ts:List D) (t:D),Ows K O H ts 0 xs NoA/\(∀a,O a->∃o,H a=some o)/\g ts=some t/\∀v H' F,NewTo H H' F->Ow K (U F O) H' t d v F->Q v H'
section
variable{fa fb:ME}
def nX{F:AS}:U F (Own R Ox)=Own R (U F Ox):=gY fun a=>by
 unfold U Own;exact⟨fun z=>by rcases z with z|z|z;exact .inr (.inl z);exact .inl z;exact .inr (.inr z),fun z=>by rcases z with z|z|z;exact .inr (.inl z);exact .inl z;exact .inr (.inr z)⟩
def Post.fin{F:AS}(P:Post K p ds' Ox σ H en R en' H1 R' F0)(n:NewTo H1 H' F):Post K p ds' Ox σ H en R en' H' R' F:=by
 have e:=P.env.fewer (Ox':=Ox) fun a z=>.inr z;have n1:∀a,H1 a=none->H a=none:=fun a z=>by
  cases q:H a with
  |none=>rfl
  |some o=>
   obtain⟨o',q'⟩:=P.dom a o q;rw[z]at q';cases q'
 refine⟨e.grow n.1 n.2,fun a z z2=>?_,fun a o q nn=>n.1 a o (P.keep a o q nn),fun a z=>?_,fun a o q=>?_,fun hp=>?_⟩
 ·obtain⟨o,q⟩:=e.dom a (.inr z2);rw[(n.2 a z).1]at q;cases q
 ·rcases z with z|z
  ·exact .inr (n1 a (n.2 a z).1)
  ·exact P.own a (.inr z)
 ·obtain⟨o',q'⟩:=P.dom a o q;exact⟨o',n.1 a o' q'⟩
 ·obtain⟨a1,a2,a3⟩:=P.pure hp;exact⟨a1,a2,fun a o q=>n.1 a o (a3 a o q)⟩
def Post.less{F:AS}(P:Post K p ds' Ox σ H en R en' H' R' F)(h:∀a,F' a->F a):Post K p ds' Ox σ H en R en' H' R' F':=
 ⟨P.env.fewer fun a z=>z.imp (h a) id,fun a z=>P.fx a (h a z),P.keep,fun a z=>P.own a (z.imp (h a) id),P.dom,P.pure⟩
def Ow.letgo{F:AS}(P:Post K p ds' Ox σ H en R en' H' R' F0)(hf:∀a,F a->F0 a)(h:Ow K (Own R' (U F0 Ox)) H' t d v F):Ow K (Own R' Ox) H' t 0 v NoA:=by
 refine Ow.fz (fun a z=>z.imp id .inr) (fun a z z2=>?_) h;rcases z2 with⟨i,z2⟩|z2
 ·exact P.env.dx i a z2 (.inl (hf a z))
 ·exact P.fx a (hf a z) z2
def Post.doms(P:Post K p ds' Ox σ H en R en' H' R' F0):∀a,Own R' Ox a->∃o,H' a=some o:=fun a z=>P.env.dom a (z.imp id .inr)
def Mm(hd:ds[i]?=some 0)(h:tF K true ds ds 0 (ae i) σ H Q):kU i σ H Q:=by
 obtain⟨Ox,en,R,t,en',e,hf,k⟩:=h;unfold ae at hf;cases q:en[i]? with
 |none=>rw[q]at hf;cases hf
 |some o=>
  rw[q]at hf;cases o with
  |none=>cases hf
  |some t'=>
   cases hf;obtain⟨v,d,h1,h2,h3⟩:=e.at_ i t q;rw[hd]at h2;cases h2;exact⟨v,h1,k v H R NoA (Post.refl e) (by rw[iA];exact Ow.any0 t h3)⟩
def f_c(hv:∀K O H F,Ow K O H t 3 v F)(h:tF K true ds ds 3 (eC t) σ H Q):tC v σ H Q:=by
 obtain⟨Ox,en,R,t',en',e,hf,k⟩:=h;cases hf;exact k v H R NoA (Post.refl e) (hv _ _ _ _)
def Mo(hd:Le4 d' d)(h:tF K p ds ds' d' f σ H Q):tF K p ds ds' d f σ H Q:=by
 obtain⟨Ox,en,R,t,en',e,hf,k⟩:=h;refine⟨Ox,en,R,t,en',e,hf,fun v H' R' F P o=>?_⟩;obtain⟨F',s1,s2⟩:=Ow.cut t hd o;refine k v H' R' F' (P.less s1) (s2 _ (fun a z=>z.imp id fun z=>z.imp (s1 a) id) fun a z z2=>?_);rcases z2 with⟨i,z2⟩|z2|z2
 ·exact absurd (.inl z) (P.env.dx i a z2)
 ·exact z2
 ·exact absurd z2 (P.fx a z)
def jQ(hp:p'=true->p=true)(h:tF K p' ds ds' d f σ H Q):tF K p ds ds' d f σ H Q:=by
 obtain⟨Ox,en,R,t,en',e,hf,k⟩:=h;exact⟨Ox,en,R,t,en',e,hf,fun v H' R' F P o=>k v H' R' F ⟨P.env,P.fx,P.keep,P.own,P.dom,fun z=>P.pure (hp z)⟩ o⟩
theorem EnvOk.cut(e:EnvOk K ds Ox H σ en R)(hl:ds0.length=ds.length)(hd:∀(i:Nat) a b,ds0[i]?=some a->ds[i]?=some b->Le4 a b):∃R',(∀i a,R' i a->R i a)/\EnvOk K ds0 Ox H σ en R':=by
 have ch:∀i,∃F':AS,(∀b,F' b->R i b)/\∀t v d0,en[i]?=some (some t)->σ[i]?=some (some v)->ds0[i]?=some d0->∀O':AS,(∀a,O' a->Own R Ox a)->(∀a,R i a->O' a->F' a)->Ow K O' H t d0 v F':=fun i=>by
  by_cases h:∃t,en[i]?=some (some t)
  ·obtain⟨t,ht⟩:=h;obtain⟨v,d,h1,h2,h3⟩:=e.at_ i t ht;cases q:ds0[i]? with
   |none=>exact⟨NoA,fun _ z=>z.elim,fun _ _ _ _ _ z=>nomatch z⟩
   |some d0=>
    obtain⟨F',s1,s2⟩:=Ow.cut t (hd i d0 d q h2) h3;refine⟨F',s1,fun t' v' d0' h1' h2' h3' O'=>?_⟩;rw[ht]at h1';cases h1';rw[h1]at h2';cases h2';cases h3';exact s2 O'
  ·exact⟨NoA,fun _ z=>z.elim,fun t _ _ ht=>absurd ⟨t,ht⟩ h⟩
 refine⟨fun i=>(ch i).choose,fun i=>(ch i).choose_spec.1,fun i t ht=>?_,fun i j a z1 z2=>e.dj i j a ((ch i).choose_spec.1 a z1) ((ch j).choose_spec.1 a z2),fun i a z=>e.dx i a ((ch i).choose_spec.1 a z),fun a z=>e.dom a (z.imp (fun⟨i,z⟩=>⟨i,(ch i).choose_spec.1 a z⟩) id),e.l1,hl.trans e.l2⟩;obtain⟨v,d,h1,h2,h3⟩:=e.at_ i t ht;have hi:i<ds0.length:=by rw[hl];exact(zah.mp h2).1
 refine⟨v,ds0[i],h1,zak hi,(ch i).choose_spec.2 t v _ ht h1 (zak hi) _ (fun a z=>z.imp (fun⟨j,z⟩=>⟨j,(ch j).choose_spec.1 a z⟩) id) fun a z z2=>?_⟩;rcases z2 with⟨j,z2⟩|z2
 ·have:=e.dj i j a z ((ch j).choose_spec.1 a z2);subst this;exact z2
 ·exact absurd z2 (e.dx i a z)
def leD:List Nat->List Nat->Bool
 |[],[]=>true
 |a::r,b::s=>decide (Le4 a b)&&leD r s
 |_,_=>false
theorem eW:∀{a b:List Nat},leD a b=true->a.length=b.length/\∀(i:Nat) x y,a[i]?=some x->b[i]?=some y->Le4 x y
 |[],[],_=>⟨rfl,fun i x y h=>by simp at h⟩
 |a::r,b::s,h=>by
  unfold leD at h;rw[zbk]at h;obtain⟨h1,h2⟩:=h;obtain⟨h3,h4⟩:=eW h2;refine⟨by rw[zac,zac,h3],fun i x y e1 e2=>?_⟩;cases i with
  |zero=>cases e1;cases e2;exact of_decide_eq_true h1
  |succ i=>exact h4 i x y e1 e2
 |[],_::_,h=>nomatch h
 |_::_,[],h=>nomatch h
def M3(hd:leD ds0 ds=true)(h:tF K false ds ds' d f σ H Q):tF K p ds0 ds' d f σ H Q:=by
 obtain⟨Ox,en,R,t,en',e,hf,k⟩:=h;obtain⟨R1,s1,e1⟩:=e.cut (eW hd).1 (eW hd).2;refine⟨Ox,en,R1,t,en',e1,hf,fun v H' R' F P o=>k v H' R' F ⟨P.env,P.fx,fun a o q n=>P.keep a o q fun i z=>n i (s1 i a z),fun a z=>(P.own a z).imp (fun⟨i,z⟩=>⟨i,s1 i a z⟩) id,P.dom,fun z=>nomatch z⟩ o⟩
def EG(hd:leD ds0 ds=true)(h:tF K true ds ds 3 f σ H Q):tF K true ds0 ds0 3 f σ H Q:=by
 obtain⟨Ox,en,R,t,en',e,hf,k⟩:=h;obtain⟨R1,s1,e1⟩:=e.cut (eW hd).1 (eW hd).2;refine⟨Ox,en,R1,t,en',e1,hf,fun v H' R' F P o=>?_⟩;obtain⟨a1,a2,a3⟩:=P.pure rfl;subst a1 a2;have nf:∀a,F a->H a=none:=fun a z=>by
  rcases P.own a (.inl z)with⟨i,z2⟩|z2
  ·exact absurd (.inl z) (P.env.dx i a z2)
  ·exact z2
 have nt:NewTo H H' F:=⟨a3,fun a z=>⟨nf a z,P.env.dom a (.inr (.inl z))⟩⟩;exact k v H' R F (Post.new e nt.1 nt.2) (Ow.full t o)
def Mp{g:D->Option D}(h:tF K p ds ds1 d (e1 g f) σ H Q):tUn (rF1 K g d) (tF K p ds ds1 d1 f) σ H Q:=by
 obtain⟨Ox,en,R,t,en',e,hf,k⟩:=h;unfold e1 at hf;obtain⟨⟨t1,en1⟩,h1,hf⟩:=zaa.mp hf;obtain⟨t',h3,hf⟩:=zab.mp hf;cases hf;refine⟨Ox,en,R,t1,en1,e,h1,fun v H' R' F P o=>?_⟩;refine⟨Own R' Ox,t1,t,Ow.letgo P (fun _ z=>z) o,P.doms,h3,fun v2 H2 F2 n o2=>k v2 H2 R' F2 (P.fin n) (nX▸o2)⟩
def tw(h:tF K (p1&&p2) ds ds2 d (e2 g f1 f2) σ H Q):tOp (rF2 K g d) (tF K p1 ds ds1 d1 f1) (tF K p2 ds1 ds2 d2 f2) σ H Q:=by
 obtain⟨Ox,en,R,t,en',e,hf,k⟩:=h;unfold e2 at hf;obtain⟨⟨t1,en1⟩,h1,hf⟩:=zaa.mp hf;obtain⟨⟨t2,en2⟩,h2,hf⟩:=zaa.mp hf;obtain⟨t',h3,hf⟩:=zab.mp hf;cases hf;refine two e h1 h2 fun x y H2 R2 F1 F2 P o1 o2=>?_;exact⟨Own R2 Ox,t1,t2,t,Ow.letgo P (fun _=>.inl) o1,Ow.letgo P (fun _=>.inr) o2,P.doms,h3,fun v2 H3 F3 n o3=>k v2 H3 R2 F3 (P.fin n) (nX▸o3)⟩
def Post.after{R2:Nat->AS}{F:AS}(P1:Post K p1 ds1 Ox σ H en R en1 H1 R1 F1)(P2:Post K p2 ds2 Ox σ H1 en1 R1 en2 H' R2 F):Post K (p1&&p2) ds2 Ox σ H en R en2 H' R2 F:=by
 have P1':=P1.less (F':=NoA) fun _ z=>z.elim;have P2':Post K p2 ds2 (U NoA Ox) σ H1 en1 R1 en2 H' R2 F:=by rw[iA];exact P2
 have:=P1'.trans P2';rw[iA]at this;exact this
def Post.env0{F:AS}(P:Post K p ds' Ox σ H en R en' H' R' F):EnvOk K ds' Ox H' σ en' R':=P.env.fewer fun a z=>.inr z
def Mx(h:tF K (p1&&p2) ds ds1 d (iu f1 f2) σ H Q):Ec (tF K p1 ds ds1 d1 f1) (tF K p2 ds1 ds1 d f2) σ H Q:=by
 obtain⟨Ox,en,R,t,en',e,hf,k⟩:=h;unfold iu at hf;obtain⟨⟨t1,en1⟩,h1,hf⟩:=zaa.mp hf;refine⟨Ox,en,R,t1,en1,e,h1,fun v H1 R1 F1 P1 o1=>?_⟩;cases t1 with
 |bool b=>
  have ev:v=.bl b:=o1;refine⟨b,ev,?_⟩;cases b with
  |true=>
   rw[if_pos rfl];exact⟨Ox,en1,R1,t,en',P1.env0,hf,fun v2 H2 R2 F2 P2 o2=>k v2 H2 R2 F2 (P1.after P2) o2⟩
  |false=>
   cases hf;rw[if_neg zbl];refine k _ H1 R1 NoA ?_ rfl
   have:=(P1.less (F':=NoA) fun _ z=>z.elim);exact⟨this.env,this.fx,this.keep,this.own,this.dom,fun hp=>this.pure (by cases p1<;>simp_all)⟩
 |_=>cases hf
def M2(h:tF K (p1&&p2) ds ds1 d (eOr f1 f2) σ H Q):IV (tF K p1 ds ds1 d1 f1) (tF K p2 ds1 ds1 d f2) σ H Q:=by
 obtain⟨Ox,en,R,t,en',e,hf,k⟩:=h;unfold eOr at hf;obtain⟨⟨t1,en1⟩,h1,hf⟩:=zaa.mp hf;refine⟨Ox,en,R,t1,en1,e,h1,fun v H1 R1 F1 P1 o1=>?_⟩;cases t1 with
 |bool b=>
  have ev:v=.bl b:=o1;refine⟨b,ev,?_⟩;cases b with
  |false=>
   rw[if_neg zbl];exact⟨Ox,en1,R1,t,en',P1.env0,hf,fun v2 H2 R2 F2 P2 o2=>k v2 H2 R2 F2 (P1.after P2) o2⟩
  |true=>
   cases hf;rw[if_pos rfl];refine k _ H1 R1 NoA ?_ rfl
   have:=(P1.less (F':=NoA) fun _ z=>z.elim);exact⟨this.env,this.fx,this.keep,this.own,this.dom,fun hp=>this.pure (by cases p1<;>simp_all)⟩
 |_=>cases hf
def Mq(h:tF K p ds ds1 3 (pk f) σ H Q):D7 (tF K p ds ds1 d1 f) σ H Q:=by
 obtain⟨Ox,en,R,t,en',e,hf,k⟩:=h;unfold pk at hf;obtain⟨⟨t1,en1⟩,h1,hf⟩:=zaa.mp hf;refine⟨Ox,en,R,t1,en1,e,h1,fun v H1 R1 F1 P1 o1=>?_⟩;cases t1 with
 |bool b=>
  cases hf;exact⟨b,o1,k _ H1 R1 NoA (P1.less fun _ z=>z.elim) rfl⟩
 |_=>cases hf
def tFT(K:zbS)(p:Bool)(ds ds':List Nat)(f:MT):TT:=fun σ H Q=>
 ∃Ox en R b en',EnvOk K ds Ox H σ en R/\f en=some (b,en')/\∀H' R',Post K p ds' Ox σ H en R en' H' R' NoA->Q b H'
variable{c:MT}{QT:Bool->Hp->Prop}
def uN(h:tFT K p ds ds' (tV f) σ H QT):tB (tF K p ds ds' d f) σ H QT:=by
 obtain⟨Ox,en,R,b,en',e,hf,k⟩:=h;unfold tV at hf;obtain⟨⟨t1,en1⟩,h1,hf⟩:=zaa.mp hf;refine⟨Ox,en,R,t1,en1,e,h1,fun v H1 R1 F1 P1 o1=>?_⟩;cases t1 with
 |bool b=>
  cases hf;exact⟨_,o1,k H1 R1 (P1.less fun _ z=>z.elim)⟩
 |_=>cases hf
def Ku(h:tFT K (p1&&p2) ds ds1 (iz c1 c2) σ H QT):Jc (tFT K p1 ds ds1 c1) (tFT K p2 ds1 ds1 c2) σ H QT:=by
 obtain⟨Ox,en,R,b,en',e,hf,k⟩:=h;unfold iz at hf;obtain⟨⟨b1,en1⟩,h1,hf⟩:=zaa.mp hf;refine⟨Ox,en,R,b1,en1,e,h1,fun H1 R1 P1=>?_⟩;cases b1 with
 |true=>
  rw[if_pos rfl];exact⟨Ox,en1,R1,b,en',P1.env0,hf,fun H2 R2 P2=>k H2 R2 (P1.after P2)⟩
 |false=>
  cases hf;rw[if_neg zbl];exact k H1 R1 ⟨P1.env,P1.fx,P1.keep,P1.own,P1.dom,fun hp=>P1.pure (by cases p1<;>simp_all)⟩
def L9(h:tFT K (p1&&p2) ds ds1 (bOr c1 c2) σ H QT):tOr (tFT K p1 ds ds1 c1) (tFT K p2 ds1 ds1 c2) σ H QT:=by
 obtain⟨Ox,en,R,b,en',e,hf,k⟩:=h;unfold bOr at hf;obtain⟨⟨b1,en1⟩,h1,hf⟩:=zaa.mp hf;refine⟨Ox,en,R,b1,en1,e,h1,fun H1 R1 P1=>?_⟩;cases b1 with
 |false=>
  rw[if_neg zbl];exact⟨Ox,en1,R1,b,en',P1.env0,hf,fun H2 R2 P2=>k H2 R2 (P1.after P2)⟩
 |true=>
  cases hf;rw[if_pos rfl];exact k H1 R1 ⟨P1.env,P1.fx,P1.keep,P1.own,P1.dom,fun hp=>P1.pure (by cases p1<;>simp_all)⟩
def Ks(h:tFT K p ds ds1 (bE c) σ H QT):IW (tFT K p ds ds1 c) σ H QT:=by
 obtain⟨Ox,en,R,b,en',e,hf,k⟩:=h;unfold bE at hf;obtain⟨⟨b1,en1⟩,h1,hf⟩:=zab.mp hf;cases hf;exact⟨Ox,en,R,b1,_,e,h1,fun H1 R1 P1=>k H1 R1 P1⟩
def Kt(hd:leD ds0 ds=true)(h:tFT K true ds ds c σ H QT):tFT K true ds0 ds0 c σ H QT:=by
 obtain⟨Ox,en,R,t,en',e,hf,k⟩:=h;obtain⟨R1,s1,e1⟩:=e.cut (eW hd).1 (eW hd).2;refine⟨Ox,en,R1,t,en',e1,hf,fun H' R' P=>?_⟩;obtain⟨a1,a2,a3⟩:=P.pure rfl;subst a1 a2;exact k H' R (Post.new e a3 fun _ z=>z.elim)
end
abbrev Sh:=List (Nat ⊕ Nat)
variable{sh:Sh}
def OwA(K:zbS)(O:AS)(H:Hp)(σ:St):List (D ⊕ Nat)->Sh->List V->AS->Prop
 |[],ds,vs,_=>ds=[]/\vs=[]
 |.inl t::as,ds,vs,F=>∃v r d dr,∃F1 F2:AS,vs=v::r/\ds=.inl d::dr/\(∀b,F1 b->F b)/\(∀b,F2 b->F b)/\(∀b,F1 b->¬F2 b)/\Ow K O H t d v F1/\OwA K O H σ as dr r F2
 |.inr i::as,ds,vs,F=>∃v r dr,vs=v::r/\ds=.inr i::dr/\σ[i]?=some (some v)/\OwA K O H σ as dr r F
def tFA(K:zbS)(p:Bool)(ds ds':List Nat)(sh:Sh)(f:MA):TA:=fun σ H Q=>
 ∃Ox en R as en',EnvOk K ds Ox H σ en R/\f en=some (as,en')/\∀vs H' R' F,Post K p ds' Ox σ H en R en' H' R' F->OwA K (Own R' (U F Ox)) H' σ as sh vs F->Q vs H'
def aZ(fa:MA):ME:=fun en=>(fa en).bind fun r=>(vals r.1).bind fun ts=>if ts.length<=sizeLine then some (.list ts,r.2)else none
def gO(fa:MA):ME:=fun en=>(fa en).bind fun r=>(vals r.1).bind fun ts=>if ts.length<=sizeLine then some (.tuple ts,r.2)else none
section
variable{QA:List V->Hp->Prop} 
def Le(h:tFA K true ds ds [] af σ H QA):oQ σ H QA:=by
 obtain⟨Ox,en,R,as,en',e,hf,k⟩:=h;cases hf;exact k [] H R NoA (Post.refl e) ⟨rfl,rfl⟩
def GG(h:tFA K (p1&&p2) ds ds2 (.inl d::sh) (ac f fa) σ H QA):iL (tF K p1 ds ds1 d f) (tFA K p2 ds1 ds2 sh fa) σ H QA:=by
 obtain⟨Ox,en,R,as,en',e,hf,k⟩:=h;unfold ac at hf;obtain⟨⟨t1,en1⟩,h1,hf⟩:=zaa.mp hf;obtain⟨⟨as2,en2⟩,h2,hf⟩:=zab.mp hf;cases hf;refine⟨Ox,en,R,t1,en1,e,h1,fun x H1 R1 F1 P1 o1=>?_⟩;refine⟨U F1 Ox,en1,R1,as2,en2,P1.env,h2,fun vs H2 R2 F2 P2 o2=>?_⟩;refine k (x::vs) H2 R2 (U F1 F2) (P1.trans P2) ⟨x,vs,d,sh,F1,F2,rfl,rfl,fun _=>.inl,fun _=>.inr,fun b z1 z2=>P2.fx b z2 (.inl z1),Ow.over P1.env P2 o1,?_⟩;rw[<-mZ];exact o2
def GE(h:tFA K p ds ds2 (.inr i::sh) (aL i fa) σ H QA):iL (kU i) (tFA K p ds ds2 sh fa) σ H QA:=by
 obtain⟨Ox,en,R,as,en',e,hf,k⟩:=h;unfold aL at hf;obtain⟨t0,h0,hf⟩:=zaa.mp hf;obtain⟨⟨as2,en2⟩,h2,hf⟩:=zab.mp hf;cases hf;have q:en[i]?=some (some t0):=by
  cases q:en[i]? with
  |none=>rw[q]at h0;cases h0
  |some o=>rw[q]at h0;exact congrArg some h0
 obtain⟨v,d,h1,_⟩:=e.at_ i t0 q;exact⟨v,h1,Ox,en,R,as2,en2,e,h2,fun vs H2 R2 F2 P2 o2=>k (v::vs) H2 R2 F2 P2 ⟨v,vs,sh,rfl,rfl,h1,o2⟩⟩
def b9(c:Nat):Sh->Bool
 |[]=>true
 |.inl d::r=>decide (Le4 c d)&&b9 c r
 |.inr _::_=>false
theorem OwA.ows:∀{as:List (D ⊕ Nat)} {sh:Sh} {vs:List V} {F:AS} {ts:List D} {c:Nat},b9 c sh=true->vals as=some ts->OwA K O H σ as sh vs F ->
  ∃F':AS,(∀b,F' b->F b)/\∀O':AS,(∀a,O' a->O a)->(∀a,F a->O' a->F' a)->Ows K O' H ts c vs F'
 |[],_,_,F,ts,c,_,hv,h=>by
  cases hv;exact⟨F,fun _ z=>z,fun _ _ _=>h.2⟩
 |.inl t::as,_,_,F,ts,c,hs,hv,h=>by
  obtain⟨v,r,d,dr,F1,F2,e1,e2,s1,s2,s3,h1,h2⟩:=h;subst e1 e2;unfold vals at hv;obtain⟨ts',hv',e⟩:=zab.mp hv;subst e;unfold b9 at hs;rw[zbk]at hs;obtain⟨G1,a1,a2⟩:=Ow.cut t (of_decide_eq_true hs.1) h1;obtain⟨G2,b1,b2⟩:=OwA.ows hs.2 hv' h2;refine⟨fun b=>G1 b\/G2 b,fun b hb=>hb.elim (fun z=>s1 _ (a1 _ z)) fun z=>s2 _ (b1 _ z),fun O' ho hx=>⟨v,r,G1,G2,rfl,fun b=>.inl,fun b=>.inr,fun b z1 z2=>s3 b (a1 b z1) (b1 b z2),a2 O' ho fun b hb hz=>?_,b2 O' ho fun b hb hz=>?_⟩⟩
  ·exact(hx b (s1 b hb) hz).elim id fun z=>absurd (b1 b z) (s3 b hb)
  ·exact(hx b (s2 b hb) hz).elim (fun z=>absurd hb (s3 b (a1 b z))) id
 |.inr i::as,_,_,F,ts,c,_,hv,_=>by cases hv
theorem OwA.len:∀{as:List (D ⊕ Nat)} {sh:Sh} {vs:List V} {F:AS},OwA K O H σ as sh vs F->vs.length=as.length
 |[],_,_,_,h=>by rw[h.2];rfl
 |.inl t::as,_,_,_,h=>by
  obtain⟨v,r,d,dr,F1,F2,e1,e2,s1,s2,s3,h1,h2⟩:=h;rw[e1,zac,zac,h2.len]
 |.inr i::as,_,_,_,h=>by
  obtain⟨v,r,dr,e1,e2,e3,h2⟩:=h;rw[e1,zac,zac,h2.len]
theorem oN:∀{as:List (D ⊕ Nat)} {ts:List D},vals as=some ts->ts.length=as.length
 |[],_,h=>by cases h;rfl
 |.inl t::as,_,h=>by
  unfold vals at h;obtain⟨ts',hv',e⟩:=zab.mp h;subst e;rw[zac,zac,oN hv']
 |.inr _::_,_,h=>by cases h
def zQ{g:List D->Option D}(hs:b9 0 sh=true)(h:tF K p ds ds1 d (eN g fa) σ H Q):tCB (rFn K g d) (tFA K p ds ds1 sh fa) σ H Q:=by
 obtain⟨Ox,en,R,t,en',e,hf,k⟩:=h;unfold eN at hf;obtain⟨⟨as,en1⟩,h1,hf⟩:=zaa.mp hf;obtain⟨ts,h2,hf⟩:=zaa.mp hf;obtain⟨t',h3,hf⟩:=zab.mp hf;cases hf;refine⟨Ox,en,R,as,en1,e,h1,fun vs H1 R1 F P o=>?_⟩;obtain⟨F',s1,s2⟩:=OwA.ows hs h2 o;have o2:Ows K (Own R1 Ox) H1 ts 0 vs F':=s2 _ (fun a z=>z.imp id .inr) fun a z z2=>by
  rcases z2 with⟨i,z2⟩|z2
  ·exact absurd (.inl z) (P.env.dx i a z2)
  ·exact absurd z2 (P.fx a z)
 exact⟨Own R1 Ox,ts,t,Ows.any0 ts o2,P.doms,h3,fun v2 H2 F2 n o2=>k v2 H2 R1 F2 (P.fin n) (nX▸o2)⟩
def Post.add{F:AS}(P:Post K p ds' Ox σ H en R en' H1 R' F)(n:NewTo H1 H' G):Post K p ds' Ox σ H en R en' H' R' (U F G):=by
 have P2:Post K true ds' (U F Ox) σ H1 en' R' en' H' R' G:=Post.new P.env n.1 n.2
 have:=P.trans P2;rw[zbQ]at this;exact this
def bu(hl:H l=none):NewTo H (upd H l o) (fun b=>b=l):=by
 refine⟨fun a u q=>?_,fun a z=>?_⟩
 ·rw[aG]
  ·exact q
  ·intro z;subst z;rw[hl]at q;cases q
 ·subst z;exact⟨hl,_,aC⟩
def Mr(hs:b9 c sh=true)(hd:dn d=c)(hz:d≠0)(h:tF K p ds ds1 d (aZ fa) σ H Q):IX (tFA K p ds ds1 sh fa) σ H Q:=by
 obtain⟨Ox,en,R,t,en',e,hf,k⟩:=h;unfold aZ at hf;obtain⟨⟨as,en1⟩,h1,hf⟩:=zaa.mp hf;obtain⟨ts,h2,hf⟩:=zaa.mp hf;by_cases ξ:ts.length<=sizeLine
 case neg=>rw[if_neg ξ]at hf;cases hf
 rw[if_pos ξ]at hf;cases hf;refine⟨Ox,en,R,as,en1,e,h1,fun vs H1 R1 F P o=>⟨?_,fun l hl=>?_⟩⟩
 ·rw[o.len,<-oN h2];exact ξ
 obtain⟨F',s1,s2⟩:=OwA.ows hs h2 o;have o2:=s2 (Own R1 (U F' Ox)) (fun a z=>z.imp id fun z=>z.imp (s1 a) id) fun a z z2=>by
  rcases z2 with⟨i,z2⟩|z2|z2
  ·exact absurd (.inl z) (P.env.dx i a z2)
  ·exact z2
  ·exact absurd z2 (P.fx a z)
 have P':=(P.less s1).add (bu (o:=.lst vs) hl);have nl:∀a,F' a->a≠l:=fun a z z2=>by
  subst z2;obtain⟨o',q⟩:=P.env.dom a (.inr (.inl (s1 a z)));rw[hl]at q;cases q
 refine k (.ref l) (upd H1 l (.lst vs)) R1 _ P' ⟨l,vs,rfl,.inr ⟨hz,aC,.inr rfl,F',fun b z=>⟨.inl z,nl b z⟩,?_⟩⟩;rw[hd];refine Ows.mv (G:=F') ⟨fun a o q _=>(bu (o:=.lst vs) hl).1 a o q,fun a z=>?_⟩ ts (fun _ z=>z) o2;rcases z with z | (z|z)|z
 ·exact .inl (.inl z)
 ·exact .inl (.inr (.inl z))
 ·exact .inr (by rw[show a=l from z];exact hl)
 ·exact .inl (.inr (.inr z))
def Mn(hs:b9 c sh=true)(hd:dn d=c)(h:tF K p ds ds1 d (gO fa) σ H Q):IR (tFA K p ds ds1 sh fa) σ H Q:=by
 obtain⟨Ox,en,R,t,en',e,hf,k⟩:=h;unfold gO at hf;obtain⟨⟨as,en1⟩,h1,hf⟩:=zaa.mp hf;obtain⟨ts,h2,hf⟩:=zaa.mp hf;by_cases ξ:ts.length<=sizeLine
 case neg=>rw[if_neg ξ]at hf;cases hf
 rw[if_pos ξ]at hf;cases hf;refine⟨Ox,en,R,as,en1,e,h1,fun vs H1 R1 F P o=>⟨?_,fun l hl=>?_⟩⟩
 ·rw[o.len,<-oN h2];exact ξ
 obtain⟨F',s1,s2⟩:=OwA.ows hs h2 o;have o2:=s2 (Own R1 (U F' Ox)) (fun a z=>z.imp id fun z=>z.imp (s1 a) id) fun a z z2=>by
  rcases z2 with⟨i,z2⟩|z2|z2
  ·exact absurd (.inl z) (P.env.dx i a z2)
  ·exact z2
  ·exact absurd z2 (P.fx a z)
 have nl:∀a,Own R1 (U F' Ox) a->a≠l:=fun a z z2=>by
  subst z2;obtain⟨o',q⟩:=P.env.dom a (z.imp id fun z=>z.imp (s1 a) id);rw[hl]at q;cases q
 by_cases hz:d=0
 ·subst hz;have P':=(P.less s1).add (G:=NoA) (H':=upd H1 l (.tup vs)) ⟨(bu (o:=.tup vs) hl).1,fun _ z=>z.elim⟩;have eq:U F' NoA=F':=gY fun a=>⟨fun z=>z.elim id fun z=>z.elim,.inl⟩;rw[eq]at P';refine k (.ref l) (upd H1 l (.tup vs)) R1 _ P' ⟨l,vs,rfl,.inl ⟨rfl,⟨aC,fun z=>nl l z rfl⟩,?_⟩⟩;have hc:c=0:=hd.symm;subst hc;exact Ows.mv (G:=F') ⟨fun a o q _=>(bu (o:=.tup vs) hl).1 a o q,fun a z=>.inl z⟩ ts (fun _ z=>z) o2
 ·have P':=(P.less s1).add (bu (o:=.tup vs) hl);refine k (.ref l) (upd H1 l (.tup vs)) R1 _ P' ⟨l,vs,rfl,.inr ⟨hz,aC,.inr rfl,F',fun b z=>⟨.inl z,nl b (.inr (.inl z))⟩,?_⟩⟩;rw[hd];refine Ows.mv (G:=F') ⟨fun a o q _=>(bu (o:=.tup vs) hl).1 a o q,fun a z=>?_⟩ ts (fun _ z=>z) o2;rcases z with z | (z|z)|z
  ·exact .inl (.inl z)
  ·exact .inl (.inr (.inl z))
  ·exact .inr (by rw[show a=l from z];exact hl)
  ·exact .inl (.inr (.inr z))
end
def spF(K:zbS)(dps:List Nat)(dr:Nat)(F:List D->Option (D×En)):Sp:=fun vs H Q _=>
 ∃Ox ts R r ψ,EnvOk K dps Ox H (vs.map some) (ts.map some) R/\F ts=some (r,ψ) /\
  ∀v H' R' Fr,Post K false dps Ox (vs.map some) H (ts.map some) R ψ H' R' Fr->Ow K (Own R' (U Fr Ox)) H' r dr v Fr->Q v H'
def eo:List (D ⊕ Nat)->En->Option (List D)
 |[],_=>some []
 |.inl t::r,en=>(eo r en).map (t::·)
 |.inr i::r,en=>(en[i]?).join.bind fun t=>(eo r en).map (t::·)
def wb:List (D ⊕ Nat)->En->En->En
 |.inr i::r,o::ψ,en=>wb r ψ (en.set i o)
 |.inl _::r,_::ψ,en=>wb r ψ en
 |_,_,en=>en
def aq(F:List D->Option (D×En))(fa:MA):ME:=fun en=>(fa en).bind fun r=>(eo r.1 r.2).bind fun ts=>(F ts).map fun q=>(q.1,wb r.1 q.2 r.2)
def kr:Sh->List Nat
 |[]=>[]
 |.inl _::r=>kr r
 |.inr i::r=>i::kr r
def cO(ds:List Nat):Sh->List Nat->Bool
 |[],[]=>true
 |.inl d::r,q::s=>decide (d=q)&&cO ds r s
 |.inr i::r,q::s=>decide (ds[i]?=some q)&&(decide (i∉kr r)&&cO ds r s)
 |_,_=>false
def gl:Sh->Bool
 |[]=>true
 |.inl _::r=>gl r
 |.inr _::_=>false
section
variable{QA:List V->Hp->Prop} 
theorem OwA.parts:∀{as:List (D ⊕ Nat)} {sh:Sh} {vs:List V} {F:AS},OwA K O H σ as sh vs F ->
  ∃Rp:Nat->AS,(∀(j:Nat) t,as[j]?=some (.inl t)->∃v d,vs[j]?=some v/\sh[j]?=some (.inl d)/\Ow K O H t d v (Rp j))/\(∀(j i:Nat),as[j]?=some (.inr i)->∃v,vs[j]?=some v/\sh[j]?=some (.inr i)/\σ[i]?=some (some v)) /\
   (∀j a,Rp j a->F a)/\(∀j j' a,Rp j a->Rp j' a->j=j')
 |[],sh,vs,F,h=>⟨fun _=>NoA,fun j t z=>by simp at z,fun j i z=>by simp at z,fun _ _ z=>z.elim,fun _ _ _ z=>z.elim⟩
 |.inl t::as,sh,vs,F,h=>by
  obtain⟨v,r,d,dr,F1,F2,e1,e2,s1,s2,s3,h1,h2⟩:=h;subst e1 e2;obtain⟨Rp,a1,a2,a3,a4⟩:=h2.parts;refine⟨fun j=>match j with|0=>F1|j+1=>Rp j,fun j u hj=>?_,fun j i hj=>?_,fun j a z=>?_,fun j j' a z z'=>?_⟩
  ·cases j with
   |zero=>
    have:t=u:=by simpa using hj
    subst this;exact⟨v,d,rfl,rfl,h1⟩
   |succ j=>exact a1 j u (by simpa using hj)
  ·cases j with
   |zero=>simp at hj
   |succ j=>exact a2 j i (by simpa using hj)
  ·cases j with
   |zero=>exact s1 a z
   |succ j=>exact s2 a (a3 j a z)
  ·cases j with
   |zero=>
    cases j' with
    |zero=>rfl
    |succ j'=>exact absurd (a3 j' a z') (s3 a z)
   |succ j=>
    cases j' with
    |zero=>exact absurd (a3 j a z) (s3 a z')
    |succ j'=>rw[a4 j j' a z z']
 |.inr i::as,sh,vs,F,h=>by
  obtain⟨v,r,dr,e1,e2,e3,h2⟩:=h;subst e1 e2;obtain⟨Rp,a1,a2,a3,a4⟩:=h2.parts;refine⟨fun j=>match j with|0=>NoA|j+1=>Rp j,fun j u hj=>?_,fun j i' hj=>?_,fun j a z=>?_,fun j j' a z z'=>?_⟩
  ·cases j with
   |zero=>simp at hj
   |succ j=>exact a1 j u (by simpa using hj)
  ·cases j with
   |zero=>
    have:i=i':=by simpa using hj
    subst this;exact⟨v,rfl,rfl,e3⟩
   |succ j=>exact a2 j i' (by simpa using hj)
  ·cases j with
   |zero=>exact z.elim
   |succ j=>exact a3 j a z
  ·cases j with
   |zero=>exact z.elim
   |succ j=>
    cases j' with
    |zero=>exact z'.elim
    |succ j'=>rw[a4 j j' a z z']
theorem pq:∀{as:List (D ⊕ Nat)} {en:En} {ts:List D},eo as en=some ts->ts.length=as.length/\∀(j:Nat) t,ts[j]?=some t->as[j]?=some (.inl t)\/∃i,as[j]?=some (.inr i)/\en[i]?=some (some t)
 |[],_,_,h=>by cases h;exact⟨rfl,fun j t z=>by simp at z⟩
 |.inl t::as,en,_,h=>by
  unfold eo at h;obtain⟨ts',h',e⟩:=zab.mp h;subst e;obtain⟨l,g⟩:=pq h';refine⟨by rw[zac,zac,l],fun j u z=>?_⟩;cases j with
  |zero=>simp at z;subst z;exact .inl rfl
  |succ j=>exact g j u (by simpa using z)
 |.inr i::as,en,_,h=>by
  unfold eo at h;obtain⟨t,ht,h⟩:=zaa.mp h;obtain⟨ts',h',e⟩:=zab.mp h;subst e;obtain⟨l,g⟩:=pq h';refine⟨by rw[zac,zac,l],fun j u z=>?_⟩;cases j with
  |zero=>
   simp at z;subst z;refine .inr ⟨i,rfl,?_⟩;cases q:en[i]? with
   |none=>rw[q]at ht;cases ht
   |some o=>rw[q]at ht;exact congrArg some ht
  |succ j=>exact g j u (by simpa using z)
theorem mW:∀{sh:Sh} {dps:List Nat},cO ds sh dps=true->sh.length=dps.length/\(∀(j d:Nat),sh[j]?=some (.inl d)->dps[j]?=some d)/\(∀(j i:Nat),sh[j]?=some (.inr i)->∃q,dps[j]?=some q/\ds[i]?=some q) /\
   (∀(j j' i:Nat),sh[j]?=some (.inr i)->sh[j']?=some (.inr i)->j=j')
 |[],[],_=>⟨rfl,fun j d z=>by simp at z,fun j d z=>by simp at z,fun j j' d z=>by simp at z⟩
 |.inl d::r,q::s,h=>by
  unfold cO at h;rw[zbk]at h;obtain⟨h1,h2⟩:=h;have h1':=of_decide_eq_true h1;subst h1';obtain⟨l,a,b,c⟩:=mW h2;refine⟨by rw[zac,zac,l],fun j u z=>?_,fun j i z=>?_,fun j j' i z z'=>?_⟩
  ·cases j with
   |zero=>simp at z;subst z;rfl
   |succ j=>exact a j u (by simpa using z)
  ·cases j with
   |zero=>simp at z
   |succ j=>exact b j i (by simpa using z)
  ·cases j with
   |zero=>simp at z
   |succ j=>
    cases j' with
    |zero=>simp at z'
    |succ j'=>rw[c j j' i (by simpa using z) (by simpa using z')]
 |.inr i0::r,q::s,h=>by
  unfold cO at h;rw[zbk,zbk]at h;obtain⟨h1,h2,h3⟩:=h;have h1':=of_decide_eq_true h1;have h2':=of_decide_eq_true h2;obtain⟨l,a,b,c⟩:=mW h3;have mem:∀{r:Sh} {j i:Nat},r[j]?=some (.inr i)->i∈kr r:=fun {r}=>by
   induction r with
   |nil=>intro j i z;simp at z
   |cons x r ih=>
    intro j i z;cases j with
    |zero=>
     simp at z;subst z;unfold kr;exact zaq
    |succ j=>
     have:=ih (j:=j) (i:=i) (by simpa using z);cases x with
     |inl _=>exact this
     |inr _=>exact zaj _ this
  refine⟨by rw[zac,zac,l],fun j u z=>?_,fun j i z=>?_,fun j j' i z z'=>?_⟩
  ·cases j with
   |zero=>simp at z
   |succ j=>exact a j u (by simpa using z)
  ·cases j with
   |zero=>simp at z;subst z;exact⟨q,rfl,h1'⟩
   |succ j=>exact b j i (by simpa using z)
  ·cases j with
   |zero=>
    simp at z;subst z;cases j' with
    |zero=>rfl
    |succ j'=>exact absurd (mem (by simpa using z')) h2'
   |succ j=>
    cases j' with
    |zero=>
     simp at z';subst z';exact absurd (mem (by simpa using z)) h2'
    |succ j'=>rw[c j j' i (by simpa using z) (by simpa using z')]
 |[],_::_,h=>nomatch h
 |.inl _::_,[],h=>nomatch h
 |.inr _::_,[],h=>nomatch h
theorem tH:∀(as:List (D ⊕ Nat)) (ψ en:En),(wb as ψ en).length=en.length
 |[],_,_=>by unfold wb;rfl
 |.inl _::as,[],_=>by unfold wb;rfl
 |.inr _::as,[],_=>by unfold wb;rfl
 |.inl _::as,o::ψ,en=>by unfold wb;exact tH as ψ en
 |.inr i::as,o::ψ,en=>by unfold wb;rw[tH as ψ _,zaV]
theorem kq:∀(as:List (D ⊕ Nat)) (ψ en:En) (i:Nat),(∀j:Nat,as[j]?≠some (.inr i))->(wb as ψ en)[i]?=en[i]?
 |[],_,_,_,_=>by unfold wb;rfl
 |.inl _::as,[],_,_,_=>by unfold wb;rfl
 |.inr _::as,[],_,_,_=>by unfold wb;rfl
 |.inl _::as,o::ψ,en,i,h=>by unfold wb;exact kq as ψ en i fun j=>h (j+1)
 |.inr k::as,o::ψ,en,i,h=>by
  unfold wb;rw[kq as ψ _ i fun j=>h (j+1),zaO];intro e;subst e;exact h 0 rfl
theorem wI:∀(as:List (D ⊕ Nat)) (ψ en:En) (i j:Nat),as[j]?=some (.inr i)->(∀j':Nat,as[j']?=some (.inr i)->j'=j)->ψ.length=as.length->i<en.length->(wb as ψ en)[i]?=ψ[j]?
 |[],_,_,_,_,h,_,_,_=>by simp at h
 |.inl _::as,[],_,_,_,_,_,h,_=>by simp at h
 |.inr _::as,[],_,_,_,_,_,h,_=>by simp at h
 |.inl _::as,o::ψ,en,i,j,h,u,l,b=>by
  unfold wb;cases j with
  |zero=>simp at h
  |succ j=>exact wI as ψ en i j (by simpa using h) (fun j' z=>by have:=u (j'+1) (by simpa using z);omega) (by simpa using l) b
 |.inr k::as,o::ψ,en,i,j,h,u,l,b=>by
  unfold wb;cases j with
  |zero=>
   have e:k=i:=by simpa using h
   subst e;rw[kq as ψ _ k fun j' z=>by have:=u (j'+1) (by simpa using z);omega];rw[zaP b];rfl
  |succ j=>exact wI as ψ _ i j (by simpa using h) (fun j' z=>by have:=u (j'+1) (by simpa using z);omega) (by simpa using l) (by rw[zaV];exact b)
theorem OwA.shl:∀{as:List (D ⊕ Nat)} {sh:Sh} {vs:List V} {F:AS},OwA K O H σ as sh vs F->sh.length=as.length
 |[],_,_,_,h=>by rw[h.1];rfl
 |.inl t::as,_,_,_,h=>by
  obtain⟨v,r,d,dr,F1,F2,e1,e2,s1,s2,s3,h1,h2⟩:=h;rw[e2,zac,zac,h2.shl]
 |.inr i::as,_,_,_,h=>by
  obtain⟨v,r,dr,e1,e2,e3,h2⟩:=h;rw[e2,zac,zac,h2.shl]
theorem pW:∀{sh:Sh},gl sh=true->∀(j i:Nat),sh[j]?≠some (.inr i)
 |[],_,j,i,z=>by simp at z
 |.inl _::r,h,j,i,z=>by
  cases j with
  |zero=>simp at z
  |succ j=>exact pW (sh:=r) h j i (by simpa using z)
 |.inr _::r,h,_,_,_=>nomatch h
def Mu{E:XK}{F:List D->Option (D×En)}(hc:cO ds1 sh dps=true)(h:∃Ox en R t en',EnvOk K ds Ox H σ en R/\aq F fa en=some (t,en')/\∀v H' R' F,Post K (p&&gl sh) ds1 Ox σ H en R en' H' R' F->(p=true->∀i0:Nat,(∀j:Nat,sh[j]?≠some (.inr i0))->(∀a o,H a=some o->R i0 a->H' a=some o)/\en'[i0]?=en[i0]?)->Ow K (Own R' (U F Ox)) H' t dr v F->Q v H'):sS (spF K dps dr F) [] E (tFA K p ds ds1 sh fa) σ H Q:=by
 obtain⟨Ox,en,R,t,en',e,hf,k⟩:=h;unfold aq at hf;obtain⟨⟨as,en1⟩,h1,hf⟩:=zaa.mp hf;obtain⟨ts,h2,hf⟩:=zaa.mp hf;obtain⟨⟨r,ψ⟩,h3,hf⟩:=zab.mp hf;cases hf;refine⟨Ox,en,R,as,en1,e,h1,fun vs H1 R1 F0 P o=>?_⟩;obtain⟨cl,c1,c2,c3⟩:=mW hc;obtain⟨Rp,a1,a2,a3,a4⟩:=o.parts;obtain⟨tl,tg⟩:=pq h2;have ol:=o.len;have asl:∀(j i:Nat),as[j]?=some (.inr i)->sh[j]?=some (.inr i):=fun j i z=>(a2 j i z).choose_spec.2.1;have asr:∀(j i:Nat),sh[j]?=some (.inr i)->as[j]?=some (.inr i):=fun j i z=>by
  cases q:as[j]? with
  |none=>
   have e1:as.length<=j:=List.getElem?_eq_none_iff.mp q;have e2:j<sh.length:=(zah.mp z).1
   have:=o.shl;omega
  |some x=>
   cases x with
   |inl t=>
    obtain⟨_,_,_,e2,_⟩:=a1 j t q;rw[z]at e2;cases e2
   |inr i'=>
    have:=asl j i' q;rw[z]at this;cases this;rfl
 let Rq:Nat->AS:=fun j=>match sh[j]? with|some (.inr i)=>R1 i|_=>Rp j
 have rq1:∀j i:Nat,sh[j]?=some (.inr i)->Rq j=R1 i:=fun j i z=>by show(match sh[j]? with|some (.inr i)=>R1 i|_=>Rp j)=R1 i;rw[z]
 have rq2:∀j:Nat,(∀i:Nat,sh[j]?≠some (.inr i))->Rq j=Rp j:=fun j z=>by
  show(match sh[j]? with|some (.inr i)=>R1 i|_=>Rp j)=Rp j;split
  ·next i q=>exact absurd q (z i)
  ·rfl
 have rqc:∀(j:Nat) a,Rq j a->(∃i,sh[j]?=some (.inr i)/\R1 i a)\/Rp j a:=fun j a z=>by
  by_cases q:∃i,sh[j]?=some (.inr i)
  ·obtain⟨i,q⟩:=q;rw[rq1 j i q]at z;exact .inl ⟨i,q,z⟩
  ·rw[rq2 j fun i z=>q ⟨i,z⟩]at z;exact .inr z
 let Oxp:AS:=fun a=>Ox a\/∃i,R1 i a/\∀j:Nat,sh[j]?≠some (.inr i);have sub:∀a,Own Rq Oxp a->Own R1 (U F0 Ox) a:=fun a z=>by
  rcases z with⟨j,z⟩|z|⟨i,z,_⟩
  ·rcases rqc j a z with⟨i,_,z⟩|z
   ·exact .inl ⟨i,z⟩
   ·exact .inr (.inl (a3 j a z))
  ·exact .inr (.inr z)
  ·exact .inl ⟨i,z⟩
 have ec:EnvOk K dps Oxp H1 (vs.map some) (ts.map some) Rq:=by
  refine⟨fun j u hu=>?_,fun j j' a z z'=>?_,fun j a z z2=>?_,fun a z=>P.env.dom a (sub a z),by rw[zad,zad,tl,ol],?_⟩
  ·rw[zao]at hu;obtain⟨u',hu,eu⟩:=zab.mp hu;cases eu;rcases tg j u hu with q|⟨i,q,qe⟩
   ·obtain⟨v,d,b1,b2,b3⟩:=a1 j u q;refine⟨v,d,by rw[zao,b1];rfl,c1 j d b2,?_⟩;rw[rq2 j fun i z=>by rw[b2]at z;cases z];exact Ow.grow sub u (fun _ z=>z) b3
   ·obtain⟨v,b1,b2,b3⟩:=a2 j i q;obtain⟨v',d,g1,g2,g3⟩:=P.env.at_ i u qe;rw[b3]at g1;cases g1;obtain⟨qd,q1,q2⟩:=c2 j i b2;rw[g2]at q2;cases q2;refine⟨v,d,by rw[zao,b1];rfl,q1,?_⟩;rw[rq1 j i b2];exact Ow.grow sub u (fun _ z=>z) g3
  ·rcases rqc j a z with⟨i,q,z⟩|z<;>rcases rqc j' a z' with⟨i',q',z'⟩|z'
   ·have:=P.env.dj i i' a z z';subst this;exact c3 j j' i q q'
   ·exact absurd (.inl (a3 j' a z')) (P.env.dx i a z)
   ·exact absurd (.inl (a3 j a z)) (P.env.dx i' a z')
   ·exact a4 j j' a z z'
  ·rcases rqc j a z with⟨i,q,z⟩|z
   ·rcases z2 with z2|⟨i',z2,n⟩
    ·exact P.env.dx i a z (.inr z2)
    ·have:=P.env.dj i i' a z z2;subst this;exact n j q
   ·rcases z2 with z2|⟨i',z2,n⟩
    ·exact P.fx a (a3 j a z) z2
    ·exact P.env.dx i' a z2 (.inl (a3 j a z))
  ·have:=o.shl;rw[zad];omega
 rw[zbo];refine⟨Oxp,ts,Rq,r,ψ,ec,h3,fun v H2 R2 Fr Pc oc=>?_⟩;have outl:ψ.length=as.length:=by rw[Pc.env.l1,zad];exact ol
 classical
 let R3:Nat->AS:=fun i=>if q:∃j:Nat,sh[j]?=some (.inr i)then R2 q.choose else R1 i
 have r31:∀(i j:Nat),sh[j]?=some (.inr i)->R3 i=R2 j:=fun i j z=>by
  have q:∃j:Nat,sh[j]?=some (.inr i):=⟨j,z⟩
  have:q.choose=j:=c3 _ _ i q.choose_spec z;show(if q:∃j:Nat,sh[j]?=some (.inr i)then R2 q.choose else R1 i)=R2 j;rw[dif_pos q,this]
 have r32:∀i:Nat,(∀j:Nat,sh[j]?≠some (.inr i))->R3 i=R1 i:=fun i z=>by
  show(if q:∃j:Nat,sh[j]?=some (.inr i)then R2 q.choose else R1 i)=R1 i;rw[dif_neg fun⟨j,q⟩=>z j q]
 have r3c:∀(i:Nat) a,R3 i a->(∃j:Nat,sh[j]?=some (.inr i)/\R2 j a)\/((∀j:Nat,sh[j]?≠some (.inr i))/\R1 i a):=fun i a z=>by
  by_cases q:∃j:Nat,sh[j]?=some (.inr i)
  ·obtain⟨j,q⟩:=q;rw[r31 i j q]at z;exact .inl ⟨j,q,z⟩
  ·rw[r32 i fun j z=>q ⟨j,z⟩]at z;exact .inr ⟨fun j z=>q ⟨j,z⟩,z⟩
 have x':∀a,Own R3 (U Fr Ox) a->Own R2 (U Fr Oxp) a:=fun a z=>by
  rcases z with⟨i,z⟩|z|z
  ·rcases r3c i a z with⟨j,_,z⟩|⟨n,z⟩
   ·exact .inl ⟨j,z⟩
   ·exact .inr (.inr (.inr ⟨i,z,n⟩))
  ·exact .inr (.inl z)
  ·exact .inr (.inr (.inl z))
 have back:∀a,(Fr a\/∃j,R2 j a)->Own R1 (U F0 Ox) a\/H1 a=none:=fun a z=>by
  rcases Pc.own a z with⟨j,z⟩|z
  ·exact .inl (sub a (.inl ⟨j,z⟩))
  ·exact .inr z
 have zV:∀a,(Fr a\/∃j,R2 j a)->(F0 a\/∃i,R1 i a)\/H1 a=none:=fun a z=>by
  rcases Pc.own a z with⟨j,z⟩|z
  ·rcases rqc j a z with⟨i,_,z⟩|z
   ·exact .inl (.inr ⟨i,z⟩)
   ·exact .inl (.inl (a3 j a z))
  ·exact .inr z
 have n1:∀a,H1 a=none->H a=none:=fun a z=>by
  cases q:H a with
  |none=>rfl
  |some o=>
   obtain⟨o',q'⟩:=P.dom a o q;rw[z]at q';cases q'
 have rqsub:∀j a,Rq j a->Own R1 (U F0 Ox) a:=fun j a z=>sub a (.inl ⟨j,z⟩);have env3:EnvOk K ds1 (U Fr Ox) H2 σ (wb as ψ en1) R3:=by
  refine⟨fun i u hu=>?_,fun i i' a z z'=>?_,fun i a z z2=>?_,fun a z=>Pc.env.dom a (x' a z),by rw[tH];exact P.env.l1,P.env.l2⟩
  ·by_cases q:∃j:Nat,as[j]?=some (.inr i)
   ·obtain⟨j,q⟩:=q;obtain⟨v,b1,b2,b3⟩:=a2 j i q;have hil:i<en1.length:=by rw[P.env.l1];exact(zah.mp b3).1
    rw[wI as ψ en1 i j q (fun j' z=>c3 j' j i (asl j' i z) b2) outl hil]at hu;obtain⟨v',d,g1,g2,g3⟩:=Pc.env.at_ j u hu;rw[zao,b1]at g1;cases g1;obtain⟨qd,q1,q2⟩:=c2 j i b2;rw[g2]at q1;cases q1;refine⟨v,d,b3,q2,?_⟩;rw[r31 i j b2];exact Ow.grow x' u (fun _ z=>z) g3
   ·rw[kq as ψ en1 i fun j z=>q ⟨j,z⟩]at hu;have ns:∀j:Nat,sh[j]?≠some (.inr i):=fun j z=>q ⟨j,asr j i z⟩;obtain⟨v,d,g1,g2,g3⟩:=P.env.at_ i u hu;refine⟨v,d,g1,g2,?_⟩;rw[r32 i ns];refine Ow.mv (G:=R1 i) ⟨fun a o q z=>Pc.keep a o q fun j zj=>?_,fun a z=>?_⟩ u (fun _ z=>z) g3
    ·rcases z with z|z
     ·exact z (rqsub j a zj)
     ·rcases rqc j a zj with⟨i',q',z'⟩|z'
      ·have:=P.env.dj i i' a z z';subst this;exact ns j q'
      ·exact P.env.dx i a z (.inl (a3 j a z'))
    ·rcases z with⟨i',z⟩|z|z
     ·rcases r3c i' a z with⟨j,_,z⟩|⟨n,z⟩
      ·exact back a (.inr ⟨j,z⟩)
      ·exact .inl (.inl ⟨i',z⟩)
     ·exact back a (.inl z)
     ·exact .inl (.inr (.inr z))
  ·rcases r3c i a z with⟨j,q,z⟩|⟨n,z⟩<;>rcases r3c i' a z' with⟨j',q',z'⟩|⟨n',z'⟩
   ·have:=Pc.env.dj j j' a z z';subst this;rw[q]at q';cases q';rfl
   ·exact absurd (.inr (.inr ⟨i',z',n'⟩)) (Pc.env.dx j a z)
   ·exact absurd (.inr (.inr ⟨i,z,n⟩)) (Pc.env.dx j' a z')
   ·exact P.env.dj i i' a z z'
  ·rcases r3c i a z with⟨j,q,z⟩|⟨n,z⟩
   ·exact Pc.env.dx j a z (z2.imp id .inl)
   ·rcases z2 with z2|z2
    ·exact Pc.fx a z2 (.inr ⟨i,z,n⟩)
    ·exact P.env.dx i a z (.inr z2)
 refine k v H2 R3 Fr ⟨env3,fun a z z2=>Pc.fx a z (.inl z2),fun a o q n=>?_,fun a z=>?_,fun a o q=>?_,fun hp=>?_⟩ (fun hp i0 hi0=>⟨fun a o q z=>?_,?_⟩) (Ow.grow x' r (fun _ z=>z) oc)
 ·refine Pc.keep a o (P.keep a o q n) fun j z=>?_;have nn:∀i,¬R1 i a:=fun i z=>by
   rcases P.own a (.inr ⟨i,z⟩)with⟨i',z⟩|z
   ·exact n i' z
   ·rw[q]at z;cases z
  rcases rqc j a z with⟨i,_,z⟩|z
  ·exact nn i z
  ·rcases P.own a (.inl (a3 j a z))with⟨i',z⟩|z
   ·exact n i' z
   ·rw[q]at z;cases z
 ·have:(F0 a\/∃i,R1 i a)\/H1 a=none:=by
   rcases z with z|⟨i,z⟩
   ·exact zV a (.inl z)
   ·rcases r3c i a z with⟨j,_,z⟩|⟨n,z⟩
    ·exact zV a (.inr ⟨j,z⟩)
    ·exact .inl (.inr ⟨i,z⟩)
  rcases this with z|z
  ·exact P.own a z
  ·exact .inr (n1 a z)
 ·obtain⟨o',q'⟩:=P.dom a o q;exact Pc.dom a o' q'
 ·obtain⟨hp1,hp2⟩:=(zbk _ _▸hp:p=true/\gl sh=true);obtain⟨b1,b2,b3⟩:=P.pure hp1;have ns:=pW hp2;refine⟨?_,?_,fun a o q=>?_⟩
  ·show wb as ψ en1=en;rw[<-b1];refine List.ext_getElem? fun i=>?_;exact kq as ψ en1 i fun j z=>ns j i (asl j i z)
  ·rw[<-b2]
   funext i
   exact r32 i fun j=>ns j i
  ·refine Pc.keep a o (b3 a o q) fun j z=>?_;rcases rqc j a z with⟨i,z,_⟩|z
   ·exact ns j i z
   ·have zf:=a3 j a z;rcases P.own a (.inl zf)with⟨i,z2⟩|z2
    ·rw[<-b2]at z2;exact P.env.dx i a z2 (.inl zf)
    ·rw[q]at z2;cases z2
 ·obtain⟨b1,b2,b3⟩:=P.pure hp;rw[<-b2]at z;refine Pc.keep a o (b3 a o q) fun j zj=>?_;rcases rqc j a zj with⟨i',q',z'⟩|z'
  ·have:=P.env.dj i0 i' a z z';subst this;exact hi0 j q'
  ·exact P.env.dx i0 a z (.inl (a3 j a z'))
 ·obtain⟨b1,b2,b3⟩:=P.pure hp;rw[kq as ψ en1 i0 fun j z=>hi0 j (asl j i0 z),b1]
def Bz{E:XK}{F:List D->Option (D×En)}(hc:cO ds1 sh dps=true)(h:tF K (p&&gl sh) ds ds1 dr (aq F fa) σ H Q):sS (spF K dps dr F) [] E (tFA K p ds ds1 sh fa) σ H Q:=
 let⟨Ox,en,R,t,en',e,hf,k⟩:=h
 Mu hc ⟨Ox,en,R,t,en',e,hf,fun v H' R' F P _ o=>k v H' R' F P o⟩
end
inductive Fl where
 |nx (en:En)|rt (t:D) (en:En)|ct (en:En)
abbrev MS:=En->Option Fl
variable{m m2:MS}
structure Jd where
 lk:List Nat
 dsr:List Nat
 dr:Nat
 dsl:List Nat
variable{J:Jd}
structure PostS(K:zbS)(lk:List Nat)(ds':List Nat)(Ox:AS)(σ:St)(H:Hp)(R:Nat->AS)(σ':St)(en':En)(H':Hp)(R':Nat->AS)(F:AS):Prop where
 env:EnvOk K ds' (U F Ox) H' σ' en' R'
 fx:∀a,F a->¬Ox a
 keep:∀a o,H a=some o->(∀i,¬R i a)->H' a=some o
 own:∀a,(F a\/∃i,R' i a)->(∃i,R i a)\/H a=none
 dom:∀a o,H a=some o->∃o',H' a=some o'
 lk:∀j∈lk,σ'[j]?=σ[j]?
def tFS(K:zbS)(J:Jd)(ds ds':List Nat)(f:MS):TS:=fun D σ H=>
 ∃Ox en R fl,EnvOk K ds Ox H σ en R/\f en=some fl/\match fl with
  |.nx en'=>∀σ' H' R',PostS K J.lk ds' Ox σ H R σ' en' H' R' NoA->D.nx σ' H'
  |.ct en'=>∀σ' H' R',PostS K J.lk J.dsl Ox σ H R σ' en' H' R' NoA->D.ct σ' H'
  |.rt t en'=>∀v σ' H' R' F,PostS K J.lk J.dsr Ox σ H R σ' en' H' R' F->Ow K (Own R' (U F Ox)) H' t J.dr v F->D.rt v H'
def al(f g:MS):MS:=fun en=>(f en).bind fun fl=>match fl with
 |.nx en1=>g en1
 |.rt t en1=>some (.rt t en1)
 |.ct en1=>some (.ct en1)
def ao(i:Nat)(f:ME):MS:=fun en=>(f en).map fun r=>.nx (r.2.set i (some r.1))
def eg(f:ME):MS:=fun en=>(f en).map fun r=>.nx r.2
def aB(f:ME):MS:=fun en=>(f en).map fun r=>.rt r.1 r.2
def Nh:MS:=fun en=>some (.rt .none en)
def bc:MS:=fun en=>some (.nx en)
def Ni:MS:=fun en=>some (.ct en)
def eG:MS:=fun _=>none
def sIf(c:MT)(f g:MS):MS:=fun en=>(c en).bind fun r=>if r.1 then f r.2 else g r.2
section
variable{c:MT}{m1:MS}{D:Ends}
def PostS.refl(e:EnvOk K ds Ox H σ en R):PostS K lk ds Ox σ H R σ en H R NoA:=
 ⟨by rw[iA];exact e,fun _ z=>z.elim,fun _ _ q _=>q,fun a z=>z.elim (fun z=>z.elim) .inl,fun a o q=>⟨o,q⟩,fun _ _=>rfl⟩
def PostS.env0{F:AS}(P:PostS K lk ds' Ox σ H R σ' en' H' R' F):EnvOk K ds' Ox H' σ' en' R':=P.env.fewer fun a z=>.inr z
def PostS.less{F:AS}(P:PostS K lk ds' Ox σ H R σ' en' H' R' F)(h:∀a,F' a->F a):PostS K lk ds' Ox σ H R σ' en' H' R' F':=
 ⟨P.env.fewer fun a z=>z.imp (h a) id,fun a z=>P.fx a (h a z),P.keep,fun a z=>P.own a (z.imp (h a) id),P.dom,P.lk⟩
def PostS.after{σ1 σ2:St}{R2:Nat->AS}{F:AS}(P1:PostS K lk ds1 Ox σ H R σ1 en1 H1 R1 NoA)(P2:PostS K lk ds2 Ox σ1 H1 R1 σ2 en2 H' R2 F):PostS K lk ds2 Ox σ H R σ2 en2 H' R2 F:=by
 have n1:∀a,H1 a=none->H a=none:=fun a z=>by
  cases q:H a with
  |none=>rfl
  |some o=>
   obtain⟨o',q'⟩:=P1.dom a o q;rw[z]at q';cases q'
 refine⟨P2.env,P2.fx,fun a o q n=>?_,fun a z=>?_,fun a o q=>?_,fun j hj=>(P2.lk j hj).trans (P1.lk j hj)⟩
 ·refine P2.keep a o (P1.keep a o q n) fun i z=>?_;rcases P1.own a (.inr ⟨i,z⟩)with⟨j,z⟩|z
  ·exact n j z
  ·rw[q]at z;cases z
 ·rcases P2.own a z with z|z
  ·exact P1.own a (.inr z)
  ·exact .inr (n1 a z)
 ·obtain⟨o',q'⟩:=P1.dom a o q;exact P2.dom a o' q'
def Post.s{F:AS}(P:Post K p ds' Ox σ H en R en' H' R' F):PostS K lk ds' Ox σ H R σ en' H' R' F:=⟨P.env,P.fx,P.keep,P.own,P.dom,fun _ _=>rfl⟩
def PostS.cut{F:AS}(P:PostS K lk ds1 Ox σ H R σ' en' H' R' F)(hd:leD ds2 ds1=true):∃R2,(∀i a,R2 i a->R' i a)/\PostS K lk ds2 Ox σ H R σ' en' H' R2 F:=by
 obtain⟨R2,s1,e2⟩:=P.env.cut (eW hd).1 (eW hd).2;exact⟨R2,s1,e2,P.fx,P.keep,fun a z=>P.own a (z.imp id fun⟨i,z⟩=>⟨i,s1 i a z⟩),P.dom,P.lk⟩
def Ky(h:tFS K J ds ds bc D σ H):D8 D σ H:=by
 obtain⟨Ox,en,R,fl,e,hf,k⟩:=h;cases hf;exact k σ H R (PostS.refl e)
def Kw(h:tFS K J ds ds2 (al m1 m2) D σ H):IS (tFS K J ds ds1 m1) (tFS K J ds1 ds2 m2) D σ H:=by
 obtain⟨Ox,en,R,fl,e,hf,k⟩:=h;unfold al at hf;obtain⟨fl1,h1,hf⟩:=zaa.mp hf;refine⟨Ox,en,R,fl1,e,h1,?_⟩;cases fl1 with
 |nx en1=>
  intro σ1 H1 R1 P1;refine⟨Ox,en1,R1,fl,P1.env0,hf,?_⟩;cases fl with
  |nx en2=>exact fun σ2 H2 R2 P2=>k σ2 H2 R2 (P1.after P2)
  |ct en2=>exact fun σ2 H2 R2 P2=>k σ2 H2 R2 (P1.after P2)
  |rt t en2=>exact fun v σ2 H2 R2 F P2 o=>k v σ2 H2 R2 F (P1.after P2) o
 |ct en1=>cases hf;exact k
 |rt t en1=>cases hf;exact k
def Kv(hd:leD ds1 ds2=true)(h:tFS K J ds ds1 m D σ H):tFS K J ds ds2 m D σ H:=by
 obtain⟨Ox,en,R,fl,e,hf,k⟩:=h;refine⟨Ox,en,R,fl,e,hf,?_⟩;cases fl with
 |nx en2=>
  intro σ2 H2 R2 P2;obtain⟨R3,_,P3⟩:=P2.cut hd;exact k σ2 H2 R3 P3
 |ct en2=>exact k
 |rt t en2=>exact k
def KA(h:tFS K J ds ds1 (eg f) D σ H):D9 (tF K p ds ds1 d f) D σ H:=by
 obtain⟨Ox,en,R,fl,e,hf,k⟩:=h;unfold eg at hf;obtain⟨⟨t,en1⟩,h1,hf⟩:=zab.mp hf;cases hf;exact⟨Ox,en,R,t,en1,e,h1,fun v H1 R1 F P o=>k σ H1 R1 (P.s.less fun _ z=>z.elim)⟩
def Kx(hd:leD J.dsr ds1=true)(h:tFS K J ds ds' (aB f) D σ H):IT (tF K p ds ds1 J.dr f) D σ H:=by
 obtain⟨Ox,en,R,fl,e,hf,k⟩:=h;unfold aB at hf;obtain⟨⟨t,en1⟩,h1,hf⟩:=zab.mp hf;cases hf;refine⟨Ox,en,R,t,en1,e,h1,fun v H1 R1 F P o=>?_⟩;obtain⟨R2,s1,P2⟩:=(P.s (lk:=J.lk)).cut hd;exact k v σ H1 R2 F P2 (Ow.grow (fun a z=>z.imp (fun⟨i,z⟩=>⟨i,s1 i a z⟩) id) t (fun _ z=>z) o)
def Ba(h:tFS K J ds ds' eG D σ H):tL D σ H:=by
 obtain⟨Ox,en,R,fl,e,hf,k⟩:=h;cases hf
def Ma(h:tFS K J ds ds2 (sIf c m1 m2) D σ H):IZ (tFT K p ds ds1 c) (tFS K J ds1 ds2 m1) (tFS K J ds1 ds2 m2) D σ H:=by
 obtain⟨Ox,en,R,fl,e,hf,k⟩:=h;unfold sIf at hf;obtain⟨⟨b,en1⟩,h1,hf⟩:=zaa.mp hf;refine⟨Ox,en,R,b,en1,e,h1,fun H1 R1 P1=>?_⟩;have fin:∀m,m en1=some fl->tFS K J ds1 ds2 m D σ H1:=fun m hm=>by
  refine⟨Ox,en1,R1,fl,P1.env0,hm,?_⟩;cases fl with
  |nx en2=>exact fun σ2 H2 R2 P2=>k σ2 H2 R2 (P1.s.after P2)
  |ct en2=>exact fun σ2 H2 R2 P2=>k σ2 H2 R2 (P1.s.after P2)
  |rt t en2=>exact fun v σ2 H2 R2 F P2 o=>k v σ2 H2 R2 F (P1.s.after P2) o
 cases b with
 |true=>exact fin m1 hf
 |false=>exact fin m2 hf
def PostS.store{F:AS}(P:Post K p ds1 Ox σ H en R en1 H' R' F)(o:Ow K (Own R' (U F Ox)) H' t d v F)(hi:i<ds1.length)(hl:i∉lk):
  PostS K lk (ds1.set i d) Ox σ H R (σ.set i (some v)) (en1.set i (some t)) H' (fun j=>if j=i then F else R' j) NoA:=by
 have l1:=P.env.l1;have l2:=P.env.l2;have sub:∀a,Own (fun j=>if j=i then F else R' j) Ox a->Own R' (U F Ox) a:=fun a z=>by
  rcases z with⟨j,z⟩|z
  ·by_cases hj:j=i
   ·rw[if_pos hj]at z;exact .inr (.inl z)
   ·rw[if_neg hj]at z;exact .inl ⟨j,z⟩
  ·exact .inr (.inr z)
 refine⟨?_,fun _ z=>z.elim,P.keep,fun a z=>?_,P.dom,fun j hj=>?_⟩
 ·rw[iA];refine⟨fun j u hu=>?_,fun j j' a z z'=>?_,fun j a z z2=>?_,fun a z=>P.env.dom a (sub a z),by rw[zaV,zaV];exact l1,by rw[zaV,zaV];exact l2⟩
  ·by_cases hj:j=i
   ·subst hj;rw[zaP (by omega)]at hu;cases hu;refine⟨v,d,zaP (by omega),zaP hi,?_⟩;rw[if_pos rfl];exact Ow.grow sub t (fun _ z=>z) o
   ·rw[zaO (Ne.symm hj)]at hu;obtain⟨v',d',g1,g2,g3⟩:=P.env.at_ j u hu;refine⟨v',d',by rw[zaO (Ne.symm hj)];exact g1,by rw[zaO (Ne.symm hj)];exact g2,?_⟩;rw[if_neg hj];exact Ow.grow sub u (fun _ z=>z) g3
  ·by_cases hj:j=i<;>by_cases hj':j'=i
   ·rw[hj,hj']
   ·rw[if_pos hj]at z;rw[if_neg hj']at z';exact absurd (.inl z) (P.env.dx j' a z')
   ·rw[if_neg hj]at z;rw[if_pos hj']at z';exact absurd (.inl z') (P.env.dx j a z)
   ·rw[if_neg hj]at z;rw[if_neg hj']at z';exact P.env.dj j j' a z z'
  ·by_cases hj:j=i
   ·rw[if_pos hj]at z;exact P.fx a z z2
   ·rw[if_neg hj]at z;exact P.env.dx j a z (.inr z2)
 ·rcases z with z|⟨j,z⟩
  ·exact z.elim
  ·by_cases hj:j=i
   ·rw[if_pos hj]at z;exact P.own a (.inl z)
   ·rw[if_neg hj]at z;exact P.own a (.inr ⟨j,z⟩)
 ·rw[zaO];intro z;subst z;exact hl hj
def uO(hi:i<ds1.length)(hl:i∉J.lk)(h:tFS K J ds (ds1.set i d) (ao i f) D σ H):Av (tF K p ds ds1 d f) (qa i) D σ H:=by
 obtain⟨Ox,en,R,fl,e,hf,k⟩:=h;unfold ao at hf;obtain⟨⟨t,en1⟩,h1,hf⟩:=zab.mp hf;cases hf;exact⟨Ox,en,R,t,en1,e,h1,fun v H1 R1 F P o=>k _ H1 _ (PostS.store P o hi hl)⟩
abbrev MG:=PyData->En->Option En
def tFG(K:zbS)(lk:List Nat)(ds ds':List Nat)(g:MG):TG:=fun v σ H Q=>
 ∃Ox en R t en',EnvOk K ds Ox H σ en R/\Ow K (Own R Ox) H t 0 v NoA/\g t en=some en'/\∀σ' R',PostS K lk ds' Ox σ H R σ' en' H R' NoA->(∀j∈lk,R' j=R j)->Q σ' H
def ip(K:zbS)(lk:List Nat)(ds ds':List Nat)(g:List PyData->En->Option En):TGs:=fun vs σ H Q=>
 ∃Ox en R ts en',EnvOk K ds Ox H σ en R/\Ows K (Own R Ox) H ts 0 vs NoA/\g ts en=some en'/\∀σ' R',PostS K lk ds' Ox σ H R σ' en' H R' NoA->(∀j∈lk,R' j=R j)->Q σ' H
def gN(i:Nat):MG:=fun t en=>some (en.set i (some t))
def gs0:List PyData->En->Option En:=fun ts en=>match ts with
 |[]=>some en
 |_=>none
def gsC(g:MG)(r:List PyData->En->Option En):List PyData->En->Option En:=fun ts en=>match ts with
 |t::ts=>(g t en).bind fun en1=>r ts en1
 |[]=>none
def gT(g:List PyData->En->Option En):MG:=fun t en=>match t with
 |.tuple ts=>g ts en
 |_=>none
variable{g g1:MG}{gs:List PyData->En->Option En}{QS:St->Hp->Prop}
def Gu(hi:i<ds.length)(hl:i∉lk)(h:tFG K lk ds (ds.set i 0) (gN i) v σ H QS):qa i v σ H QS:=by
 obtain⟨Ox,en,R,t,en',e,o,hf,k⟩:=h;cases hf;exact k _ _ (PostS.store (p:=true) (Post.refl e) (by rw[show(fun _=>False:AS)=NoA from rfl,iA];exact o) hi hl) fun j hj=>if_neg (fun(z:j=i)=>hl (by rw[<-z];exact hj))
def Gr(h:ip K lk ds ds gs0 vs σ H QS):Kp vs σ H QS:=by
 obtain⟨Ox,en,R,ts,en',e,o,hf,k⟩:=h;cases ts with
 |nil=>cases hf;exact⟨o,k σ R (PostS.refl e) fun _ _=>rfl⟩
 |cons t ts=>cases hf
def Bi(h:ip K lk ds ds2 (gsC g gs) vs σ H QS):EC (tFG K lk ds ds1 g) (ip K lk ds1 ds2 gs) vs σ H QS:=by
 obtain⟨Ox,en,R,ts,en',e,o,hf,k⟩:=h;cases ts with
 |nil=>cases hf
 |cons t ts=>
  obtain⟨en1,h1,h2⟩:=zaa.mp hf;obtain⟨v,r,F1,F2,e1,s1,s2,s3,o1,o2⟩:=o;refine⟨v,r,e1,Ox,en,R,t,en1,e,Ow.any0 t o1,h1,fun σ1 R1 P1 r1=>?_⟩;refine⟨Ox,en1,R1,ts,en',P1.env0,Ows.any0 ts (Ows.mv (G:=NoA) ⟨fun a o q _=>q,fun a z=>?_⟩ ts (F:=NoA) (fun _ z=>z) (Ows.any0 ts o2)),h2,fun σ2 R2 P2 r2=>k σ2 R2 (P1.after P2) fun j hj=>(r2 j hj).trans (r1 j hj)⟩;rcases z with z|z
  ·exact(P1.own a (.inr z)).imp .inl id
  ·exact .inl (.inr z)
def KN(hn:∀ts en,(∃en',gs ts en=some en')->ts.length=n)(h:tFG K lk ds ds1 (gT gs) v σ H QS):Ko K n (ip K lk ds ds1 gs) v σ H QS:=by
 obtain⟨Ox,en,R,t,en',e,o,hf,k⟩:=h;cases t with
 |tuple ts=>
  have hf':gs ts en=some en':=hf;obtain⟨a,vs,e1,⟨_,h1,h2⟩|⟨z,_⟩⟩:=o
  ·refine⟨a,vs,e1,h1.sq,?_,Ox,en,R,ts,en',e,h2,hf',k⟩;rw[<-hn ts en ⟨en',hf'⟩]
   have:∀{ts:List PyData} {vs:List V} {F:AS},Ows K (Own R Ox) H ts 0 vs F->vs.length=ts.length:=fun {ts}=>by
    induction ts with
    |nil=>intro vs F h;rw[show vs=[]from h];rfl
    |cons t ts ih=>
     intro vs F h;obtain⟨v,r,F1,F2,e,h1,h2,h3,h4,h5⟩:=h;rw[e,zac,zac,ih h5]
   exact this h2
  ·exact absurd rfl z
 |_=>cases hf
abbrev MI:=En->Option (List PyData×En)
def mY(K:zbS)(O:AS)(H0:Hp)(J:It)(ts:List PyData):Prop:=
 ∀(i:Nat) (H:Hp) (O1:AS),(∀a o,H0 a=some o->¬O a->H a=some o)->(∀a,O1 a->O a\/H0 a=none)->(∀a,O1 a->∃o,H a=some o) ->
  (∀t,ts[i]?=some t->J.go i H/\∀x H1,J.yld i H x H1->(∀a o,H a=some o->H1 a=some o)/\Ow K O1 H1 t 0 x NoA)/\(ts.length=i->J.stop i H)
def tFI(K:zbS)(p:Bool)(ds ds':List Nat)(f:MI):TI:=fun σ H RJ=>
 ∃Ox en R ts en',EnvOk K ds Ox H σ en R/\f en=some (ts,en')/\∀J H' R',Post K p ds' Ox σ H en R en' H' R' NoA->mY K (Own R' Ox) H' J ts->RJ J H'
def fO(g:MG)(b:MS):List PyData->En->Option Fl
 |[],en=>some (.nx en)
 |t::ts,en=>(g t en).bind fun en1=>(b en1).bind fun fl=>match fl with
  |.nx en2=>fO g b ts en2
  |.ct en2=>fO g b ts en2
  |.rt r en2=>some (.rt r en2)
def gK(fi:MI)(g:MG)(b:MS):MS:=fun en=>(fi en).bind fun r=>fO g b r.1 r.2
def Kz{fi:MI}(h:tFS K J ds ds1 (gK fi g m) D σ H):I0 (tFI K p ds ds1 fi) (tFG K J.lk ds1 ds2 g) (tFS K { J with dsl:=ds1 } ds2 ds1 m) D σ H:=by
 obtain⟨Ox,en,R,fl,e,hf,k⟩:=h;unfold gK at hf;obtain⟨⟨ts,en1⟩,h1,hf⟩:=zaa.mp hf;refine⟨Ox,en,R,ts,en1,e,h1,fun Jt H1 R1 P1 wk=>?_⟩;refine⟨fun i n σ' H'=>∃en' R',n=ts.length-i/\i<=ts.length/\PostS K J.lk ds1 Ox σ H1 R1 σ' en' H' R' NoA/\fO g m (ts.drop i) en'=some fl,⟨_,en1,R1,rfl,zbh _,PostS.refl P1.env0,hf⟩,?_⟩;rintro i n σ2 H2 ⟨en2,R2,rfl,hi,P2,hr⟩;obtain⟨w1,w2⟩:=wk i H2 (Own R2 Ox) (fun a o q z=>P2.keep a o q fun j zj=>z (.inl ⟨j,zj⟩)) (fun a z=>by
  rcases z with z|z
  ·exact(P2.own a (.inr z)).imp .inl id
  ·exact .inl (.inr z)) fun a z=>P2.env0.dom a z
 by_cases hlt:i<ts.length
 ·obtain⟨go,yl⟩:=w1 ts[i] (zak hlt);have hd:ts.drop i=ts[i]::ts.drop (i+1):=zbI hlt;rw[hd]at hr;obtain⟨en3,h3,hr⟩:=zaa.mp hr;obtain⟨fl2,h4,hr⟩:=zaa.mp hr;refine .inr ⟨go,fun σ' H'=>∃en' R',PostS K J.lk ds1 Ox σ H1 R1 σ' en' H' R' NoA/\fO g m (ts.drop (i+1)) en'=some fl,fun σ' H' ⟨en',R',P',h'⟩=>⟨ts.length-(i+1),by omega,en',R',rfl,hlt,P',h'⟩,fun x H3 y=>?_⟩;obtain⟨gr,ox⟩:=yl x H3 y;have P3:Post K true ds1 Ox σ2 H2 en2 R2 en2 H3 R2 NoA:=Post.new P2.env0 gr fun _ z=>z.elim;refine⟨Ox,en2,R2,ts[i],en3,P3.env0,ox,h3,fun σ4 R4 P4 _=>?_⟩;have P4':=(P2.after P3.s).after P4;refine⟨Ox,en3,R4,fl2,P4.env0,h4,?_⟩;cases fl2 with
  |nx en5=>exact fun σ5 H5 R5 P5=>⟨en5,R5,P4'.after P5,hr⟩
  |ct en5=>exact fun σ5 H5 R5 P5=>⟨en5,R5,P4'.after P5,hr⟩
  |rt t en5=>
   cases hr;exact fun v σ5 H5 R5 F P5 o=>k v σ5 H5 R5 F (P1.s.after (P4'.after P5)) o
 ·have e2:i=ts.length:=by omega
  subst e2;rw[List.drop_length]at hr;cases hr;exact .inl ⟨w2 rfl,k σ2 H2 R2 (P1.s.after P2)⟩
def whN(c:MT)(b:MS):Nat->En->Option Fl
 |0,_=>none
 |n+1,en=>(c en).bind fun r=>if r.1 then(b r.2).bind fun fl=>match fl with
   |.nx en2=>whN c b n en2
   |.ct en2=>whN c b n en2
   |.rt t en2=>some (.rt t en2)
  else some (.nx r.2)
open Classical in
noncomputable def c9(c:MT)(b:MS):MS:=fun en=>if h:∃n fl,whN c b n en=some fl then some h.choose_spec.choose else none
def j4{b:MS}{fl:Fl}(h:c9 c b en=some fl):∃n,whN c b n en=some fl:=by
 unfold c9 at h;split at h
 ·next q=>
  cases h;exact⟨q.choose,q.choose_spec.choose_spec⟩
 ·cases h
def A9(h:tFS K J ds ds1 (c9 c m) D σ H):yn (tFT K p ds ds1 c) (tFS K { J with dsl:=ds } ds1 ds m) D σ H:=by
 obtain⟨Ox,en,R,fl,e,hf,k⟩:=h;obtain⟨n0,hn⟩:=j4 hf;refine⟨fun n σ' H'=>∃en' R',PostS K J.lk ds Ox σ H R σ' en' H' R' NoA/\whN c m n en'=some fl,⟨n0,en,R,PostS.refl e,hn⟩,?_⟩;rintro n σ2 H2 ⟨en2,R2,P2,hr⟩;cases n with
 |zero=>cases hr
 |succ n=>
  unfold whN at hr;obtain⟨⟨b,en3⟩,h3,hr⟩:=zaa.mp hr;refine⟨Ox,en2,R2,b,en3,P2.env0,h3,fun H3 R3 P3=>?_⟩;cases b with
  |false=>
   cases hr;rw[if_neg zbl];exact k σ2 H3 R3 (P2.after P3.s)
  |true=>
   rw[if_pos rfl]at hr ⊢;obtain⟨fl2,h4,hr⟩:=zaa.mp hr;refine⟨fun σ' H'=>∃en' R',PostS K J.lk ds Ox σ H R σ' en' H' R' NoA/\whN c m n en'=some fl,fun σ' H' q=>⟨n,Nat.lt_succ_self _,q⟩,Ox,en3,R3,fl2,P3.env0,h4,?_⟩;have P3':=P2.after (P3.s (lk:=J.lk));cases fl2 with
   |nx en5=>exact fun σ5 H5 R5 P5=>⟨en5,R5,P3'.after P5,hr⟩
   |ct en5=>exact fun σ5 H5 R5 P5=>⟨en5,R5,P3'.after P5,hr⟩
   |rt t en5=>
    cases hr;exact fun v σ5 H5 R5 F P5 o=>k v σ5 H5 R5 F (P3'.after P5) o
end
variable{g1:MG}{fi:MI}
def lcF(g:MG)(c:MT)(f:ME):List D->List D->En->Option (List D×En)
 |[],acc,en=>some (acc,en)
 |t::ts,acc,en=>(g t en).bind fun en1=>(c en1).bind fun r=>if r.1 then(f r.2).bind fun q=>if acc.length<sizeLine then lcF g c f ts (acc++[q.1]) q.2 else none else lcF g c f ts acc r.2
def bZ(js:List (Option Nat))(en:En):En:=js.map fun j=>match j with
 |some j=>(en[j]?).join
 |none=>none
def wbB:List (Option Nat)->En->En->En
 |some j::js,o::r,en=>wbB js r (en.set j o)
 |none::js,_::r,en=>wbB js r en
 |_,_,en=>en
def eLC(q:Bool)(fi:MI)(g:MG)(c:MT)(f:ME)(js:List (Option Nat)):ME:=fun en=>(fi en).bind fun r=>(lcF g c f r.1 [] (bZ js r.2)).map fun z=>(.list z.1,if q then r.2 else wbB js z.2 r.2)
def eh(ds:List Nat):List (Option Nat)->List Nat->Bool
 |[],[]=>true
 |some j::js,d::r=>decide (ds[j]?=some d)&&(decide (some j∉js)&&eh ds js r)
 |none::js,_::r=>eh ds js r
 |_,_=>false
section
variable{c:MT}{g:MG}  
theorem lJ:∀{js:List (Option Nat)} {dsi:List Nat},eh ds js dsi=true->dsi.length=js.length/\(∀(k j:Nat),js[k]?=some (some j)->∃d,dsi[k]?=some d/\ds[j]?=some d)/\(∀(k k' j:Nat),js[k]?=some (some j)->js[k']?=some (some j)->k=k')
 |[],[],_=>⟨rfl,fun k j z=>by simp at z,fun k k' j z=>by simp at z⟩
 |some j0::js,d::r,h=>by
  unfold eh at h;rw[zbk,zbk]at h;obtain⟨h1,h2,h3⟩:=h;obtain⟨a,b,c⟩:=lJ h3;have n:=of_decide_eq_true h2;refine⟨by rw[zac,zac,a],fun k j z=>?_,fun k k' j z z'=>?_⟩
  ·cases k with
   |zero=>simp at z;subst z;exact⟨d,rfl,of_decide_eq_true h1⟩
   |succ k=>exact b k j (by simpa using z)
  ·cases k with
   |zero=>
    simp at z;subst z;cases k' with
    |zero=>rfl
    |succ k'=>exact absurd (zaX (by simpa using z':js[k']?=some (some j0))) n
   |succ k=>
    cases k' with
    |zero=>
     simp at z';subst z';exact absurd (zaX (by simpa using z:js[k]?=some (some j0))) n
    |succ k'=>rw[c k k' j (by simpa using z) (by simpa using z')]
 |none::js,d::r,h=>by
  unfold eh at h;obtain⟨a,b,c⟩:=lJ h;refine⟨by rw[zac,zac,a],fun k j z=>?_,fun k k' j z z'=>?_⟩
  ·cases k with
   |zero=>simp at z
   |succ k=>exact b k j (by simpa using z)
  ·cases k with
   |zero=>simp at z
   |succ k=>
    cases k' with
    |zero=>simp at z'
    |succ k'=>rw[c k k' j (by simpa using z) (by simpa using z')]
 |[],_::_,h=>nomatch h
 |some _::_,[],h=>nomatch h
 |none::_,[],h=>nomatch h
theorem qQ:∀(js:List (Option Nat)) (r en:En),(wbB js r en).length=en.length
 |[],_,_=>by unfold wbB;rfl
 |some _::_,[],_=>by unfold wbB;rfl
 |none::_,[],_=>by unfold wbB;rfl
 |some j::js,o::r,en=>by unfold wbB;rw[qQ js r _,zaV]
 |none::js,o::r,en=>by unfold wbB;exact qQ js r _
theorem nE:∀(js:List (Option Nat)) (r en:En) (i:Nat),(∀k:Nat,js[k]?≠some (some i))->(wbB js r en)[i]?=en[i]?
 |[],_,_,_,_=>by unfold wbB;rfl
 |some _::_,[],_,_,_=>by unfold wbB;rfl
 |none::_,[],_,_,_=>by unfold wbB;rfl
 |none::js,o::r,en,i,h=>by unfold wbB;exact nE js r en i fun j=>h (j+1)
 |some k::js,o::r,en,i,h=>by
  unfold wbB;rw[nE js r _ i fun j=>h (j+1),zaO];intro e;subst e;exact h 0 rfl
theorem tI:∀(js:List (Option Nat)) (r en:En) (i k:Nat),js[k]?=some (some i)->(∀k':Nat,js[k']?=some (some i)->k'=k)->r.length=js.length->i<en.length->(wbB js r en)[i]?=r[k]?
 |[],_,_,_,_,h,_,_,_=>by simp at h
 |some _::js,[],_,_,_,_,_,h,_=>by simp at h
 |none::js,[],_,_,_,_,_,h,_=>by simp at h
 |none::js,o::r,en,i,k,h,u,l,b=>by
  unfold wbB;cases k with
  |zero=>simp at h
  |succ k=>exact tI js r en i k (by simpa using h) (fun j' z=>by have:=u (j'+1) (by simpa using z);omega) (by simpa using l) b
 |some j::js,o::r,en,i,k,h,u,l,b=>by
  unfold wbB;cases k with
  |zero=>
   have e:j=i:=by simpa using h
   subst e;rw[nE js r _ j fun j' z=>by have:=u (j'+1) (by simpa using z);omega];rw[zaP b];rfl
  |succ k=>exact tI js r _ i k (by simpa using h) (fun j' z=>by have:=u (j'+1) (by simpa using z);omega) (by simpa using l) (by rw[zaV];exact b)
theorem Ows.snoc:∀{ts:List D} {vs:List V} {F1 F2:AS} {v:V},Ows K O H ts d vs F1->Ow K O H t d v F2->(∀b,F1 b->¬F2 b)->Ows K O H (ts++[t]) d (vs++[v]) (U F1 F2)
 |[],vs,F1,F2,v,h,h2,_=>by
  have e:vs=[]:=h;subst e;exact⟨v,[],F2,NoA,rfl,fun _ z=>.inr z,fun _ z=>z.elim,fun _ _ z=>z.elim,h2,rfl⟩
 |u::ts,vs,F1,F2,v,h,h2,hd=>by
  obtain⟨w,r,G1,G2,e,s1,s2,s3,h4,h5⟩:=h;subst e;refine⟨w,r++[v],G1,U G2 F2,rfl,fun b z=>.inl (s1 b z),fun b z=>z.imp (s2 b) id,fun b z z2=>?_,h4,Ows.snoc h5 h2 fun b z=>hd b (s2 b z)⟩;rcases z2 with z2|z2
  ·exact s3 b z z2
  ·exact hd b (s1 b z) z2
theorem Ows.len:∀{ts:List D} {vs:List V} {F:AS},Ows K O H ts d vs F->vs.length=ts.length
 |[],_,_,h=>by rw[show _=[]from h];rfl
 |t::ts,_,_,h=>by
  obtain⟨v,r,F1,F2,e,h1,h2,h3,h4,h5⟩:=h;rw[e,zac,zac,h5.len]
def fT:List (Option Nat)->Nat->List Nat
 |[],_=>[]
 |some _::r,n=>n::fT r (n+1)
 |none::r,n=>fT r (n+1)
theorem lr:∀{js:List (Option Nat)} {n k j:Nat},js[k]?=some (some j)->n+k∈fT js n
 |[],n,k,j,h=>by simp at h
 |some x::r,n,k,j,h=>by
  unfold fT;cases k with
  |zero=>exact zaq
  |succ k=>
   refine zaj _ ?_
   have:=lr (n:=n+1) (k:=k) (j:=j) (by simpa using h);rw[show n+(k+1)=n+1+k by omega];exact this
 |none::r,n,k,j,h=>by
  unfold fT;cases k with
  |zero=>simp at h
  |succ k=>
   have:=lr (n:=n+1) (k:=k) (j:=j) (by simpa using h);rw[show n+(k+1)=n+1+k by omega];exact this
def mV(js:List (Option Nat))(R1:Nat->AS):Nat->AS:=fun k=>match js[k]? with
 |some (some j)=>R1 j
 |_=>NoA
def wD(h:js[k]?=some (some j)):mV js R1 k=R1 j:=by unfold mV;rw[h]
def wC(h:mV js R1 k a):∃j,js[k]?=some (some j)/\R1 j a:=by
 unfold mV at h;cases q:js[k]? with
 |none=>rw[q]at h;exact h.elim
 |some o=>
  rw[q]at h;cases o with
  |none=>exact h.elim
  |some j=>exact⟨j,rfl,h⟩
def AR{J:It}{fin:List D}{enf:En}{D:Addr}(hc:eh ds1 js dsi=true)(hd:dn d=cd)(hz:d≠0)(hl:lk=fT js 0)(P1:Post K p ds1 Ox σ H en R en1 H1 R1 NoA)(wk:mY K (Own R1 Ox) H1 J ts)(hD:H1 D=none)(h2:lcF g c f ts [] (bZ js en1)=some (fin,enf))
  (k:∀v H' R' F,Post K (p&&q) ds1 Ox σ H en R (if q then en1 else wbB js enf en1) H' R' F->Ow K (Own R' (U F Ox)) H' (.list fin) d v F->Q v H'):nP J (tFG K lk dsi dsi g) (tFT K q dsi dsi c) (tF K q dsi dsi cd f) (ce js σ) H1 D Q:=by
 obtain⟨cl,c1,c2⟩:=lJ hc;have E1:=P1.env0;generalize hRI:mV js R1=RI;have ri1:∀k j:Nat,js[k]?=some (some j)->RI k=R1 j:=fun k j z=>by rw[<-hRI];exact wD z
 have ric:∀(k:Nat) a,RI k a->∃j,js[k]?=some (some j)/\R1 j a:=fun k a z=>by rw[<-hRI]at z;exact wC z
 let OxI:AS:=fun a=>Ox a\/a=D\/∃i,R1 i a/\∀k:Nat,js[k]?≠some (some i);have nD:∀a,Own R1 Ox a->a≠D:=fun a z z2=>by
  subst z2;obtain⟨o,q⟩:=E1.dom a z;rw[hD]at q;cases q
 have lI:(bZ js en1).length=js.length:=by unfold bZ;rw[zad]
 have lS:(ce js σ).length=js.length:=by unfold ce;rw[zad]
 have getE:∀(k:Nat) t,(bZ js en1)[k]?=some (some t)->∃j,js[k]?=some (some j)/\en1[j]?=some (some t):=fun k t z=>by
  unfold bZ at z;rw[zao]at z;obtain⟨oj,h1,h2⟩:=zab.mp z;cases oj with
  |none=>cases h2
  |some j=>
   refine⟨j,h1,?_⟩;have h2':(en1[j]?).join=some t:=h2;cases q:en1[j]? with
   |none=>rw[q]at h2';cases h2'
   |some o=>rw[q]at h2';exact congrArg some h2'
 have getS:∀(k j:Nat) v,js[k]?=some (some j)->σ[j]?=some (some v)->(ce js σ)[k]?=some (some v):=fun k j v z1 z2=>by
  unfold ce;rw[zao,z1];show some ((σ[j]?).join)=_;rw[z2];rfl
 have u2:∀a o,H1 a=some o->upd H1 D (.lst []) a=some o:=fun a o q=>(bu (o:=.lst []) hD).1 a o q;have EI:EnvOk K dsi OxI (upd H1 D (.lst [])) (ce js σ) (bZ js en1) RI:=by
  refine⟨fun k t hk=>?_,fun k k' a z z'=>?_,fun k a z z2=>?_,fun a z=>?_,by rw[lI,lS],by rw[cl,lS]⟩
  ·obtain⟨j,hj,ht⟩:=getE k t hk;obtain⟨v,d,g1,g2,g3⟩:=E1.at_ j t ht;obtain⟨d',q1,q2⟩:=c1 k j hj;rw[g2]at q2;cases q2;refine⟨v,d,getS k j v hj g1,q1,?_⟩;rw[ri1 k j hj];refine Ow.mv (G:=R1 j) ⟨fun a o q _=>u2 a o q,fun a z=>?_⟩ t (fun _ z=>z) g3;rcases z with⟨k',z⟩|z|z|⟨i,z,_⟩
   ·obtain⟨j',_,z⟩:=ric k' a z;exact .inl (.inl ⟨j',z⟩)
   ·exact .inl (.inr z)
   ·exact .inr (z▸hD)
   ·exact .inl (.inl ⟨i,z⟩)
  ·obtain⟨j,hj,z⟩:=ric k a z;obtain⟨j',hj',z'⟩:=ric k' a z'
   have:=E1.dj j j' a z z';subst this;exact c2 k k' j hj hj'
  ·obtain⟨j,hj,z⟩:=ric k a z;rcases z2 with z2|z2|⟨i,z2,n⟩
   ·exact E1.dx j a z z2
   ·exact nD a (.inl ⟨j,z⟩) z2
   ·have:=E1.dj j i a z z2;subst this;exact n k hj
  ·rcases z with⟨k,z⟩|z|z|⟨i,z,_⟩
   ·obtain⟨j,hj,z⟩:=ric k a z;obtain⟨o,q⟩:=E1.dom a (.inl ⟨j,z⟩);exact⟨o,u2 a o q⟩
   ·obtain⟨o,q⟩:=E1.dom a (.inr z);exact⟨o,u2 a o q⟩
   ·subst z;exact⟨_,aC⟩
   ·obtain⟨o,q⟩:=E1.dom a (.inl ⟨i,z⟩);exact⟨o,u2 a o q⟩
 refine⟨fun i n τ H'=>∃eni RI' acc vs Fa,n=ts.length-i/\i<=ts.length/\PostS K lk dsi OxI (ce js σ) H1 RI τ eni H' RI' Fa/\H' D=some (.lst vs)/\Ows K (Own RI' (U Fa OxI)) H' acc cd vs Fa/\lcF g c f (ts.drop i) acc eni=some (fin,enf) /\
   (q=true->(∀k j:Nat,js[k]?=some (some j)->RI' k=RI k)/\(∀a o,H1 a=some o->H' a=some o)),
  ⟨_,bZ js en1,RI,[],[],NoA,rfl,zbh _,⟨by rw[iA];exact EI,fun _ z=>z.elim,fun a o q _=>u2 a o q,fun a z=>z.elim (fun z=>z.elim) .inl,fun a o q=>⟨o,u2 a o q⟩,fun _ _=>rfl⟩,aC,rfl,h2,fun _=>⟨fun _ _ _=>rfl,u2⟩⟩,?_⟩
 rintro i n τ H2 ⟨eni,RI2,acc,vs,Fa,rfl,hi,P2,hDl,oacc,hr,pu⟩;have jZ:∀a,Own RI2 (U Fa OxI) a->Own R1 Ox a\/H1 a=none:=fun a z=>by
  rcases z with z|z|z|z|⟨i,z,_⟩
  ·rcases P2.own a (.inr z)with⟨k,z⟩|z
   ·obtain⟨j,_,z⟩:=ric k a z;exact .inl (.inl ⟨j,z⟩)
   ·exact .inr z
  ·rcases P2.own a (.inl z)with⟨k,z⟩|z
   ·obtain⟨j,_,z⟩:=ric k a z;exact .inl (.inl ⟨j,z⟩)
   ·exact .inr z
  ·exact .inl (.inr z)
  ·exact .inr (z▸hD)
  ·exact .inl (.inl ⟨i,z⟩)
 obtain⟨w1,w2⟩:=wk i H2 (Own RI2 (U Fa OxI)) (fun a o q z=>P2.keep a o q fun k zk=>by
  obtain⟨j,_,zj⟩:=ric k a zk;exact z (.inl ⟨j,zj⟩)) jZ fun a z=>P2.env.dom a z
 have DO:OxI D:=.inr (.inl rfl);by_cases hlt:i<ts.length
 ·obtain⟨go,yl⟩:=w1 ts[i] (zak hlt);rw[zbI hlt]at hr;obtain⟨en3,h3,hr⟩:=zaa.mp hr;obtain⟨⟨b,en4⟩,h4,hr⟩:=zaa.mp hr;refine .inr ⟨go,fun τ' H'=>∃eni RI' acc vs Fa,PostS K lk dsi OxI (ce js σ) H1 RI τ' eni H' RI' Fa/\H' D=some (.lst vs)/\Ows K (Own RI' (U Fa OxI)) H' acc cd vs Fa/\lcF g c f (ts.drop (i+1)) acc eni=some (fin,enf)/\(q=true->(∀k j:Nat,js[k]?=some (some j)->RI' k=RI k)/\(∀a o,H1 a=some o->H' a=some o)),
   fun τ' H' ⟨eni,RI',acc,vs,Fa,P',x1,x2,x3,x4⟩=>⟨_,by omega,eni,RI',acc,vs,Fa,rfl,hlt,P',x1,x2,x3,x4⟩,fun x H3 y=>?_⟩
  obtain⟨gr,ox⟩:=yl x H3 y;have P3:Post K true dsi (U Fa OxI) τ H2 eni RI2 eni H3 RI2 NoA:=Post.new P2.env gr fun _ z=>z.elim;have chain:∀{τ5 en5 H5 RI5 F5},PostS K lk dsi (U Fa OxI) τ H2 RI2 τ5 en5 H5 RI5 F5->PostS K lk dsi OxI (ce js σ) H1 RI τ5 en5 H5 RI5 (U Fa F5):=fun {τ5 en5 H5 RI5 F5} P5=>by
   have n1:∀a,H2 a=none->H1 a=none:=fun a z=>by
    cases q:H1 a with
    |none=>rfl
    |some o=>
     obtain⟨o',q'⟩:=P2.dom a o q;rw[z]at q';cases q'
   refine⟨mZ▸P5.env,fun a z z2=>?_,fun a o q n=>?_,fun a z=>?_,fun a o q=>?_,fun j hj=>(P5.lk j hj).trans (P2.lk j hj)⟩
   ·rcases z with z|z
    ·exact P2.fx a z z2
    ·exact P5.fx a z (.inr z2)
   ·refine P5.keep a o (P2.keep a o q n) fun i z=>?_;rcases P2.own a (.inr ⟨i,z⟩)with⟨j,z⟩|z
    ·exact n j z
    ·rw[q]at z;cases z
   ·rcases z with (z|z)|z
    ·exact P2.own a (.inl z)
    ·rcases P5.own a (.inl z)with z|z
     ·exact P2.own a (.inr z)
     ·exact .inr (n1 a z)
    ·rcases P5.own a (.inr z)with z|z
     ·exact P2.own a (.inr z)
     ·exact .inr (n1 a z)
   ·obtain⟨o',q'⟩:=P2.dom a o q;exact P5.dom a o' q'
  have carry:∀{τ5 en5 H5 RI5 F5},PostS K lk dsi (U Fa OxI) τ H2 RI2 τ5 en5 H5 RI5 F5->Ows K (Own RI5 (U (U Fa F5) OxI)) H5 acc cd vs Fa:=fun {τ5 en5 H5 RI5 F5} P5=>by
   refine Ows.mv (G:=Fa) ⟨fun a o q z=>P5.keep a o q fun i zi=>?_,fun a z=>?_⟩ acc (fun _ z=>z) oacc
   ·rcases z with z|z
    ·exact z (.inl ⟨i,zi⟩)
    ·exact P2.env.dx i a zi (.inl z)
   ·rcases z with z | (z|z)|z
    ·exact(P5.own a (.inr z)).imp .inl id
    ·exact .inl (.inr (.inl z))
    ·exact(P5.own a (.inl z)).imp .inl id
    ·exact .inl (.inr (.inr z))
  have UFN:U Fa NoA=Fa:=gY fun a=>⟨fun z=>z.elim id fun z=>z.elim,.inl⟩;refine⟨U Fa OxI,eni,RI2,ts[i],en3,P3.env0,ox,h3,fun τ4 R4 P4 r4=>?_⟩;have P4':=(P3.s (lk:=lk)).after P4;refine⟨U Fa OxI,en3,R4,b,en4,P4.env0,h4,fun H5 R5 P5=>?_⟩;have P5':=P4'.after (P5.s (lk:=lk));have pu5:q=true->(∀k j:Nat,js[k]?=some (some j)->R5 k=RI k)/\(∀a o,H1 a=some o->H5 a=some o):=fun hq=>by
   obtain⟨_,b2,b3⟩:=P5.pure hq;obtain⟨e1,e2⟩:=pu hq;refine⟨fun k j z=>?_,fun a o qq=>b3 a o (gr a o (e2 a o qq))⟩;rw[b2,r4 k (by rw[hl];have:=lr (n:=0) z;rw[Nat.zero_add]at this;exact this)];exact e1 k j z
  cases b with
  |false=>
   dsimp only
   rw[if_neg zbl];have c5:=chain P5';have o5:=carry P5';rw[UFN]at c5 o5;exact⟨en4,R5,acc,vs,Fa,c5,P5'.keep D _ hDl fun k z=>P2.env.dx k D z (.inr DO),o5,hr,pu5⟩
  |true=>
   dsimp only
   rw[if_pos rfl];obtain⟨⟨t6,en6⟩,h6,hr⟩:=zaa.mp (show((f en4).bind fun q=>if acc.length<sizeLine then lcF g c f (ts.drop (i+1)) (acc++[q.1]) q.2 else none)=some (fin,enf)from hr);refine⟨U Fa OxI,en4,R5,t6,en6,P5.env0,h6,fun v H6 R6 F6 P6 o6=>?_⟩;have P6':=P5'.after (P6.s (lk:=lk));by_cases ξ:acc.length<sizeLine
   case neg=>rw[if_neg ξ]at hr;cases hr
   rw[if_pos ξ]at hr;have hD6:=P6'.keep D _ hDl fun k z=>P2.env.dx k D z (.inr DO);refine⟨vs,hD6,by rw[oacc.len];exact ξ,en6,R6,acc++[t6],vs++[v],U Fa F6,?_,aC,?_,hr,?_⟩
   ·have c6:=chain P6';have keepD:∀a o,H6 a=some o->a≠D->upd H6 D (.lst (vs++[v])) a=some o:=fun a o q n=>by rw[aG n];exact q
    refine⟨⟨fun k t hk=>?_,c6.env.dj,c6.env.dx,fun a z=>?_,c6.env.l1,c6.env.l2⟩,c6.fx,fun a o q n=>?_,c6.own,fun a o q=>?_,c6.lk⟩
    ·obtain⟨v',d',g1,g2,g3⟩:=c6.env.at_ k t hk;refine⟨v',d',g1,g2,Ow.mv (G:=R6 k) ⟨fun a o q z=>keepD a o q fun zD=>?_,fun a z=>.inl z⟩ t (fun _ z=>z) g3⟩;subst zD;rcases z with z|z
     ·exact z (.inr (.inr DO))
     ·exact c6.env.dx k a z (.inr DO)
    ·by_cases ha:a=D
     ·subst ha;exact⟨_,aC⟩
     ·obtain⟨o,q⟩:=c6.env.dom a z;exact⟨o,keepD a o q ha⟩
    ·refine keepD a o (c6.keep a o q n) fun zD=>?_;subst zD;rw[hD]at q;cases q
    ·obtain⟨o',q'⟩:=c6.dom a o q;by_cases ha:a=D
     ·subst ha;exact⟨_,aC⟩
     ·exact⟨o',keepD a o' q' ha⟩
   ·have o1:=carry P6';have o2:Ow K (Own R6 (U (U Fa F6) OxI)) H6 t6 cd v F6:=mZ▸o6
    have:=Ows.snoc o1 o2 fun b z1 z2=>P6.fx b z2 (.inl z1);refine Ows.mv (G:=U Fa F6) ⟨fun a o q z=>?_,fun a z=>.inl z⟩ _ (fun _ z=>z) this;rw[aG]
    ·exact q
    ·intro zD;subst zD;rcases z with z|z|z
     ·exact z (.inr (.inr DO))
     ·exact P2.fx a z DO
     ·exact P6.fx a z (.inr DO)
   ·intro hq;obtain⟨_,b2,b3⟩:=P6.pure hq;obtain⟨e1,e2⟩:=pu5 hq;refine⟨fun k j z=>by rw[b2];exact e1 k j z,fun a o qq=>?_⟩;rw[aG]
    ·exact b3 a o (e2 a o qq)
    ·intro zD;subst zD;rw[hD]at qq;cases qq
 ·have e2:i=ts.length:=by omega
  subst e2;rw[List.drop_length]at hr;obtain⟨e3,e4⟩:acc=fin/\eni=enf:=by cases hr;exact⟨rfl,rfl⟩
  subst e3 e4;refine .inl ⟨w2 rfl,?_⟩;have fD:∀a,Fa a->a≠D:=fun a z z2=>by
   subst z2;exact P2.fx a z DO
  cases hq:q with
  |true=>
   obtain⟨e1,e2⟩:=pu hq;subst hq;have fn:∀a,Fa a->H1 a=none:=fun a z=>by
    rcases P2.own a (.inl z)with⟨k,z2⟩|z2
    ·obtain⟨j,hj,z3⟩:=ric k a z2;rw[<-e1 k j hj]at z2;exact absurd (.inl z) (P2.env.dx k a z2)
    ·exact z2
   have nt:NewTo H1 H2 (fun a=>a=D\/Fa a):=⟨e2,fun a z=>by
    rcases z with z|z
    ·subst z;exact⟨hD,_,hDl⟩
    ·exact⟨fn a z,P2.env.dom a (.inr (.inl z))⟩⟩
   have PF:=P1.fin nt;rw[zbQ]at k;refine k (.ref D) H2 R1 _ PF ⟨D,vs,rfl,.inr ⟨hz,hDl,.inl rfl,Fa,fun b z=>⟨.inr z,fD b z⟩,?_⟩⟩;rw[hd];refine Ows.grow (fun a z=>?_) _ (fun _ z=>z) oacc;rcases z with⟨i,z⟩ | (z|z)|z
   ·by_cases hc2:∃kk:Nat,js[kk]?=some (some i)
    ·obtain⟨kk,hk⟩:=hc2;refine .inl ⟨kk,?_⟩;rw[e1 kk i hk,ri1 kk i hk];exact z
    ·exact .inr (.inr (.inr (.inr ⟨i,z,fun kk hk=>hc2 ⟨kk,hk⟩⟩)))
   ·exact .inr (.inr (z▸DO))
   ·exact .inr (.inl z)
   ·exact .inr (.inr (.inl z))
  |false=>
   subst hq;rw[zbR]at k
   classical
   let R3:Nat->AS:=fun i=>if hh:∃kk:Nat,js[kk]?=some (some i)then RI2 hh.choose else R1 i
   have r31:∀(i kk:Nat),js[kk]?=some (some i)->R3 i=RI2 kk:=fun i kk z=>by
    have hh:∃kk:Nat,js[kk]?=some (some i):=⟨kk,z⟩
    have:hh.choose=kk:=c2 _ _ i hh.choose_spec z;show(if hh:∃kk:Nat,js[kk]?=some (some i)then RI2 hh.choose else R1 i)=RI2 kk;rw[dif_pos hh,this]
   have r32:∀i:Nat,(∀kk:Nat,js[kk]?≠some (some i))->R3 i=R1 i:=fun i z=>by
    show(if hh:∃kk:Nat,js[kk]?=some (some i)then RI2 hh.choose else R1 i)=R1 i;rw[dif_neg fun⟨j,q⟩=>z j q]
   have r3c:∀(i:Nat) a,R3 i a->(∃kk:Nat,js[kk]?=some (some i)/\RI2 kk a)\/((∀kk:Nat,js[kk]?≠some (some i))/\R1 i a):=fun i a z=>by
    by_cases hh:∃kk:Nat,js[kk]?=some (some i)
    ·obtain⟨kk,hk⟩:=hh;rw[r31 i kk hk]at z;exact .inl ⟨kk,hk,z⟩
    ·rw[r32 i fun j z=>hh ⟨j,z⟩]at z;exact .inr ⟨fun j z=>hh ⟨j,z⟩,z⟩
   have x':∀a,Own R3 (U (fun a=>a=D\/Fa a) Ox) a->Own RI2 (U Fa OxI) a:=fun a z=>by
    rcases z with⟨i,z⟩ | (z|z)|z
    ·rcases r3c i a z with⟨j,_,z⟩|⟨n,z⟩
     ·exact .inl ⟨j,z⟩
     ·exact .inr (.inr (.inr (.inr ⟨i,z,n⟩)))
    ·exact .inr (.inr (z▸DO))
    ·exact .inr (.inl z)
    ·exact .inr (.inr (.inl z))
   have el:eni.length=js.length:=by rw[P2.env.l1,<-P2.env.l2];exact cl
   have riO:∀(kk:Nat) a,RI kk a->Own R1 Ox a:=fun kk a z=>by
    obtain⟨j,_,z⟩:=ric kk a z;exact .inl ⟨j,z⟩
   have env3:EnvOk K ds1 (U (fun a=>a=D\/Fa a) Ox) H2 σ (wbB js eni en1) R3:=by
    refine⟨fun i u hu=>?_,fun i i' a z z'=>?_,fun i a z z2=>?_,fun a z=>P2.env.dom a (x' a z),by rw[qQ];exact E1.l1,E1.l2⟩
    ·by_cases hh:∃kk:Nat,js[kk]?=some (some i)
     ·obtain⟨kk,hk⟩:=hh;obtain⟨dd,q1,q2⟩:=c1 kk i hk;have hil:i<en1.length:=by rw[E1.l1,<-E1.l2];exact(zah.mp q2).1
      rw[tI js eni en1 i kk hk (fun k' z=>c2 k' kk i z hk) el hil]at hu;obtain⟨v,d',g1,g2,g3⟩:=P2.env.at_ kk u hu;rw[q1]at g2;cases g2;have hlk:=P2.lk kk (by rw[hl];have:=lr (n:=0) hk;rw[Nat.zero_add]at this;exact this);rw[hlk]at g1;refine⟨v,dd,?_,q2,?_⟩
      ·unfold ce at g1;rw[zao,hk]at g1;have g1':(σ[i]?).join=some v:=zat g1;cases q3:σ[i]? with
       |none=>rw[q3]at g1';cases g1'
       |some o=>rw[q3]at g1';exact congrArg some g1'
      ·rw[r31 i kk hk];exact Ow.grow x' u (fun _ z=>z) g3
     ·rw[nE js eni en1 i fun j z=>hh ⟨j,z⟩]at hu;have ns:∀j:Nat,js[j]?≠some (some i):=fun j z=>hh ⟨j,z⟩;obtain⟨v,d',g1,g2,g3⟩:=E1.at_ i u hu;refine⟨v,d',g1,g2,?_⟩;rw[r32 i ns];refine Ow.mv (G:=R1 i) ⟨fun a o q z=>P2.keep a o q fun j zj=>?_,fun a z=>jZ a (x' a z)⟩ u (fun _ z=>z) g3;obtain⟨j',hj',zj⟩:=ric j a zj;rcases z with z|z
      ·exact z (.inl ⟨j',zj⟩)
      ·have:=E1.dj i j' a z zj;subst this;exact ns j hj'
    ·rcases r3c i a z with⟨j,q,z⟩|⟨n,z⟩<;>rcases r3c i' a z' with⟨j',q',z'⟩|⟨n',z'⟩
     ·have:=P2.env.dj j j' a z z';subst this;rw[q]at q';cases q';rfl
     ·exact absurd (.inr (.inr (.inr ⟨i',z',n'⟩))) (P2.env.dx j a z)
     ·exact absurd (.inr (.inr (.inr ⟨i,z,n⟩))) (P2.env.dx j' a z')
     ·exact E1.dj i i' a z z'
    ·rcases r3c i a z with⟨j,q,z⟩|⟨n,z⟩
     ·refine P2.env.dx j a z ?_;rcases z2 with (z2|z2)|z2
      ·exact .inr (z2▸DO)
      ·exact .inl z2
      ·exact .inr (.inl z2)
     ·rcases z2 with (z2|z2)|z2
      ·exact nD a (.inl ⟨i,z⟩) z2
      ·exact P2.fx a z2 (.inr (.inr ⟨i,z,n⟩))
      ·exact E1.dx i a z z2
   have n1:∀a,H1 a=none->H a=none:=fun a z=>by
    cases q:H a with
    |none=>rfl
    |some o=>
     obtain⟨o',q'⟩:=P1.dom a o q;rw[z]at q';cases q'
   refine k (.ref D) H2 R3 (fun a=>a=D\/Fa a) ⟨env3,fun a z z2=>?_,fun a o q n=>?_,fun a z=>?_,fun a o q=>?_,fun z=>nomatch z⟩ ⟨D,vs,rfl,.inr ⟨hz,hDl,.inl rfl,Fa,fun b z=>⟨.inr z,fD b z⟩,?_⟩⟩
   ·rcases z with z|z
    ·exact nD a (.inr z2) z
    ·exact P2.fx a z (.inl z2)
   ·refine P2.keep a o (P1.keep a o q n) fun kk z=>?_;obtain⟨j,_,z⟩:=ric kk a z;rcases P1.own a (.inr ⟨j,z⟩)with⟨i',z⟩|z
    ·exact n i' z
    ·rw[q]at z;cases z
   ·have h3:(∃i,R1 i a)\/H1 a=none:=by
     have h4:(Fa a\/∃kk,RI2 kk a)->(∃i,R1 i a)\/H1 a=none:=fun z=>by
      rcases P2.own a z with⟨kk,z⟩|z
      ·obtain⟨j,_,z⟩:=ric kk a z;exact .inl ⟨j,z⟩
      ·exact .inr z
     rcases z with (z|z)|⟨i,z⟩
     ·exact .inr (z▸hD)
     ·exact h4 (.inl z)
     ·rcases r3c i a z with⟨j,_,z⟩|⟨n,z⟩
      ·exact h4 (.inr ⟨j,z⟩)
      ·exact .inl ⟨i,z⟩
    rcases h3 with h3|h3
    ·exact P1.own a (.inr h3)
    ·exact .inr (n1 a h3)
   ·obtain⟨o',q'⟩:=P1.dom a o q;exact P2.dom a o' q'
   ·rw[hd];exact Ows.grow x' _ (fun _ z=>z) oacc
def xK(hc:eh ds1 js dsi=true)(hd:dn d=cd)(hz:d≠0)(hl:lk=fT js 0)(h:tF K (p&&q) ds ds1 d (eLC q fi g c f js) σ H Q):
  tLC (tFI K p ds ds1 fi) (tFG K lk dsi dsi g) (tFT K q dsi dsi c) (tF K q dsi dsi cd f) js σ H Q:=by
 obtain⟨Ox,en,R,t,en',e,hf,k⟩:=h;unfold eLC at hf;obtain⟨⟨ts,en1⟩,h1,hf⟩:=zaa.mp hf;obtain⟨⟨fin,enf⟩,h2,hf⟩:=zab.mp hf;cases hf;exact⟨Ox,en,R,ts,en1,e,h1,fun J H1 R1 P1 wk D hD=>AR hc hd hz hl P1 wk hD h2 k⟩
end
def msk:List Nat->En->En
 |d::ds,o::en=>(if d=0 then none else o)::msk ds en
 |_,_=>[]
def fnF(n:Nat)(dps:List Nat)(b:MS):List PyData->Option (PyData×En):=fun ts=>(b (ts.map some++List.replicate n none)).bind fun fl=>match fl with
 |.rt t en=>some (t,msk dps en)
 |.nx en=>some (.none,msk dps en)
 |.ct _=>none
def ro(dps:List Nat):List Nat:=(List.range dps.length).filter fun j=>dps[j]? != some 0
section
variable{t t1 t2:PyData}{D:Ends}
theorem wj:∀{dps:List Nat} {en:En} {j:Nat} {u:PyData},(msk dps en)[j]?=some (some u)->∃d,dps[j]?=some d/\d≠0/\en[j]?=some (some u)
 |[],en,j,u,h=>by unfold msk at h;simp at h
 |d::ds,[],j,u,h=>by unfold msk at h;simp at h
 |d::ds,o::en,j,u,h=>by
  unfold msk at h;cases j with
  |zero=>
   by_cases hd:d=0
   ·simp[hd]at h
   ·refine⟨d,rfl,hd,?_⟩;simpa[hd]using h
  |succ j=>
   have:=wj (dps:=ds) (en:=en) (j:=j) (u:=u) (by simpa using h);simpa using this
theorem wg:∀{dps:List Nat} {en:En},dps.length<=en.length->(msk dps en).length=dps.length
 |[],en,_=>by unfold msk;rfl
 |d::ds,[],h=>by simp at h
 |d::ds,o::en,h=>by
  unfold msk;rw[zac,zac,wg (by simpa using h)]
def Gn{E:XK}{b:MS}(hn:N.length-dps.length=n)(h:spF K dps dr (fnF n dps b) vs H Q E):
  tFS K ⟨ro dps,dps++List.replicate n 0,dr,[]⟩ (dps++List.replicate n 0) (dps++List.replicate n 0) b { nx:=fun _ H'=>Q .non H',rt:=Q } (dy N vs) H:=by
 obtain⟨Ox,ts,R,r,ψ,e,hf,k⟩:=h;have lv:dps.length=vs.length:=by have:=e.l2;rw[zad]at this;exact this
 have lt:ts.length=vs.length:=by have:=e.l1;rw[zad,zad]at this;exact this
 have hs:dy N vs=vs.map some++List.replicate n none:=by unfold dy;rw[<-lv,hn]
 unfold fnF at hf;obtain⟨fl,h1,hf⟩:=zaa.mp hf;have get0:∀{α:Type} (xs:List α) (i:Nat) (u:α),(xs.map some++List.replicate n none)[i]?=some (some u)->(xs.map some)[i]?=some (some u)/\i<xs.length:=fun xs i u z=>by
  by_cases hi:i<xs.length
  ·rw[zaS (by rw[zad];exact hi)]at z;exact⟨z,hi⟩
  ·rw[zbD (by rw[zad];omega),List.getElem?_replicate]at z;split at z
   ·cases z
   ·cases z
 have e0:EnvOk K (dps++List.replicate n 0) Ox H (dy N vs) (ts.map some++List.replicate n none) R:=by
  rw[hs];refine⟨fun i u hu=>?_,e.dj,e.dx,e.dom,by simp[lt],by simp[lv]⟩;obtain⟨hu',hi⟩:=get0 ts i u hu;obtain⟨v,d,g1,g2,g3⟩:=e.at_ i u hu';refine⟨v,d,?_,?_,g3⟩
  ·rw[zaS (by rw[zad];omega)];exact g1
  ·rw[zaS (by omega)];exact g2
 have back:∀{σ' en' H' R' F},PostS K (ro dps) (dps++List.replicate n 0) Ox (dy N vs) H R σ' en' H' R' F->Post K false dps Ox (vs.map some) H (ts.map some) R (msk dps en') H' R' F:=fun {σ' en' H' R' F} P=>by
  have l1:=P.env.l1;have l2:=P.env.l2;rw[zae,zaN]at l2;refine⟨⟨fun j u hu=>?_,P.env.dj,P.env.dx,P.env.dom,by rw[wg (by omega),zad];exact lv,by rw[zad];exact lv⟩,P.fx,P.keep,P.own,P.dom,fun z=>nomatch z⟩;obtain⟨d,a1,a2,a3⟩:=wj hu;obtain⟨v,d',g1,g2,g3⟩:=P.env.at_ j u a3;have hj:j<dps.length:=(zah.mp a1).1;have hlk:j∈ro dps:=by
   unfold ro;rw[zby,zbn];refine⟨hj,?_⟩;rw[a1];simpa using a2
  rw[P.lk j hlk,hs,zaS (by rw[zad];omega)]at g1;rw[zaS hj]at g2;exact⟨v,d',g1,g2,g3⟩
 refine⟨Ox,_,R,fl,e0,h1,?_⟩;cases fl with
 |nx en2=>
  cases hf;exact fun σ2 H2 R2 P2=>k .non H2 R2 NoA (back P2) rfl
 |ct en2=>cases hf
 |rt t en2=>
  cases hf;exact fun v σ2 H2 R2 F P2 o=>k v H2 R2 F (back P2) o
def Post.slot{F:AS}{o2:HO}(P:Post K p ds1 Ox σ H en R en1 H1 R1 F)(hl:R1 i l)(hi:i<en1.length)(hv:σ[i]?=some (some v))(hd:ds1[i]?=some d)
  (hg:∀a,G a->R1 i a\/F a) (hf:∀a,F' a->R1 i a\/F a) (hx:∀a,G a->¬F' a)
  (ho:Ow K (Own (fun j=>if j=i then G else R1 j) (U F' Ox)) (upd H1 l o2) t d v G):
  Post K false ds1 Ox σ H en R (en1.set i (some t)) (upd H1 l o2) (fun j=>if j=i then G else R1 j) F':=by
 have rc:∀(j:Nat) a,(if j=i then G else R1 j) a->R1 j a\/(j=i/\F a):=fun j a z=>by
  by_cases hj:j=i
  ·rw[if_pos hj]at z;rcases hg a z with z|z
   ·exact .inl (hj▸z)
   ·exact .inr ⟨hj,z⟩
  ·rw[if_neg hj]at z;exact .inl z
 have sub:∀a,Own (fun j=>if j=i then G else R1 j) (U F' Ox) a->Own R1 (U F Ox) a:=fun a z=>by
  rcases z with⟨j,z⟩|z|z
  ·rcases rc j a z with z|⟨_,z⟩
   ·exact .inl ⟨j,z⟩
   ·exact .inr (.inl z)
  ·rcases hf a z with z|z
   ·exact .inl ⟨i,z⟩
   ·exact .inr (.inl z)
  ·exact .inr (.inr z)
 have dom2:∀a o,H1 a=some o->∃o',upd H1 l o2 a=some o':=fun a o q=>by
  by_cases ha:a=l
  ·subst ha;exact⟨_,aC⟩
  ·exact⟨o,by rw[aG ha];exact q⟩
 have nl:∀a o,H1 a=some o->a≠l->upd H1 l o2 a=some o:=fun a o q n=>by rw[aG n];exact q
 refine⟨⟨fun j u hu=>?_,fun j j' a z z'=>?_,fun j a z z2=>?_,fun a z=>?_,by rw[zaV];exact P.env.l1,P.env.l2⟩,fun a z z2=>?_,fun a o q n=>?_,fun a z=>?_,fun a o q=>?_,fun z=>nomatch z⟩
 ·by_cases hj:j=i
  ·subst hj;rw[zaP hi]at hu;cases hu;refine⟨v,d,hv,hd,?_⟩;rw[if_pos rfl];exact ho
  ·rw[zaO (Ne.symm hj)]at hu;obtain⟨v',d',g1,g2,g3⟩:=P.env.at_ j u hu;refine⟨v',d',g1,g2,?_⟩;rw[if_neg hj];refine Ow.mv (G:=R1 j) ⟨fun a o q z=>nl a o q fun za=>?_,fun a z=>.inl (sub a z)⟩ u (fun _ z=>z) g3;subst za;rcases z with z|z
   ·exact z (.inl ⟨i,hl⟩)
   ·exact hj (P.env.dj j i a z hl)
 ·have z0:=z;have z0':=z';by_cases hj:j=i<;>by_cases hj':j'=i
  ·rw[hj,hj']
  ·rw[if_pos hj]at z0;rw[if_neg hj']at z0';rcases hg a z0 with z1|z1
   ·exact absurd (P.env.dj i j' a z1 z0') (fun e=>hj' e.symm)
   ·exact absurd (.inl z1) (P.env.dx j' a z0')
  ·rw[if_neg hj]at z0;rw[if_pos hj']at z0';rcases hg a z0' with z1|z1
   ·exact absurd (P.env.dj j i a z0 z1) hj
   ·exact absurd (.inl z1) (P.env.dx j a z0)
  ·rw[if_neg hj]at z0;rw[if_neg hj']at z0';exact P.env.dj j j' a z0 z0'
 ·have z0:=z;by_cases hj:j=i
  ·rw[if_pos hj]at z0;rcases z2 with z2|z2
   ·exact hx a z0 z2
   ·rcases hg a z0 with z1|z1
    ·exact P.env.dx i a z1 (.inr z2)
    ·exact P.fx a z1 z2
  ·rw[if_neg hj]at z0;rcases z2 with z2|z2
   ·rcases hf a z2 with z1|z1
    ·exact hj (P.env.dj j i a z0 z1)
    ·exact P.env.dx j a z0 (.inl z1)
   ·exact P.env.dx j a z0 (.inr z2)
 ·obtain⟨o,q⟩:=P.env.dom a (sub a z);exact dom2 a o q
 ·rcases hf a z with z1|z1
  ·exact P.env.dx i a z1 (.inr z2)
  ·exact P.fx a z1 z2
 ·refine nl a o (P.keep a o q n) fun za=>?_;subst za;rcases P.own a (.inr ⟨i,hl⟩)with⟨j,z⟩|z
  ·exact n j z
  ·rw[q]at z;cases z
 ·have:F a\/∃j,R1 j a:=by
   rcases z with z|⟨j,z⟩
   ·rcases hf a z with z|z
    ·exact .inr ⟨i,z⟩
    ·exact .inl z
   ·rcases rc j a z with z|⟨_,z⟩
    ·exact .inr ⟨j,z⟩
    ·exact .inl z
  exact P.own a this
 ·obtain⟨o',q'⟩:=P.dom a o q;exact dom2 a o' q'
def qA{F:AS}(hg:∀a,G a->R1 i a\/F a)(hf:∀a,F' a->R1 i a\/F a):∀a,Own (fun j=>if j=i then G else R1 j) (U F' Ox) a->Own R1 (U F Ox) a:=fun a z=>by
 rcases z with⟨j,z⟩|z|z
 ·by_cases hj:j=i
  ·rw[if_pos hj]at z;rcases hg a z with z|z
   ·exact .inl ⟨i,z⟩
   ·exact .inr (.inl z)
  ·rw[if_neg hj]at z;exact .inl ⟨j,z⟩
 ·rcases hf a z with z|z
  ·exact .inl ⟨i,z⟩
  ·exact .inr (.inl z)
 ·exact .inr (.inr z)
def bo{α:Type}{en:List (Option α)}{t:α}(h:(en[i]?).join=some t):en[i]?=some (some t):=by
 cases q:en[i]? with
 |none=>rw[q]at h;cases h
 |some o=>rw[q]at h;exact congrArg some h
def Ow.sqL{ts:List PyData}{F:AS}(h:Ow K O H (.list ts) d v F):∃a vs,v=.ref a/\SqL K H a vs:=by
 obtain⟨a,vs,e,⟨_,h1,_⟩|⟨_,h1,_⟩⟩:=h
 ·exact⟨a,vs,e,h1.sq⟩
 ·exact⟨a,vs,e,SqL.of h1⟩
def Ow.ownL{ts:List PyData}{F:AS}(hd:d≠0)(h:Ow K O H (.list ts) d v F):∃a vs,v=.ref a/\H a=some (.lst vs)/\F a/\∃F':AS,(∀b,F' b->F b/\b≠a)/\Ows K O H ts (dn d) vs F':=by
 obtain⟨a,vs,e,⟨h0,_⟩|⟨_,h1,h2,h3⟩⟩:=h
 ·exact absurd h0 hd
 ·exact⟨a,vs,e,h1,h2,h3⟩
def Ows.past{ts:List PyData}{F:AS}(ho:∀a,O' a->O a)(hl:O l)(hf:∀b,F b->b≠l)(h:Ows K O H ts d vs F):Ows K O' (upd H l o) ts d vs F:=
 Ows.mv (G:=F) ⟨fun a u q z=>by
  rw[aG]
  ·exact q
  ·intro za;subst za;rcases z with z|z
   ·exact z hl
   ·exact hf a z rfl,fun a z=>.inl (ho a z)⟩ ts (fun _ z=>z) h
def Ow.past{F:AS}(ho:∀a,O' a->O a)(hl:O l)(hf:∀b,F b->b≠l)(h:Ow K O H t d v F):Ow K O' (upd H l o) t d v F:=
 Ow.mv (G:=F) ⟨fun a u q z=>by
  rw[aG]
  ·exact q
  ·intro za;subst za;rcases z with z|z
   ·exact z hl
   ·exact hf a z rfl,fun a z=>.inl (ho a z)⟩ t (fun _ z=>z) h
def ft(i:Nat)(f:ME):ME:=fun en=>match (en[i]?).join with
 |some (.list _)=>(f en).bind fun r=>match (r.2[i]?).join with
  |some (.list ts)=>if ts.length<sizeLine then some (.none,r.2.set i (some (.list (ts++[r.1]))))else none
  |_=>none
 |_=>none
def Mw(hd:ds1[i]?=some d)(hz:d≠0)(hc:dn d=c)(h:tF K false ds ds1 3 (ft i f) σ H Q):tBM K "list" v8 (kU i) (iL (tF K p ds ds1 c f) oQ) σ H Q:=by
 obtain⟨Ox,en,R,t,en',e,hf,k⟩:=h;unfold ft at hf;split at hf
 case h_2=>cases hf
 next ts0 h0=>
 obtain⟨⟨t1,en1⟩,h1,hf⟩:=zaa.mp hf
 dsimp only at hf
 split at hf
 case h_2=>cases hf
 next ts h2=>
 by_cases ξ:ts.length<sizeLine
 case neg=>rw[if_neg ξ]at hf;cases hf
 rw[if_pos ξ]at hf;cases hf;obtain⟨v,d0,a1,_,a3⟩:=e.at_ i _ (bo h0);obtain⟨l0,vs0,e0,sq⟩:=a3.sqL;refine⟨v,a1,?_,Ox,en,R,t1,en1,e,h1,fun x H1 R1 F P o=>?_⟩
 ·rw[e0];exact .inl ⟨rfl,vs0,sq⟩
 obtain⟨v',d',b1,b2,b3⟩:=P.env.at_ i _ (bo h2);rw[a1]at b1;cases b1;rw[hd]at b2;cases b2;obtain⟨l,vs,el,hl,hr,F',hf',ow⟩:=b3.ownL hz;refine⟨l,vs,x,el,rfl,hl,by rw[ow.len];exact ξ,?_⟩;have hi:i<en1.length:=(zah.mp (bo h2)).1;have Fn:∀a,F a->a≠l:=fun a z z2=>by
  subst z2;exact P.env.dx i a hr (.inl z)
 have sub:=qA (i:=i) (R1:=R1) (Ox:=Ox) (G:=fun a=>R1 i a\/F a) (F':=NoA) (F:=F) (fun _ z=>z) (fun _ z=>z.elim);have Ol:Own R1 (U F Ox) l:=.inl ⟨i,hr⟩;refine k .non (upd H1 l (.lst (vs++[x]))) _ NoA (P.slot (G:=fun a=>R1 i a\/F a) hr hi a1 hd (fun _ z=>z) (fun _ z=>z.elim) (fun _ _ z=>z) ?_) rfl;refine⟨l,vs++[x],el,.inr ⟨hz,aC,.inl hr,U F' F,fun b z=>?_,?_⟩⟩
 ·rcases z with z|z
  ·exact⟨.inl (hf' b z).1,(hf' b z).2⟩
  ·exact⟨.inr z,Fn b z⟩
 ·refine Ows.snoc (Ows.past sub Ol (fun b z=>(hf' b z).2) ow) ?_ fun b z1 z2=>P.env.dx i b (hf' b z1).1 (.inl z2);rw[hc];exact Ow.past sub Ol Fn o
theorem Ows.out:∀{ts:List PyData} {vs:List V} {F:AS} {k:Nat} {t:PyData},Ows K O H ts d vs F->ts[k]?=some t ->
  ∃v,∃F1 F2:AS,vs[k]?=some v/\(∀b,F1 b->F b)/\(∀b,F2 b->F b)/\(∀b,F1 b->¬F2 b)/\Ow K O H t d v F1/\Ows K O H (ts.eraseIdx k) d (vs.eraseIdx k) F2
 |[],_,_,k,t,_,h=>by simp at h
 |u::ts,_,F,k,t,h,hk=>by
  obtain⟨v,r,F1,F2,e,s1,s2,s3,h4,h5⟩:=h;subst e;cases k with
  |zero=>
   have:u=t:=by simpa using hk
   subst this;exact⟨v,F1,F2,rfl,s1,s2,s3,h4,h5⟩
  |succ k=>
   obtain⟨w,G1,G2,g1,g2,g3,g4,g5,g6⟩:=Ows.out (k:=k) h5 (by simpa using hk);refine⟨w,G1,U F1 G2,by simpa using g1,fun b z=>s2 b (g2 b z),fun b z=>z.elim (s1 b) fun z=>s2 b (g3 b z),fun b z z2=>?_,g5,v,r.eraseIdx k,F1,G2,rfl,fun b=>.inl,fun b=>.inr,fun b z1 z2=>s3 b z1 (g3 b z2),h4,g6⟩;rcases z2 with z2|z2
   ·exact s3 b z2 (g2 b z)
   ·exact g4 b z z2
def ie(i:Nat)(f:ME):ME:=fun en=>match (en[i]?).join with
 |some (.list _)=>(f en).bind fun r=>match r.1,(r.2[i]?).join with
  |.int n,some (.list ts)=>if -(2 ^ 63)<=n/\n<2 ^ 63 then(seqIndex? n ts.length).bind fun k=>(ts[k]?).map fun t=>(t,r.2.set i (some (.list (ts.eraseIdx k))))else none
  |_,_=>none
 |_=>none
def GH(hd:ds1[i]?=some d)(hz:d≠0)(hc:dn d=c)(h:tF K false ds ds1 c (ie i f) σ H Q):tBM K "list" yB (kU i) (iL (tF K p ds ds1 d1 f) oQ) σ H Q:=by
 obtain⟨Ox,en,R,t,en',e,hf,k⟩:=h;unfold ie at hf;split at hf
 case h_2=>cases hf
 next ts0 h0=>
 obtain⟨⟨t1,en1⟩,h1,hf⟩:=zaa.mp hf
 dsimp only at hf
 split at hf
 case h_2=>cases hf
 next n ts h2=>
 by_cases hn:-(2 ^ 63)<=n/\n<2 ^ 63
 case neg=>rw[if_neg hn]at hf;cases hf
 rw[if_pos hn]at hf;obtain⟨kk,h3,hf⟩:=zaa.mp hf;obtain⟨t',h4,hf⟩:=zab.mp hf;cases hf;obtain⟨v,d0,a1,_,a3⟩:=e.at_ i _ (bo h0);obtain⟨l0,vs0,e0,sq⟩:=a3.sqL;refine⟨v,a1,?_,Ox,en,R,.int n,en1,e,h1,fun x H1 R1 F P o=>?_⟩
 ·rw[e0];exact .inl ⟨rfl,vs0,sq⟩
 obtain⟨v',d',b1,b2,b3⟩:=P.env.at_ i _ (bo h2);rw[a1]at b1;cases b1;rw[hd]at b2;cases b2;obtain⟨l,vs,el,hl,hr,F',hf',ow⟩:=b3.ownL hz;have len:=ow.len;obtain⟨w,F1,F2,g1,g2,g3,g4,g5,g6⟩:=ow.out h4;have ex:x=.int n:=o;refine⟨l,vs,n,kk,w,el,by rw[ex],hl,hn.1,hn.2,by rw[len];exact h3,g1,?_⟩;have hi:i<en1.length:=(zah.mp (bo h2)).1;have gG:∀a,(fun a=>R1 i a/\¬F1 a) a->R1 i a\/F a:=fun a z=>.inl z.1;have gF:∀a,F1 a->R1 i a\/F a:=fun a z=>.inl (hf' a (g2 a z)).1;have sub:∀a,Own (fun j=>if j=i then(fun a=>R1 i a/\¬F1 a)else R1 j) (U F1 Ox) a->Own R1 (U F Ox) a:=fun a z=>qA gG gF a z;have Ol:Own R1 (U F Ox) l:=.inl ⟨i,hr⟩;have F1l:¬F1 l:=fun z=>(hf' l (g2 l z)).2 rfl;rw[hc]at g5;refine k w (upd H1 l (.lst (vs.eraseIdx kk))) _ F1 (P.slot (G:=fun a=>R1 i a/\¬F1 a) hr hi a1 hd gG gF (fun a z z2=>z.2 z2) ?_) (Ow.past sub Ol (fun b z=>(hf' b (g2 b z)).2) g5);exact⟨l,vs.eraseIdx kk,el,.inr ⟨hz,aC,⟨hr,F1l⟩,F2,fun b z=>⟨⟨(hf' b (g3 b z)).1,fun z1=>g4 b z1 z⟩,(hf' b (g3 b z)).2⟩,Ows.past sub Ol (fun b z=>(hf' b (g3 b z)).2) g6⟩⟩
def wT(i:Nat)(fk fe:ME):MS:=fun en=>(fe en).bind fun r=>match (r.2[i]?).join with
 |some _=>(fk r.2).bind fun q=>match q.1,(q.2[i]?).join with
  |.int n,some (.list ts)=>(ixN ts.length n).map fun k=>.nx (q.2.set i (some (.list (ts.set k r.1))))
  |_,_=>none
 |none=>none
theorem Ows.get:∀{ts:List PyData} {vs:List V} {F:AS} {k:Nat} {t:PyData},Ows K O H ts d vs F->ts[k]?=some t->∃v,vs[k]?=some v/\Ow K O H t d v F
 |[],_,_,k,t,_,h=>by simp at h
 |u::ts,_,F,k,t,h,hk=>by
  obtain⟨v,r,F1,F2,e,s1,s2,s3,h4,h5⟩:=h;subst e;cases k with
  |zero=>
   have:u=t:=by simpa using hk
   subst this;exact⟨v,rfl,Ow.grow (fun _ z=>z) u s1 h4⟩
  |succ k=>
   obtain⟨w,g1,g2⟩:=Ows.get (k:=k) h5 (by simpa using hk);exact⟨w,by simpa using g1,Ow.grow (fun _ z=>z) t s2 g2⟩
def Ows.atI{ts:List PyData}{vs:List V}{F:AS}{n:Int}{t:PyData}(h:Ows K O H ts d vs F)(ht:L2.atI ts n=some t):∃v,L2.atI vs n=some v/\Ow K O H t d v F:=by
 unfold L2.atI at ht ⊢;rw[h.len];obtain⟨k,h1,h2⟩:=zaa.mp ht;obtain⟨v,g1,g2⟩:=h.get h2;exact⟨v,by rw[h1];exact g1,g2⟩
def gt(i:Nat)(f:ME):ME:=fun en=>(en[i]?).join.bind fun _=>(f en).bind fun r=>match r.1,(r.2[i]?).join with
 |.int n,some (.list ts)=>(atI ts n).map fun t=>(t,r.2)
 |_,_=>none
def Mt(hd:ds1[i]?=some 1)(h:tF K p ds ds1 0 (gt i f) σ H Q):tOp (wW K) (kU i) (tF K p ds ds1 d1 f) σ H Q:=by
 obtain⟨Ox,en,R,t,en',e,hf,k⟩:=h;unfold gt at hf;obtain⟨t0,h0,hf⟩:=zaa.mp hf;obtain⟨⟨t1,en1⟩,h1,hf⟩:=zaa.mp hf
 dsimp only at hf
 split at hf
 case h_2=>cases hf
 next n ts h2=>
 obtain⟨t',h3,hf⟩:=zab.mp hf;cases hf;obtain⟨v,d0,a1,_,a3⟩:=e.at_ i _ (bo h0);refine⟨v,a1,Ox,en,R,.int n,_,e,h1,fun x H1 R1 F P o=>?_⟩;obtain⟨v',d',b1,b2,b3⟩:=P.env.at_ i _ (bo h2);rw[a1]at b1;cases b1;rw[hd]at b2;cases b2;obtain⟨l,vs,el,hl,hr,F',hf',ow⟩:=b3.ownL (by decide);obtain⟨w,g1,g2⟩:=ow.atI h3;refine⟨l,vs,n,w,el,o,SqL.of hl,g1,k w H1 R1 NoA (P.less fun _ z=>z.elim) ?_⟩;exact Ow.any0 _ (Ow.grow (fun a z=>z.imp id fun z=>z.elim (fun z=>False.elim z) Or.inr) _ (fun _ z=>z) g2)
end
def PE.imp{t t':TE}(h:PE X e t)(hi:∀σ H Q,t' σ H Q->t σ H Q):PE X e t':=fun ρ s σ H Q I hw=>h ρ s σ H Q I (hi _ _ _ hw)
def PT.imp{t:TT}(h:PT X e t)(hi:∀σ H Q,t' σ H Q->t σ H Q):PT X e t':=fun ρ s σ H Q I hw=>h ρ s σ H Q I (hi _ _ _ hw)
def PW.imp{t:TT}(h:PW X e t)(hi:∀σ H Q,t' σ H Q->t σ H Q):PW X e t':=fun wh ρ s σ H Q I hw=>h wh ρ s σ H Q I (hi _ _ _ hw)
def PA.imp{e:List Expr}{t t':TA}(h:PA X e t)(hi:∀σ H Q,t' σ H Q->t σ H Q):PA X e t':=fun pos ρ s σ H Q I hw=>h pos ρ s σ H Q I (hi _ _ _ hw)
def PS.imp{e:Stmt}{t t':TS}(h:PS X e t)(hi:∀D σ H,t' D σ H->t D σ H):PS X e t':=fun ρ s σ H D I hw=>h ρ s σ H D I (hi _ _ _ hw)
def PSs.imp{e:List Stmt}{t t':TS}(h:PSs X e t)(hi:∀D σ H,t' D σ H->t D σ H):PSs X e t':=fun ρ s σ H D I hw=>h ρ s σ H D I (hi _ _ _ hw)
def PG.imp{t t':TG}(h:PG X e t)(hi:∀v σ H Q,t' v σ H Q->t v σ H Q):PG X e t':=fun ρ s σ H v u Q I r hw=>h ρ s σ H v u Q I r (hi _ _ _ _ hw)
def PGs.imp{e:List Expr}{t t':TGs}(h:PGs X e t)(hi:∀v σ H Q,t' v σ H Q->t v σ H Q):PGs X e t':=fun ρ s σ H v u Q I r hw=>h ρ s σ H v u Q I r (hi _ _ _ _ hw)
def PI.imp{t t':TI}(h:PI X tg e t)(hi:∀σ H R,t' σ H R->t σ H R):PI X tg e t':=fun ρ s σ H R I hw=>h ρ s σ H R I (hi _ _ _ hw)
def PTs.imp{e:List Expr}{t:TT}(h:PTs X e t)(hi:∀σ H Q,t' σ H Q->t σ H Q):PTs X e t':=fun ρ s σ H Q I hw=>h ρ s σ H Q I (hi _ _ _ hw)
def av:Expr->Bool
 |.Starred _ _=>false
 |_=>true
def aD(h:av e=true):starEach (e::es) env=(false,eval e env)::starEach es env:=by
 cases e<;>first|rfl|cases h
theorem cf{pos:Pos}{env:Env}:∀{es:List Expr},es.all av=true->(backTo pos (starEach es env)).any (·.1)=false
 |[],_=>rfl
 |e::es,h=>by
  rw[List.all_cons,zbk]at h;rw[aD h.1];show(false || (backTo pos (starEach es env)).any (·.1))=false;rw[cf h.2];rfl
section
variable{a c:Expr}{m:MT}    
def KO(hN:X.N[i]?=some x)(hv:Vis X.env.scope x)(h0:ds[i]?=some 0)(hd:(x==("__debug__":Str))=false)(hcd:(x==("__classdict__":Str))=false):PE X (.Name x pos) (tF K p ds ds 0 (ae i)):=
 (gk hN hv hd hcd).imp fun _ _ _ h=>Mm h0 (jQ (fun _=>rfl) h)
def K6{n:Int}{j}:PE X (.Constant (.int n) j pos) (tF K p ds ds 3 (eC (.int n))):=pe_int.imp fun _ _ _ h=>f_c (t:=.int n) (fun _ _ _ _=>rfl) (jQ (fun _=>rfl) h)
def Ml{n:Bool}{j}:PE X (.Constant (.bool n) j pos) (tF K p ds ds 3 (eC (.bool n))):=pe_bl.imp fun _ _ _ h=>f_c (t:=.bool n) (fun _ _ _ _=>rfl) (jQ (fun _=>rfl) h)
def KW{j}:PE X (.Constant .none j pos) (tF K p ds ds 3 (eC .none)):=pe_non.imp fun _ _ _ h=>f_c (t:=.none) (fun _ _ _ _=>rfl) (jQ (fun _=>rfl) h)
def KR{n:Str}{j}:PE X (.Constant (.str n) j pos) (tF K p ds ds 3 (eC (.str n))):=pe_str.imp fun _ _ _ h=>f_c (t:=.str n) (fun _ _ _ _=>rfl) (jQ (fun _=>rfl) h)
def Bs{n:Int}{t:Tok}(hg:Gl X x)(hm:X.mg x=some (.int n t))(hd:(x==("__debug__":Str))=false):PE X (.Name x pos) (tF K p ds ds 3 (eC (.int n))):=
 (nK (v:=.int n) hg hm ⟨t,rfl⟩ hd).imp fun _ _ _ h=>f_c (t:=.int n) (fun _ _ _ _=>rfl) (jQ (fun _=>rfl) h)
def Br{n:Str}{t:Tok}(hg:Gl X x)(hm:X.mg x=some (.str n t))(hd:(x==("__debug__":Str))=false):PE X (.Name x pos) (tF K p ds ds 3 (eC (.str n))):=
 (nK (v:=.str n) hg hm ⟨t,rfl⟩ hd).imp fun _ _ _ h=>f_c (t:=.str n) (fun _ _ _ _=>rfl) (jQ (fun _=>rfl) h)
def KQ(h:PE X e (tF K p ds ds' d f))(hd:Le4 d' d):PE X e (tF K p ds ds' d' f):=h.imp fun _ _ _=>Mo hd
def Mj(h:PE X e (tF K p ds0 ds' d f))(hd:leD ds0 ds=true):PE X e (tF K false ds ds' d f):=h.imp fun _ _ _=>M3 hd
def K9(h:PE X e (tF K true ds0 ds0 3 f))(hd:leD ds0 ds=true):PE X e (tF K p ds ds 3 f):=h.imp fun _ _ _ h=>EG hd (jQ (fun _=>rfl) h)
def Mg{op:Operator}(ho:OpR X (binaryOp op) (rF2 K g d))(ha:PE X a (tF K p ds ds1 d1 f1))(hb:PE X b (tF K p ds1 ds2 d2 f2)):PE X (.BinOp a op b pos) (tF K p ds ds2 d (e2 g f1 f2)):=
 (LP ho ha hb).imp fun _ _ _ h=>tw (by rw[zbi];exact h)
def Md{op:UnaryOp}{g:D->Option D}(ho:UnR X (unaryOp op) (rF1 K g d))(ha:PE X a (tF K p ds ds1 d1 f1)):PE X (.UnaryOp op a pos) (tF K p ds ds1 d (e1 g f1)):=
 (LN ho ha).imp fun _ _ _=>Mp
def K8(ho:OpR X (compareOp op) (rF2 K g d))(ha:PE X a (tF K p ds ds1 d1 f1))(hb:PE X b (tF K p ds1 ds2 d2 f2))(hm:behindInMarks op b=false):PE X (.Compare a [op] [b] pos) (tF K p ds ds2 d (e2 g f1 f2)):=
 (Fo ho ha hb hm).imp fun _ _ _ h=>tw (by rw[zbi];exact h)
def FQ(ho:OpR X (compareOp op) (rF2 K g d))(ha:PE X a (tF K p ds ds1 d1 f1))(hb:PE X b (tF K p ds1 ds2 d2 f2))(hm:behindInMarks op b=false):PT X (.Compare a [op] [b] pos) (tFT K p ds ds2 (tV (e2 g f1 f2))):=
 (E6 ho ha hb hm).imp fun σ H Q h=>by
  obtain⟨Ox,en,R,t,en',e,hf,k⟩:=uN (d:=d) h;exact tw (by rw[zbi];exact⟨Ox,en,R,t,en',e,hf,k⟩)
def FO(h:PE X e (tF K p ds ds' d f))(he:∀χ,isTrue e X.env χ=(do let v <-χ;standAt e.pos;holding [v] (truthy v))):PT X e (tFT K p ds ds' (tV f)):=(JB h he).imp fun _ _ _=>uN
def FK(ha:PT X a (tFT K p ds ds1 c1)):PW X (.BoolOp .And [a] pos) (tFT K p ds ds1 c1):=E4 ha
def Kq(ha:PT X a (tFT K p ds ds1 c1)):PW X (.BoolOp .Or [a] pos) (tFT K p ds ds1 c1):=Jy ha
def Kr{rest:List Expr}(ha:PT X a (tFT K p ds ds1 c1))(hb:PW X (.BoolOp .And (b::rest) pos) (tFT K p ds1 ds1 c2)):PW X (.BoolOp .And (a::b::rest) pos) (tFT K p ds ds1 (iz c1 c2)):=(Jz ha hb).imp fun _ _ _ h=>Ku (by rw[zbi];exact h)
def L8{rest:List Expr}(ha:PT X a (tFT K p ds ds1 c1))(hb:PW X (.BoolOp .Or (b::rest) pos) (tFT K p ds1 ds1 c2)):PW X (.BoolOp .Or (a::b::rest) pos) (tFT K p ds ds1 (bOr c1 c2)):=(LM ha hb).imp fun _ _ _ h=>L9 (by rw[zbi];exact h)
def FP(ha:PT X a (tFT K p ds ds1 c1)):PT X (.UnaryOp .Not a pos) (tFT K p ds ds1 (bE c1)):=(JC ha).imp fun _ _ _=>Ks
def FR(h:PT X e (tFT K true ds0 ds0 c1))(hd:leD ds0 ds=true):PT X e (tFT K p ds ds c1):=h.imp fun _ _ _ ⟨Ox,en,R,t,en',e,hf,k⟩=>Kt hd ⟨Ox,en,R,t,en',e,hf,fun H' R' P=>k H' R' ⟨P.env,P.fx,P.keep,P.own,P.dom,fun _=>P.pure rfl⟩⟩
def KS{op}(h:PE X a (tF K p ds ds1 d f)):PE X (.BoolOp op [a] pos) (tF K p ds ds1 d f):=JH h
def Ld{rest:List Expr}(ha:PE X a (tF K p ds ds1 d1 f1))(hb:PE X (.BoolOp .And (b::rest) pos) (tF K p ds1 ds1 d f2)):PE X (.BoolOp .And (a::b::rest) pos) (tF K p ds ds1 d (iu f1 f2)):=(JL ha hb).imp fun _ _ _ h=>Mx (by rw[zbi];exact h)
def Mf{rest:List Expr}(ha:PE X a (tF K p ds ds1 d1 f1))(hb:PE X (.BoolOp .Or (b::rest) pos) (tF K p ds1 ds1 d f2)):PE X (.BoolOp .Or (a::b::rest) pos) (tF K p ds ds1 d (eOr f1 f2)):=(LO ha hb).imp fun _ _ _ h=>M2 (by rw[zbi];exact h)
def KU(ha:PE X a (tF K p ds ds1 d1 f)):PE X (.UnaryOp .Not a pos) (tF K p ds ds1 3 (pk f)):=(JI ha).imp fun _ _ _=>Mq
def GF:PA X [] (tFA K p ds ds [] af):=pa_nil.imp fun _ _ _ ⟨Ox,en,R,t,en',e,hf,k⟩=>Le ⟨Ox,en,R,t,en',e,hf,fun vs H' R' F P=>k vs H' R' F ⟨P.env,P.fx,P.keep,P.own,P.dom,fun _=>P.pure rfl⟩⟩
def By(ha:PE X e (tF K p ds ds1 d f))(hr:PA X es (tFA K p ds1 ds2 sh fa))(hs:av e=true):PA X (e::es) (tFA K p ds ds2 (.inl d::sh) (ac f fa)):=(ba ha hr (aD hs)).imp fun _ _ _ h=>GG (by rw[zbi];exact h)
def Bx(hN:X.N[i]?=some x)(hv:Vis X.env.scope x)(hr:PA X es (tFA K p ds ds2 sh fa))(hd:(x==("__debug__":Str))=false)(hcd:(x==("__classdict__":Str))=false):
  PA X (.Name x pos::es) (tFA K p ds ds2 (.inr i::sh) (aL i fa)):=(ba (gk hN hv hd hcd) hr (aD rfl)).imp fun _ _ _=>GE
def KZ{c:Nat}(h:PA X es (tFA K p ds ds1 sh fa))(hs:b9 c sh=true)(hd:dn d=c)(hz:d≠0):PE X (.List es pos) (tF K p ds ds1 d (aZ fa)):=(JJ h).imp fun _ _ _=>Mr hs hd hz
def KP{c:Nat}{x1}(h:PA X es (tFA K p ds ds1 sh fa))(hs:b9 c sh=true)(hd:dn d=c):PE X (.Tuple es x1 pos) (tF K p ds ds1 d (gO fa)):=(ua h).imp fun _ _ _=>Mn hs hd
def Bw{id:String}{g:List D->Option D}(hc:CallR X (.builtin id) (rFn K g d))(hg:Gl X x)(hm:X.mg x=none)(hv:bootBuiltins x=some (.builtin id))(ha:PA X (e::es) (tFA K p ds ds1 sh fa))(hsh:b9 0 sh=true)(hn:x≠"__name__")(hdb:(x==("__debug__":Str))=false)
  (he:av e=true) (hpl:es.all av=true):PE X (.Call (.Name x px) (e::es) [] pos) (tF K p ds ds1 d (eN g fa)):=
 (fN hc hg hm hv ha hn hdb (aD he) (cf hpl)).imp fun _ _ _=>zQ hsh
def zM{g:List D->Option D}(hc:CallR X (.type T) (rFn K g d))(hg:Gl X x)(hm:X.mg x=none)(hv:bootBuiltins x=some (.type T))(ha:PA X (e::es) (tFA K p ds ds1 sh fa))(hsh:b9 0 sh=true)(hn:x≠"__name__")(hdb:(x==("__debug__":Str))=false)
  (he:av e=true) (hpl:es.all av=true):PE X (.Call (.Name x px) (e::es) [] pos) (tF K p ds ds1 d (eN g fa)):=
 (mz hc hg hm hv ha hn hdb (aD he) (cf hpl)).imp fun _ _ _=>zQ hsh
def Mk{F:List D->Option (D×En)}(G:Kn X.prog X.w X.K X.mg X.base k x ps (spF K dps dr F))(hr:Room k X.A)(hg:Gl X x)(ha:PA X (e::es) (tFA K p ds ds1 sh fa))(hns:gl sh=true)(hcd:cO ds1 sh dps=true)(hdb:(x==("__debug__":Str))=false)
  (he:av e=true) (hpl:es.all av=true):
  PE X (.Call (.Name x px) (e::es) [] pos) (tF K p ds ds1 dr (aq F fa)):=(El G hr hg ha hdb (aD he) (cf hpl)).imp fun _ _ _ h=>Bz hcd (by rw[hns,zbQ];exact h)
def K7{F:List D->Option (D×En)}(G:Kn X.prog X.w X.K X.mg X.base k x ps (spF K dps dr F))(hr:Room k X.A)(hg:Gl X x)(ha:PA X (e::es) (tFA K false ds ds1 sh fa))(hcd:cO ds1 sh dps=true)(hdb:(x==("__debug__":Str))=false)
  (he:av e=true) (hpl:es.all av=true):
  PE X (.Call (.Name x px) (e::es) [] pos) (tF K false ds ds1 dr (aq F fa)):=(El G hr hg ha hdb (aD he) (cf hpl)).imp fun _ _ _ h=>Bz hcd h
def Mi(ho:IxR X (rF2 K g d))(ha:PE X a (tF K p ds ds1 d1 f1))(hb:PE X b (tF K p ds1 ds2 d2 f2))(hs:kJ b):PE X (.Subscript a b pos) (tF K p ds ds2 d (e2 g f1 f2)):=
 (Ek ho ha hb hs).imp fun _ _ _ h=>tw (by rw[zbi];exact h)
def K1(hK:X.K=K)(hN:X.N[i]?=some x)(hv:Vis X.env.scope x)(h1:ds1[i]?=some 1)(hb:PE X b (tF K p ds ds1 d1 f))(hs:kJ b)(hd:(x==("__debug__":Str))=false)(hcd:(x==("__classdict__":Str))=false):
  PE X (.Subscript (.Name x px) b pos) (tF K p ds ds1 0 (gt i f)):=(Ek (MZ hK) (gk hN hv hd hcd) hb hs).imp fun _ _ _=>Mt h1
def Lc{c:Nat}(hK:X.K=K)(hN:X.N[i]?=some x)(hv:Vis X.env.scope x)(h1:ds1[i]?=some d)(he:PE X e (tF K false ds ds1 c f))(hz:d≠0)(hc:dn d=c)
  (hd:(x==("__debug__":Str))=false) (hcd:(x==("__classdict__":Str))=false)
  (η:attributeBase (.Name x px) "append" X.env (eval (.Name x px) X.env)=eval (.Name x px) X.env)
  (hfew:((backTo ω (starEach [e] X.env)).all (fun x=>!x.1)&&(backToKw ω (keywordEach [] X.env)).all (fun x=>x.1.isSome)&&decide (([e]:List Expr).length+([]:List Keyword).length+(if([]:List Keyword).isEmpty then 0 else 1)<30))=true)
  (θ:(μ.endLine==ω.line)=true) (hs:starEach [e] X.env=[(false,eval e X.env)]) (ι:(backTo ω (starEach [] X.env)).any (·.1)=false):
  PE X (.Call (.Attribute (.Name x px) "append" μ) [e] [] ω) (tF K false ds ds1 3 (ft i f)):=by
 subst hK;exact(pT PySem.F.plainAttrs_list PySem.F.slot_list_append PySem.F.type_list_append mF (gk hN hv hd hcd) (ba he pa_nil hs) η hfew θ hs ι).imp fun _ _ _=>Mw h1 hz hc
def Bn{c:Nat}(hK:X.K=K)(hN:X.N[i]?=some x)(hv:Vis X.env.scope x)(h1:ds1[i]?=some d)(he:PE X e (tF K false ds ds1 d1 f))(hz:d≠0)(hc:dn d=c)
  (hd:(x==("__debug__":Str))=false) (hcd:(x==("__classdict__":Str))=false)
  (η:attributeBase (.Name x px) "pop" X.env (eval (.Name x px) X.env)=eval (.Name x px) X.env)
  (hfew:((backTo ω (starEach [e] X.env)).all (fun x=>!x.1)&&(backToKw ω (keywordEach [] X.env)).all (fun x=>x.1.isSome)&&decide (([e]:List Expr).length+([]:List Keyword).length+(if([]:List Keyword).isEmpty then 0 else 1)<30))=true)
  (θ:(μ.endLine==ω.line)=true) (hs:starEach [e] X.env=[(false,eval e X.env)]) (ι:(backTo ω (starEach [] X.env)).any (·.1)=false):
  PE X (.Call (.Attribute (.Name x px) "pop" μ) [e] [] ω) (tF K false ds ds1 c (ie i f)):=by
 subst hK;exact(pT PySem.F.plainAttrs_list PySem.F.slot_list_pop PySem.F.type_list_pop AM (gk hN hv hd hcd) (ba he pa_nil hs) η hfew θ hs ι).imp fun _ _ _=>GH h1 hz hc
def cY:MT:=fun en=>some (true,en)
def FN:PTs X [] (tFT K p ds ds cY):=pts_nil.imp fun σ H Q ⟨Ox,en,R,b,en',e,hf,k⟩=>by
 cases hf;exact k H R (Post.refl e)
def FM(hc:PT X c (tFT K p ds ds1 c1)):PTs X [c] (tFT K p ds ds1 c1):=E5 hc
def Mh{g:MG}(B:BlkOkC X scope ns js)(hc:X.calm=true)(hi:PI X tg iter (tFI K p ds ds1 fi))
  (hg:∀C cl s₀ H₀ fp,PG (au X scope ns C cl s₀ H₀ fp) tg (tFG K lk dsi dsi g)) (ht:∀C cl s₀ H₀ fp,PTs (au X scope ns C cl s₀ H₀ fp) ifs (tFT K true dsi dsi c1)) (he:∀C cl s₀ H₀ fp,PE (au X scope ns C cl s₀ H₀ fp) elt (tF K true dsi dsi cd f))
  (hcap:eh ds1 js dsi=true) (hd:dn d=cd) (hz:d≠0) (hlk:lk=fT js 0)
  (hs:∀x,foldedSetIterable iter X.env x=pure x):PE X (.ListComp elt [⟨tg,iter,ifs,0⟩] scope pos) (tF K p ds ds1 d (eLC true fi g c1 f js)):=
 (yH B hc hi hg ht he hs).imp fun _ _ _ h=>xK hcap hd hz hlk (by rw[zbQ];exact h)
def K0{g:MG}(B:BlkOkC X scope ns js)(hc:X.calm=true)(hi:PI X tg iter (tFI K false ds ds1 fi))
  (hg:∀C cl s₀ H₀ fp,PG (au X scope ns C cl s₀ H₀ fp) tg (tFG K lk dsi dsi g)) (ht:∀C cl s₀ H₀ fp,PTs (au X scope ns C cl s₀ H₀ fp) ifs (tFT K false dsi dsi c1)) (he:∀C cl s₀ H₀ fp,PE (au X scope ns C cl s₀ H₀ fp) elt (tF K false dsi dsi cd f))
  (hcap:eh ds1 js dsi=true) (hd:dn d=cd) (hz:d≠0) (hlk:lk=fT js 0)
  (hs:∀x,foldedSetIterable iter X.env x=pure x):PE X (.ListComp elt [⟨tg,iter,ifs,0⟩] scope pos) (tF K false ds ds1 d (eLC false fi g c1 f js)):=
 (yH B hc hi hg ht he hs).imp fun _ _ _ h=>xK hcap hd hz hlk h
end
def Nr(f:ME)(g:MG):MS:=fun en=>(f en).bind fun r=>(g r.1 r.2).map .nx
section
variable{a c:Expr}{rest body xM:List Stmt}{m1:MS}{g:MG}{gs:List D->En->Option En} 
def FX:PSs X [] (tFS K J ds ds bc):=pss_nil.imp fun _ _ _=>Ky
def A8(h1:PS X st (tFS K J ds ds1 m1))(h2:PSs X rest (tFS K J ds1 ds2 m2)):PSs X (st::rest) (tFS K J ds ds2 (al m1 m2)):=(oY h1 h2).imp fun _ _ _=>Kw
def FW(h1:PS X st (tFS K J ds ds1 m1)):PSs X [st] (tFS K J ds ds1 m1):=E7 h1
def Gb(he:PE X e (tF K false ds ds1 d f))(hs:swapsWith e none pos.line X.env=pure false):PS X (.Expr e pos) (tFS K J ds ds1 (eg f)):=(v9 he hs).imp fun _ _ _=>KA
def F9(he:PE X e (tF K false ds ds1 J.dr f))(hd:leD J.dsr ds1=true):PS X (.Return (some e) pos) (tFS K J ds ds' (aB f)):=(JE he).imp fun _ _ _=>Kx hd
def zy:PS X st (tFS K J ds ds' eG):=ps_never.imp fun _ _ _=>Ba
def KB(hc:PT X c (tFT K false ds ds1 c1))(ha:PSs X body (tFS K J ds1 ds2 m1))(hb:PSs X xM (tFS K J ds1 ds2 m2)):PS X (.If c body xM pos) (tFS K J ds ds2 (sIf c1 m1 m2)):=(Ej hc ha hb).imp fun _ _ _=>Ma
def F8(hN:X.N.Nodup)(hi:X.N[i]?=some x)(hx:Loc X.env.scope x)(he:PE X e (tF K false ds ds1 d f))(hds:ds1.set i d=ds')(hl:i<ds1.length)(hk:i∉J.lk)
  (hs:swapsWith e (some (.Name x pos')) pos.line X.env=pure false) (hf:X.fn x=true\/X.env.scope.names.lookup x=some .local):
  PS X (.Assign [.Name x pos'] e pos) (tFS K J ds ds' (ao i f)):=by
 subst hds;exact(JD hN hi hx he hs hf).imp fun _ _ _=>uO hl hk
def zw(hN:X.N.Nodup)(hi':X.N[i]?=some x)(hx:X.env.scope.names.lookup x=some .local)(B:BlkOkC X scope ns js)(hc:X.calm=true)(hi:PI X tg iter (tFI K false ds ds1 fi))
  (hg:∀C cl s₀ H₀ fp,PG (au X scope ns C cl s₀ H₀ fp) tg (tFG K lk dsi dsi g)) (ht:∀C cl s₀ H₀ fp,PTs (au X scope ns C cl s₀ H₀ fp) ifs (tFT K q dsi dsi c1)) (he:∀C cl s₀ H₀ fp,PE (au X scope ns C cl s₀ H₀ fp) elt (tF K q dsi dsi cd f))
  (hds:ds1.set i d=ds') (hcap:eh ds1 js dsi=true) (hd:dn d=cd) (hz:d≠0) (hlk:lk=fT js 0) (hl:i<ds1.length) (hk:i∉J.lk)
  (hsw:swapsWith (.ListComp elt [⟨tg,iter,ifs,0⟩] scope pos) (some (.Name x pos')) ζ.line X.env=pure true)
  (hs:∀x,foldedSetIterable iter X.env x=pure x):PS X (.Assign [.Name x pos'] (.ListComp elt [⟨tg,iter,ifs,0⟩] scope pos) ζ) (tFS K J ds ds' (ao i (eLC q fi g c1 f js))):=by
 subst hds;exact(rT hN hi' hx B hc hi hg ht he hsw hs).imp fun D σ H h=>xK (p:=false) hcap hd hz hlk (uO (p:=false&&q) hl hk h)
def Bj(hN:X.N.Nodup)(hi:X.N[i]?=some x)(hx:Loc X.env.scope x)(hds:ds.set i 0=ds')(hl:i<ds.length)(hk:i∉lk)(hf:X.fn x=true\/X.env.scope.names.lookup x=some .local):
  PG X (.Name x pos) (tFG K lk ds ds' (gN i)):=by
 subst hds;exact(Fi hN hi hx hf).imp fun _ _ _ _=>Gu hl hk
def Bh:PGs X [] (ip K lk ds ds gs0):=pgs_nil.imp fun _ _ _ _=>Gr
def zG(h1:PG X e (tFG K lk ds ds1 g))(h2:PGs X es (ip K lk ds1 ds2 gs))(hs:(assignEach (e::es) X.env).map (·.2)=assign e X.env::(assignEach es X.env).map (·.2)):PGs X (e::es) (ip K lk ds ds2 (gsC g gs)):=(AG h1 h2 hs).imp fun _ _ _ _=>Bi
def FJ{g2:MG}:∀ts en,(∃en',gsC g1 (gsC g2 gs0) ts en=some en')->ts.length=2:=fun ts en ⟨en',h⟩=>by
 match ts,h with
 |[],h=>cases h
 |[_],h=>
  obtain⟨_,_,h⟩:=zaa.mp h;cases h
 |[_,_],_=>rfl
 |a::b::c::r,h=>
  obtain⟨_,_,h⟩:=zaa.mp h;obtain⟨_,_,h⟩:=zaa.mp h;cases h
def Gs(hK:X.K=K)(hc:X.calm=true)(h:PGs X es (ip K lk ds ds1 gs))(hl:∀ts en,(∃en',gs ts en=some en')->ts.length=n)(hn:(assignEach es X.env).length=n)(hst:(assignEach es X.env).findIdx? (·.1)=none):
  PG X (.Tuple es k pos) (tFG K lk ds ds1 (gT gs)):=by
 subst hK;exact(JG hc h hn hst).imp fun _ _ _ _=>KN hl
def Ga(hc:X.calm=true)(hi:PI X tg iter (tFI K false ds ds1 fi))(hg:PG X tg (tFG K J.lk ds1 ds2 g))(hb:PSs X body (tFS K { J with dsl:=ds1 } ds2 ds1 m))(hp:PassesOwn (model X.prog X.w) X.A X.env X.xe)
  (hs:∀x,foldedSetIterable iter X.env x=pure x):PS X (.For tg iter body [] pos) (tFS K J ds ds1 (gK fi g m)):=(JF hp hc hi hg hb hs).imp fun _ _ _=>Kz
def zv(hc:PT X c (tFT K false ds ds1 c1))(hb:PSs X body (tFS K { J with dsl:=ds } ds1 ds m))(hp:PassesOwn (model X.prog X.w) X.A X.env X.xe):PS X (.While c body [] pos) (tFS K J ds ds1 (c9 c1 m)):=(t9 hp hc hb).imp fun _ _ _=>A9
end
def Ed:D->Option (List D)
 |.list ts=>some ts
 |.tuple ts=>some ts
 |.str z=>some ((li z).map fun c=>.str (mk1 c))
 |_=>none
def bO(f:ME):MI:=fun en=>(f en).bind fun r=>(Ed r.1).map fun ts=>(ts,r.2)
section
variable{F:AS}
def gb(h1:∀a o,H0 a=some o->¬O a->H a=some o)(h2:∀a,O1 a->O a\/H0 a=none):Mv O O1 NoA H0 H:=⟨fun a o q z=>z.elim (h1 a o q) fun z=>z.elim,h2⟩
def yg(h:FzL K O H0 a vs)(ho:Ows K O H0 ts 0 vs NoA):mY K O H0 (Itl K a) ts:=fun i H O1 h1 h2 h3=>by
 have sq:=(h.mv (gb h1 h2)).sq;refine⟨fun t ht=>?_,fun hl=>⟨vs,sq,by rw[ho.len];omega⟩⟩;obtain⟨v,hv,ov⟩:=ho.get ht;refine⟨⟨vs,v,sq,hv⟩,fun x H1 ⟨e,y⟩=>?_⟩;subst e;have e2:=y vs sq;rw[hv]at e2;cases e2;exact⟨fun _ _ q=>q,Ow.mv (gb h1 h2) t (fun _ z=>z) ov⟩
def Aq(h:FzT K O H0 a vs)(ho:Ows K O H0 ts 0 vs NoA):mY K O H0 (Itt K a) ts:=fun i H O1 h1 h2 h3=>by
 have sq:=(h.mv (gb h1 h2)).sq;refine⟨fun t ht=>?_,fun hl=>⟨vs,sq,by rw[ho.len];omega⟩⟩;obtain⟨v,hv,ov⟩:=ho.get ht;refine⟨⟨vs,v,sq,hv⟩,fun x H1 ⟨e,y⟩=>?_⟩;subst e;have e2:=y vs sq;rw[hv]at e2;cases e2;exact⟨fun _ _ q=>q,Ow.mv (gb h1 h2) t (fun _ z=>z) ov⟩
def Ar:mY K O H0 (Its z) ((li z).map fun c=>.str (mk1 c)):=fun i H O1 h1 h2 h3=>by
 refine⟨fun t ht=>?_,fun hl=>?_⟩
 ·rw[zao]at ht;obtain⟨c,hc,e⟩:=zab.mp ht;have hi:i<z.cps.size:=by
   have:=(zah.mp hc).1;simpa[li]using this
  have hc':z.cps[i]?=some c:=by
   have:z.cps.toList[i]?=some c:=hc;simpa using this
  refine⟨hi,fun x H1 ⟨e1,c',e2,e3⟩=>?_⟩;subst e1 e e3;rw[hc']at e2;cases e2;exact⟨fun _ _ q=>q,rfl⟩
 ·have:z.cps.size=i:=by
   rw[zad]at hl;simpa[li]using hl
  show z.cps.size<=i;omega
def As{lo:Int}:mY K O H0 (Itr lo n) ((List.range n).map fun k=>.int (lo+(k:Nat))):=fun i H O1 h1 h2 h3=>by
 refine⟨fun t ht=>?_,fun hl=>?_⟩
 ·rw[zao]at ht;obtain⟨c,hc,e⟩:=zab.mp ht;have hi:=(zah.mp hc).1;rw[zbd]at hi;rw[List.getElem?_range hi]at hc;cases hc;refine⟨hi,fun x H1 ⟨e1,e2⟩=>?_⟩;subst e1 e e2;exact⟨fun _ _ q=>q,rfl⟩
 ·rw[zad,zbd]at hl;show n<=i;omega
def EH(ts:List D):List D:=ts.zipIdx.map fun p=>.tuple [.int (p.2:Nat),p.1]
end
def dP(fa:MA):MI:=fun en=>(fa en).bind fun r=>match r.1 with
 |[.inl (.int j)]=>if -(2 ^ 62)<=j/\j<2 ^ 62 then some ((List.range j.toNat).map fun k=>.int (0+(k:Nat)),r.2)else none
 |_=>none
def Nc(fa:MA):MI:=fun en=>(fa en).bind fun r=>match r.1 with
 |[.inl (.int i),.inl (.int j)]=>if -(2 ^ 62)<=i/\i<2 ^ 62/\-(2 ^ 62)<=j/\j<2 ^ 62 then some ((List.range (j-i).toNat).map fun k=>.int (i+(k:Nat)),r.2)else none
 |_=>none
def Nd(fa:MA):MI:=fun en=>(fa en).bind fun r=>match r.1 with
 |[.inl (.list ts)]=>some (EH ts,r.2)
 |[.inl (.tuple ts)]=>some (EH ts,r.2)
 |_=>none
section
variable{l:Expr}  
def KM(hK:X.K=K)(hl:PE X l (tF K p ds ds1 d f)):PI X tg l (tFI K p ds ds1 (bO f)):=by
 subst hK;intro ρ s σ H R I h;obtain⟨Ox,en,Rg,ts,en',e,hf,k⟩:=h;unfold bO at hf;obtain⟨⟨t,en1⟩,h1,hf⟩:=zaa.mp hf;obtain⟨ts',h2,hf⟩:=zab.mp hf;cases hf;refine thn (hl ρ s σ H (fun v H1=>∃R1,Post X.K p ds1 Ox σ H en Rg en1 H1 R1 NoA/\Ow X.K (Own R1 Ox) H1 t 0 v NoA) I ⟨Ox,en,Rg,t,en1,e,h1,fun v H1 R1 F P o=>⟨R1,P.less fun _ z=>z.elim,Ow.letgo P (fun _ z=>z) o⟩⟩) fun v s1 ⟨x,H1,I1,r1,R1,P,o⟩=>?_;cases t with
 |list ts0=>
  cases h2;obtain⟨a,vs,e1,⟨_,fz,ow⟩|⟨z,_⟩⟩:=o
  ·subst e1;cases r1;obtain⟨its,rv,pl,hz⟩:=I1.list fz.sq;refine wpAny_pyIter_list pl.isList ?_;refine⟨s1.heap.objs.size,[s1.heap.objs.size],_,_,H1,rfl,I1.kept (t':=s1.toks) fun b o e=>zaf _ e,yj a _,⟨_,zan _ rfl,rfl,rfl⟩,fun b hb=>?_,k _ H1 R1 P (yg fz ow)⟩;have e:b=s1.heap.objs.size:=by simpa using hb
   subst e;exact I1.fpOk (zav _) (I1.hok.fresh (zav _))
  ·exact absurd rfl z
 |tuple ts0=>
  cases h2;obtain⟨a,vs,e1,⟨_,fz,ow⟩|⟨z,_⟩⟩:=o
  ·subst e1;cases r1;obtain⟨its,rv,pl,hz⟩:=I1.tuple fz.sq;refine wpAny_pyIter_tuple (show s1.heap.IsTuple a its.toArray from pl) ?_;refine⟨s1.heap.objs.size,[s1.heap.objs.size],_,_,H1,rfl,I1.kept (t':=s1.toks) fun b o e=>zaf _ e,wL a _,⟨_,zan _ rfl,rfl,rfl⟩,fun b hb=>?_,k _ H1 R1 P (Aq fz ow)⟩;have e:b=s1.heap.objs.size:=by simpa using hb
   subst e;exact I1.fpOk (zav _) (I1.hok.fresh (zav _))
  ·exact absurd rfl z
 |str z=>
  cases h2;have e1:x=.str z:=o;subst e1;obtain⟨t,rfl⟩:=r1;have fin:∀(ty:String) (o:Obj),(ty="str_ascii_iterator"\/ty="str_iterator")->(s1.heap.push o).IsStrIter s1.heap.objs.size ty z t 0->PIE X ρ σ tg R (.ref s1.heap.objs.size) { s1 with heap:=s1.heap.push o }:=fun ty o hty st=>by
   refine⟨s1.heap.objs.size,[s1.heap.objs.size],_,_,H1,rfl,I1.kept (t':=s1.toks) fun b o e=>zaf _ e,At _ z t ty hty,st,fun b hb=>?_,k _ H1 R1 P Ar⟩;have e:b=s1.heap.objs.size:=by simpa using hb
   subst e;exact I1.fpOk (zav _) (I1.hok.fresh (zav _))
  cases ha:z.cps.all (·<128)
  ·exact wpAny_pyIter_wide ha (fin _ _ (.inr rfl) ⟨_,zan _ rfl,rfl,rfl⟩)
  ·exact wpAny_pyIter_ascii ha (fin _ _ (.inl rfl) ⟨_,zan _ rfl,rfl,rfl⟩)
 |_=>cases h2
def Gq{a:Expr}(hg:Gl X "range")(hm:X.mg "range"=none)(ha:PA X [a] (tFA K p ds ds1 sh fa))(hs:av a=true):PI X tg (.Call (.Name "range" px) [a] [] pos) (tFI K p ds ds1 (dP fa)):=
 (yG hg hm ha (aD hs)).imp fun σ H R ⟨Ox,en,Rg,ts,en',e,hf,k⟩=>by
  unfold dP at hf;obtain⟨⟨as,en1⟩,h1,hf⟩:=zaa.mp hf;refine⟨Ox,en,Rg,as,en1,e,h1,fun vs H1 R1 F P o=>?_⟩
  dsimp only at hf
  split at hf
  case h_2=>cases hf
  next j=>
  by_cases hj:-(2 ^ 62)<=j/\j<2 ^ 62
  case neg=>rw[if_neg hj]at hf;cases hf
  rw[if_pos hj]at hf;cases hf;obtain⟨v,r,d,dr,F1,F2,e1,e2,_,_,_,o1,o2⟩:=o;obtain⟨_,o2⟩:=o2;subst e1 o2;have ev:v=.int j:=o1;subst ev;exact⟨j,rfl,hj.1,hj.2,k _ H1 R1 (P.less fun _ z=>z.elim) As⟩
end
def NewTo.refl:NewTo H H NoA:=⟨fun _ _ q=>q,fun _ z=>z.elim⟩
def OpR.imp{fn:Value->Value->Sem Value}{r r':R2}(h:OpR X fn r)(hi:∀x y H Q,r' x y H Q->r x y H Q):OpR X fn r':=fun ρ s σ H x y v u Q I rx ry q=>h ρ s σ H x y v u Q I rx ry (hi _ _ _ _ q)
def OpR.or'{fn:Value->Value->Sem Value}{r r':R2}(h:OpR X fn r)(h':OpR X fn r'):OpR X fn (fun x y H Q=>r x y H Q\/r' x y H Q):=fun ρ s σ H x y v u Q I rx ry q=>q.elim (h ρ s σ H x y v u Q I rx ry) (h' ρ s σ H x y v u Q I rx ry)
def UnR.imp{fn:Value->Sem Value}{r r':V->Hp->VK->Prop}(h:UnR X fn r)(hi:∀x H Q,r' x H Q->r x H Q):UnR X fn r':=fun ρ s σ H x v Q I rx q=>h ρ s σ H x v Q I rx (hi _ _ _ q)
def CallR.imp{r:List V->Hp->VK->Prop}(h:CallR X fn r)(hi:∀x H Q,r' x H Q->r x H Q):CallR X fn r':=fun ρ s σ H x v Q I rx q=>h ρ s σ H x v Q I rx (hi _ _ _ q)
def CallR.or'{r:List V->Hp->VK->Prop}(h:CallR X fn r)(h':CallR X fn r'):CallR X fn (fun x H Q=>r x H Q\/r' x H Q):=fun ρ s σ H x v Q I rx q=>q.elim (h ρ s σ H x v Q I rx) (h' ρ s σ H x v Q I rx)
def IxR.imp{r r':R2}(h:IxR X r)(hi:∀x y H Q,r' x y H Q->r x y H Q):IxR X r':=fun value slice ρ s σ H x y v u Q I rx ry q=>h value slice ρ s σ H x y v u Q I rx ry (hi _ _ _ _ q)
section
variable{ws:List V}{x:V} 
def dR(hl:H l=none)(hd:∀a,O a->∃o,H a=some o)(h:Ows K O H ts 0 vs NoA):NewTo H (upd H l (.lst vs)) (fun b=>b=l)/\Ow K (U (fun b=>b=l) O) (upd H l (.lst vs)) (.list ts) 1 (.ref l) (fun b=>b=l):=by
 refine⟨bu hl,l,vs,rfl,.inr ⟨by decide,aC,rfl,NoA,fun _ z=>z.elim,?_⟩⟩;refine Ows.mv (G:=NoA) ⟨fun a o q _=>(bu (o:=.lst vs) hl).1 a o q,fun a z=>?_⟩ ts (fun _ z=>z) h;rcases z with z|z
 ·exact .inr (by rw[show a=l from z];exact hl)
 ·exact .inl z
def nM(hl:H l=none)(hd:∀a,O a->∃o,H a=some o)(h:Ows K O H ts 0 vs NoA):NewTo H (upd H l (.tup vs)) NoA/\Ow K (U NoA O) (upd H l (.tup vs)) (.tuple ts) 0 (.ref l) NoA:=by
 refine⟨⟨(bu hl).1,fun _ z=>z.elim⟩,l,vs,rfl,.inl ⟨rfl,⟨aC,fun z=>?_⟩,?_⟩⟩
 ·rcases z with z|z
  ·exact z
  ·obtain⟨o,q⟩:=hd l z;rw[hl]at q;cases q
 ·refine Ows.mv (G:=NoA) ⟨fun a o q _=>(bu (o:=.tup vs) hl).1 a o q,fun a z=>?_⟩ ts (fun _ z=>z) h;rcases z with z|z
  ·exact z.elim
  ·exact .inl z
theorem Ows.app:∀{ts:List D} {vs:List V},Ows K O H ts 0 vs NoA->Ows K O H us 0 ws NoA->Ows K O H (ts++us) 0 (vs++ws) NoA
 |[],_,h,h2=>by rw[show _=[]from h];exact h2
 |t::ts,_,h,h2=>by
  obtain⟨v,r,F1,F2,e,_,_,_,h4,h5⟩:=h;subst e;exact⟨v,r++ws,NoA,NoA,rfl,fun _ z=>z,fun _ z=>z,fun _ z=>z.elim,Ow.any0 t h4,Ows.app (Ows.any0 ts h5) h2⟩
theorem Ows.drop:∀{ts:List D} {vs:List V} (n:Nat),Ows K O H ts 0 vs NoA->Ows K O H (ts.drop n) 0 (vs.drop n) NoA
 |ts,vs,0,h=>h
 |[],_,n+1,h=>by rw[show _=[]from h];rfl
 |t::ts,_,n+1,h=>by
  obtain⟨v,r,F1,F2,e,_,_,_,h4,h5⟩:=h;subst e;exact Ows.drop n (Ows.any0 ts h5)
theorem Ows.take:∀{ts:List D} {vs:List V} (n:Nat),Ows K O H ts 0 vs NoA->Ows K O H (ts.take n) 0 (vs.take n) NoA
 |ts,vs,0,h=>rfl
 |[],_,n+1,h=>by rw[show _=[]from h];rfl
 |t::ts,_,n+1,h=>by
  obtain⟨v,r,F1,F2,e,_,_,_,h4,h5⟩:=h;subst e;exact⟨v,r.take n,NoA,NoA,rfl,fun _ z=>z,fun _ z=>z,fun _ z=>z.elim,Ow.any0 t h4,Ows.take n (Ows.any0 ts h5)⟩
def Ow.lst0(h:Ow K O H (.list ts) 0 v NoA):∃a vs,v=.ref a/\FzL K O H a vs/\Ows K O H ts 0 vs NoA:=by
 obtain⟨a,vs,e,⟨_,h1,h2⟩|⟨z,_⟩⟩:=h
 ·exact⟨a,vs,e,h1,h2⟩
 ·exact absurd rfl z
def Ow.tup0(h:Ow K O H (.tuple ts) 0 v NoA):∃a vs,v=.ref a/\FzT K O H a vs/\Ows K O H ts 0 vs NoA:=by
 obtain⟨a,vs,e,⟨_,h1,h2⟩|⟨z,_⟩⟩:=h
 ·exact⟨a,vs,e,h1,h2⟩
 ·exact absurd rfl z
def Ows.one(h:Ows K O H [t] 0 vs NoA):∃v,vs=[v]/\Ow K O H t 0 v NoA:=by
 obtain⟨v,r,F1,F2,e,_,_,_,h4,h5⟩:=h;rw[show r=[]from h5]at e;exact⟨v,e,Ow.any0 t h4⟩
def Ows.two(h:Ows K O H [t,t2] 0 vs NoA):∃v w,vs=[v,w]/\Ow K O H t 0 v NoA/\Ow K O H t2 0 w NoA:=by
 obtain⟨v,r,F1,F2,e,_,_,_,h4,h5⟩:=h;obtain⟨w,e2,h6⟩:=Ows.one (Ows.any0 [t2] h5);subst e2;exact⟨v,w,e,Ow.any0 t h4,h6⟩
def ar:D->D->Option D
 |.int a,.int b=>some (.int (a+b))
 |.str a,.str b=>if a.length+b.length<=sizeLine then some (.str (a++b))else none
 |_,_=>none
def am:OpR X (binaryOp .Add) (rF2 K ar 3):=(op_add.or' wY).imp fun x y H Q ⟨O,a,b,t,oa,ob,hd,hg,k⟩=>by
 cases a with
 |int i=>cases b with
  |int j=>cases hg;exact .inl ⟨i,j,oa,ob,k _ H NoA .refl rfl⟩
  |_=>cases hg
 |str i=>cases b with
  |str j=>
   dsimp only[ar]at hg
   by_cases hl:i.length+j.length<=sizeLine
   ·rw[if_pos hl]at hg;cases hg;exact .inr ⟨i,j,oa,ob,hl,k _ H NoA .refl rfl⟩
   ·rw[if_neg hl]at hg;cases hg
  |_=>cases hg
 |_=>cases hg
def jc(g:Int->Int->Option D):D->D->Option D
 |.int a,.int b=>g a b
 |_,_=>none
def dM{g:Int->Int->Option D}{a b:D}(h:jc g a b=some t):∃i j,a=.int i/\b=.int j/\g i j=some t:=by
 cases a with
 |int i=>cases b with
  |int j=>exact⟨i,j,rfl,rfl,h⟩
  |_=>cases h
 |_=>cases h
def jZ:D->D->Option D:=jc fun a b=>some (.int (a-b))
def mP:OpR X (binaryOp .Sub) (rF2 K jZ 3):=op_sub.imp fun x y H Q ⟨O,a,b,t,oa,ob,hd,hg,k⟩=>by
 obtain⟨i,j,rfl,rfl,h⟩:=dM hg;cases h;exact⟨i,j,oa,ob,k _ H NoA .refl rfl⟩
instance (i j:Int):Decidable (CMul i j):=by unfold CMul;exact inferInstance
instance (i j:Int):Decidable (jx i j):=by unfold jx;exact inferInstance
instance (i j:Int):Decidable (ko i j):=by unfold ko;exact inferInstance
def bS:D->D->Option D:=jc fun a b=>if CMul a b then some (.int (a*b))else none
def ia:OpR X (binaryOp .Mult) (rF2 K bS 3):=op_mul.imp fun x y H Q ⟨O,a,b,t,oa,ob,hd,hg,k⟩=>by
 obtain⟨i,j,rfl,rfl,h⟩:=dM hg;by_cases hc:CMul i j
 ·rw[if_pos hc]at h;cases h;exact⟨i,j,oa,ob,hc,k _ H NoA .refl rfl⟩
 ·rw[if_neg hc]at h;cases h
def eB:D->D->Option D:=jc fun a b=>if jx a b then some (.int (a / b))else none
def wu:OpR X (binaryOp .FloorDiv) (rF2 K eB 3):=op_fdiv.imp fun x y H Q ⟨O,a,b,t,oa,ob,hd,hg,k⟩=>by
 obtain⟨i,j,rfl,rfl,h⟩:=dM hg;by_cases hc:jx i j
 ·rw[if_pos hc]at h;cases h;exact⟨i,j,oa,ob,hc,k _ H NoA .refl rfl⟩
 ·rw[if_neg hc]at h;cases h
def bB:D->D->Option D:=jc fun a b=>if 0<b then some (.int (a % b))else none
def jd:OpR X (binaryOp .Mod) (rF2 K bB 3):=op_mod.imp fun x y H Q ⟨O,a,b,t,oa,ob,hd,hg,k⟩=>by
 obtain⟨i,j,rfl,rfl,h⟩:=dM hg;by_cases hc:0<j
 ·rw[if_pos hc]at h;cases h;exact⟨i,j,oa,ob,hc,k _ H NoA .refl rfl⟩
 ·rw[if_neg hc]at h;cases h
def qY:D->D->Option D:=jc fun a b=>if ko a b then some (.int (a ^ b.toNat))else none
def KD:OpR X (binaryOp .Pow) (rF2 K qY 3):=op_pow.imp fun x y H Q ⟨O,a,b,t,oa,ob,hd,hg,k⟩=>by
 obtain⟨i,j,rfl,rfl,h⟩:=dM hg;by_cases hc:ko i j
 ·rw[if_pos hc]at h;cases h;exact⟨i,j,oa,ob,hc,k _ H NoA .refl rfl⟩
 ·rw[if_neg hc]at h;cases h
def ltI:D->D->Option D:=jc fun a b=>some (.bool (decide (a<b)))
def leI:D->D->Option D:=jc fun a b=>some (.bool (decide (a<=b)))
def gtI:D->D->Option D:=jc fun a b=>some (.bool (decide (b<a)))
def geI:D->D->Option D:=jc fun a b=>some (.bool (decide (b<=a)))
def ED:OpR X (compareOp .Lt) (rF2 K ltI 3):=op_lt.imp fun x y H Q ⟨O,a,b,t,oa,ob,hd,hg,k⟩=>by
 obtain⟨i,j,rfl,rfl,h⟩:=dM hg;cases h;exact⟨i,j,oa,ob,k _ H NoA .refl rfl⟩
def nR:OpR X (compareOp .LtE) (rF2 K leI 3):=op_le.imp fun x y H Q ⟨O,a,b,t,oa,ob,hd,hg,k⟩=>by
 obtain⟨i,j,rfl,rfl,h⟩:=dM hg;cases h;exact⟨i,j,oa,ob,k _ H NoA .refl rfl⟩
def jO:OpR X (compareOp .Gt) (rF2 K gtI 3):=op_gt.imp fun x y H Q ⟨O,a,b,t,oa,ob,hd,hg,k⟩=>by
 obtain⟨i,j,rfl,rfl,h⟩:=dM hg;cases h;exact⟨i,j,oa,ob,k _ H NoA .refl rfl⟩
def Mc:OpR X (compareOp .GtE) (rF2 K geI 3):=op_ge.imp fun x y H Q ⟨O,a,b,t,oa,ob,hd,hg,k⟩=>by
 obtain⟨i,j,rfl,rfl,h⟩:=dM hg;cases h;exact⟨i,j,oa,ob,k _ H NoA .refl rfl⟩
def rz:D->Bool
 |.none=>true
 |_=>false
def A5{a:D}{F:AS}(h:Ow K O H a d x F):decide (x=.non)=rz a:=by
 cases a with
 |none=>rw[show x=.non from h];rfl
 |bool b=>rw[show x=.bl b from h];rfl
 |int b=>rw[show x=.int b from h];rfl
 |str b=>rw[show x=.str b from h];rfl
 |list ts=>obtain⟨a,vs,e,_⟩:=h;rw[e];rfl
 |tuple ts=>obtain⟨a,vs,e,_⟩:=h;rw[e];rfl
 |dict ts=>obtain⟨a,vs,e,_⟩:=h;rw[e];rfl
def isN:D->D->Option D
 |a,.none=>some (.bool (rz a))
 |_,_=>none
def Nu:D->D->Option D
 |a,.none=>some (.bool (!rz a))
 |_,_=>none
def KI:OpR X (compareOp .Is) (rF2 K isN 3):=op_isN.imp fun x y H Q ⟨O,a,b,t,oa,ob,hd,hg,k⟩=>by
 cases b with
 |none=>cases hg;exact⟨ob,by rw[A5 oa];exact k _ H NoA .refl rfl⟩
 |_=>cases hg
def xA:D->D->Option D
 |.str a,.str b=>some (.bool (ck b a))
 |_,_=>none
def ri:D->D->Option D
 |.str a,.str b=>some (.bool (!ck b a))
 |_,_=>none
def zC:OpR X (compareOp .In) (rF2 K xA 3):=op_inS.imp fun x y H Q ⟨O,a,b,t,oa,ob,hd,hg,k⟩=>by
 cases a with
 |str i=>cases b with
  |str j=>cases hg;exact⟨i,j,oa,ob,k _ H NoA .refl rfl⟩
  |_=>cases hg
 |_=>cases hg
def zB:OpR X (compareOp .NotIn) (rF2 K ri 3):=op_notInS.imp fun x y H Q ⟨O,a,b,t,oa,ob,hd,hg,k⟩=>by
 cases a with
 |str i=>cases b with
  |str j=>cases hg;exact⟨i,j,oa,ob,k _ H NoA .refl rfl⟩
  |_=>cases hg
 |_=>cases hg
def ixA:D->D->Option D
 |.list ts,.int n=>atI ts n
 |.tuple ts,.int n=>atI ts n
 |.str z,.int n=>if z.length<=sizeLine then(atI z.cps.toList n).map fun c=>.str (mk1 c)else none
 |_,_=>none
def qh(hK:X.K=K):IxR X (rF2 K ixA 0):=by
 subst hK;refine ix_seq.imp ?_;rintro x y H Q ⟨O,a,b,t,oa,ob,hd,hg,k⟩;cases b with
 |int n=>
  cases a with
  |list ts=>
   obtain⟨a,vs,e,fz,ow⟩:=oa.lst0;obtain⟨v,h1,h2⟩:=ow.atI hg;exact .inl ⟨a,vs,n,v,e,ob,fz.sq,h1,k v H NoA .refl (by rw[iA];exact h2)⟩
  |tuple ts=>
   obtain⟨a,vs,e,fz,ow⟩:=oa.tup0;obtain⟨v,h1,h2⟩:=ow.atI hg;exact .inr (.inl ⟨a,vs,n,v,e,ob,fz.sq,h1,k v H NoA .refl (by rw[iA];exact h2)⟩)
  |str z=>
   dsimp only[ixA]at hg
   by_cases hl:z.length<=sizeLine
   ·rw[if_pos hl]at hg;obtain⟨c,h1,h2⟩:=zab.mp hg;cases h2;exact .inr (.inr ⟨z,n,c,oa,ob,hl,h1,k _ H NoA .refl rfl⟩)
   ·rw[if_neg hl]at hg;cases hg
  |_=>cases hg
 |_=>cases a<;>cases hg
def ixT:D->D->Option D
 |.str z,.int n=>if z.length<=sizeLine then(atI z.cps.toList n).map fun c=>.str (mk1 c)else none
 |_,_=>none
def qg:IxR X (rF2 K ixT 3):=by
 refine ix_str.imp ?_;rintro x y H Q ⟨O,a,b,t,oa,ob,hd,hg,k⟩;cases a with
 |str z=>cases b with
  |int n=>
   dsimp only[ixT]at hg
   by_cases hl:z.length<=sizeLine
   ·rw[if_pos hl]at hg;obtain⟨c,h1,h2⟩:=zab.mp hg;cases h2;exact⟨z,n,c,oa,ob,hl,h1,k _ H NoA .refl rfl⟩
   ·rw[if_neg hl]at hg;cases hg
  |_=>cases hg
 |_=>cases hg
def fw:D->D->Option D
 |.list a,.list b=>if a.length+b.length<=sizeLine then some (.list (a++b))else none
 |_,_=>none
def Nz:D->D->Option D
 |.tuple a,.tuple b=>if a.length+b.length<=sizeLine then some (.tuple (a++b))else none
 |_,_=>none
end
def grd{α:Type}(c:Prop)[Decidable c](t:α):Option α:=if c then some t else none
def bD{α:Type}{c:Prop}[Decidable c]{t u:α}(h:grd c t=some u):c/\t=u:=by
 unfold grd at h;by_cases hc:c
 ·rw[if_pos hc]at h;exact⟨hc,zat h⟩
 ·rw[if_neg hc]at h;cases h
section
variable{ws:List V}{x:V} 
def LK(K:zbS):R2:=fun x y H Q=>∃l b xs zs,x=.ref l/\y=.ref b/\SqL K H l xs/\SqL K H b zs/\xs.length+zs.length<=sizeLine/\∀p,H p=none->Q (.ref p) (upd H p (.lst (xs++zs)))
def op_catL:OpR X (binaryOp .Add) (LK X.K):=by
 intro ρ s σ H x y v u Q I rx ry h;obtain⟨l,b,xs,zs,rfl,rfl,hH,hB,hz,q⟩:=h;cases rx;cases ry;obtain⟨its,r,⟨⟨c1,dd,da1,sl⟩,n,ho,hc,hdd,hda⟩,_⟩:=I.list hH;obtain⟨ν,r2,⟨⟨c2,dd2,da2,sl2⟩,n2,ho2,hc2,hdd2,hda2⟩,_⟩:=I.list hB;have hl:=r.length;have hl2:=r2.length;simp only at hc hda hc2 hda2;subst hc hda hc2 hda2;refine concat_meets ⟨_,ho,rfl⟩ ⟨_,ho2,rfl⟩ noFill_list_add seq_list_add PySem.F.slot_list_add PySem.F.entry_list_add (PySem.F.args_list_add_2 _ _) (list_addW l b its.toArray ν.toArray n n2 dd dd2 sl sl2 (by simp only[zai];omega)) ⟨ho,ho2,?_⟩;have ea:its.toArray++ν.toArray=(its++ν).toArray:=by simp
 rw[ea];exact⟨.ref _,_,I.lnew (t':=s.toks) (r.append r2) (by rw[zae];omega),rfl,q _ I.fresh⟩
def cy(hK:X.K=K):OpR X (binaryOp .Add) (rF2 K fw 1):=by
 subst hK;refine op_catL.imp ?_;rintro x y H Q ⟨O,a,b,t,oa,ob,hd,hg,k⟩;cases a with
 |list ts=>cases b with
  |list us=>
   dsimp only[fw]at hg
   by_cases hl:ts.length+us.length<=sizeLine
   case neg=>rw[if_neg hl]at hg;cases hg
   rw[if_pos hl]at hg;cases hg;obtain⟨a,vs,e1,f1,w1⟩:=oa.lst0;obtain⟨b,ws,e2,f2,w2⟩:=ob.lst0;refine⟨a,b,vs,ws,e1,e2,f1.sq,f2.sq,by rw[w1.len,w2.len];exact hl,fun p hp=>?_⟩;obtain⟨n1,n2⟩:=dR hp hd (w1.app w2);exact k _ _ _ n1 n2
  |_=>cases hg
 |_=>cases hg
def LF(K:zbS):R2:=fun x y H Q=>∃l k xs,x=.ref l/\y=.int k/\SqL K H l xs/\-(2 ^ 63)<=k/\k<2 ^ 63/\xs.length*k.toNat<=sizeLine/\∀p,H p=none->Q (.ref p) (upd H p (.lst (List.replicate k.toNat xs).flatten))
def op_repL:OpR X (binaryOp .Mult) (LF X.K):=by
 intro ρ s σ H x y v u Q I rx ry h;obtain⟨l,k,xs,rfl,rfl,hH,h1,h2,hz,q⟩:=h;cases rx;obtain⟨t,rfl⟩:=ry;obtain⟨its,r,⟨⟨c1,dd,da1,sl⟩,n,ho,hc,hdd,hda⟩,_⟩:=I.list hH;have hl:=r.length;simp only at hc hda;subst hc hda;have ξ:its.toArray.size*k.toNat<=sizeLine:=by rw[zai,<-hl];exact hz
 have hcap:¬its.toArray.size*k.toNat>(2 ^ 63-1) / 8:=by
  have:(sizeLine:Nat)<=(2 ^ 63-1) / 8:=by decide
  omega
 have hfit:¬(!Builtin.List.listFitsIndex k)=true:=by
  rw[fitsIndex_both h1 h2];exact zbl
 have hlong:¬Builtin.List.listTooLong (its.toArray.size*k.toNat)=true:=by
  rw[uh ξ];exact zbl
 refine wpAny_binaryOp_repeat_ref (T:="list") (U:="int") (by decide) ⟨_,ho,rfl⟩ (fun s'=>typeIs_int s' k t) noFill_list_mul F.fills_int_mul F.slot_int_rmul repeat_list F.slot_int_index.lookup
  (call_meets F.slot_int_rmul (typeIs_int s k t) F.entry_int_rmul (F.args_int_rmul_2 _ _) (lm_int_rmul_list_any k t l its.toArray n dd sl)
   ⟨ho,rfl,⟨_,ho,rfl⟩,call_meets F.slot_list_mul ⟨_,ho,rfl⟩ F.entry_list_mul (F.args_list_mul_2 _ _)
    (lm_list_mul_any l its.toArray n dd sl k t hfit hcap hlong) ⟨ho,?_⟩⟩)
 rw[listMul_foldl_if];exact⟨.ref _,_,I.lnew (t':=s.toks) (r.rep k.toNat) (by rw[Fy,Nat.mul_comm];exact hz),rfl,q _ I.fresh⟩
theorem Ows.rep(h:Ows K O H ts 0 vs NoA):∀n:Nat,Ows K O H (List.replicate n ts).flatten 0 (List.replicate n vs).flatten NoA
 |0=>rfl
 |n+1=>by
  rw[List.replicate_succ,List.replicate_succ,List.flatten_cons,List.flatten_cons];exact h.app (Ows.rep h n)
def mE:D->D->Option D
 |.list ts,.int k=>grd (-(2 ^ 63)<=k/\k<2 ^ 63/\ts.length*k.toNat<=sizeLine) (.list (List.replicate k.toNat ts).flatten)
 |_,_=>none
def rC(hK:X.K=K):OpR X (binaryOp .Mult) (rF2 K mE 1):=by
 subst hK;refine op_repL.imp ?_;rintro x y H Q ⟨O,a,b,t,oa,ob,hd,hg,k⟩;cases a with
 |list ts=>cases b with
  |int n=>
   obtain⟨⟨c1,c2,c3⟩,rfl⟩:=bD hg;obtain⟨a,vs,e1,f1,w1⟩:=oa.lst0;refine⟨a,n,vs,e1,ob,f1.sq,c1,c2,by rw[w1.len];exact c3,fun p hp=>?_⟩;obtain⟨n1,n2⟩:=dR hp hd (w1.rep n.toNat);exact k _ _ _ n1 n2
  |_=>cases hg
 |_=>cases hg
def uk:D->D->Option D
 |.str z,.int k=>grd (z.length<=4000/\-(2 ^ 63)<=k/\k<=4000) (.str (Txt.mul z k))
 |_,_=>none
def rB:OpR X (binaryOp .Mult) (rF2 K uk 3):=op_mulS.imp fun x y H Q ⟨O,a,b,t,oa,ob,hd,hg,k⟩=>by
 cases a with
 |str z=>cases b with
  |int n=>
   obtain⟨⟨c1,c2,c3⟩,rfl⟩:=bD hg;exact⟨z,n,oa,ob,c1,c2,c3,k _ H NoA .refl rfl⟩
  |_=>cases hg
 |_=>cases hg
def AL:D->Option D
 |.int i=>some (.int (-i))
 |_=>none
def KG:UnR X (unaryOp .USub) (rF1 K AL 3):=un_neg.imp fun x H Q ⟨O,a,t,oa,hd,hg,k⟩=>by
 cases a with
 |int i=>cases hg;exact⟨i,oa,k _ H NoA .refl rfl⟩
 |_=>cases hg
def aQ:List D->Option D
 |[.list ts]=>some (.int ts.length)
 |[.tuple ts]=>some (.int ts.length)
 |[.str z]=>grd (z.length<=sizeLine) (.int z.length)
 |_=>none
def KH(hK:X.K=K):CallR X (.builtin "len") (rFn K aQ 3):=(MY hK).imp fun xs H Q ⟨O,as,t,oa,hd,hg,k⟩=>by
 match as,hg with
 |[.list ts],hg=>
  cases hg;obtain⟨v,rfl,o⟩:=oa.one;obtain⟨a,vs,rfl,fz,w⟩:=o.lst0;exact⟨_,_,rfl,.inl ⟨vs,fz.sq,rfl⟩,by rw[w.len];exact k _ H NoA .refl rfl⟩
 |[.tuple ts],hg=>
  cases hg;obtain⟨v,rfl,o⟩:=oa.one;obtain⟨a,vs,rfl,fz,w⟩:=o.tup0;exact⟨_,_,rfl,.inr ⟨vs,fz.sq,rfl⟩,by rw[w.len];exact k _ H NoA .refl rfl⟩
 |[.str z],hg=>
  obtain⟨c,rfl⟩:=bD hg;obtain⟨v,rfl,o⟩:=oa.one;exact⟨_,_,rfl,by rw[show v=.str z from o];exact⟨c,rfl⟩,k _ H NoA .refl rfl⟩
def lK:List D->Option D
 |[.int i]=>some (.int (if i<0 then -i else i))
 |_=>none
def zE:CallR X (.builtin "abs") (rFn K lK 3):=call_abs.imp fun xs H Q ⟨O,as,t,oa,hd,hg,k⟩=>by
 match as,hg with
 |[.int i],hg=>
  cases hg;obtain⟨v,rfl,o⟩:=oa.one;exact⟨i,by rw[show v=.int i from o],k _ H NoA .refl rfl⟩
def xg:List D->Option D
 |[.int i,.int j]=>some (.int (if j>i then j else i))
 |_=>none
def xf:List D->Option D
 |[.int i,.int j]=>some (.int (if j<i then j else i))
 |_=>none
def Gi(hc:X.calm=true):CallR X (.builtin "max") (rFn K xg 3):=(Af hc).imp fun xs H Q ⟨O,as,t,oa,hd,hg,k⟩=>by
 match as,hg with
 |[.int i,.int j],hg=>
  cases hg;obtain⟨v,w,rfl,o,o2⟩:=oa.two;exact⟨i,j,by rw[show v=.int i from o,show w=.int j from o2],k _ H NoA .refl rfl⟩
def Gh(hc:X.calm=true):CallR X (.builtin "min") (rFn K xf 3):=(Ae hc).imp fun xs H Q ⟨O,as,t,oa,hd,hg,k⟩=>by
 match as,hg with
 |[.int i,.int j],hg=>
  cases hg;obtain⟨v,w,rfl,o,o2⟩:=oa.two;exact⟨i,j,by rw[show v=.int i from o,show w=.int j from o2],k _ H NoA .refl rfl⟩
def Nw:List D->Option D
 |[.int i]=>some (.int i)
 |[.bool b]=>some (.int (if b then 1 else 0))
 |_=>none
def dH(z:Str):List D:=(li z).map fun c=>.str (mk1 c)
def ub:Ows K O H (dH z) 0 (eT z) NoA:=by
 unfold dH eT;show Ows K O H ((li z).map fun c=>.str (mk1 c)) 0 ((li z).map sgn) NoA;generalize li z=l
 induction l with
 |nil=>rfl
 |cons c r ih=>exact⟨sgn c,r.map sgn,NoA,NoA,rfl,fun _ z=>z,fun _ z=>z,fun _ z=>z.elim,rfl,ih⟩
def iQ:List D->Option D
 |[.list ts]=>some (.list ts)
 |[.tuple ts]=>some (.list ts)
 |[.str z]=>grd (z.cps.size<=sizeLine) (.list (dH z))
 |_=>none
def nQ(hK:X.K=K)(hc:X.calm=true):CallR X (.type "list") (rFn K iQ 1):=((FE hK).or' (rJ hc)).imp fun xs H Q ⟨O,as,t,oa,hd,hg,k⟩=>by
 match as,hg with
 |[.list ts],hg=>
  cases hg;obtain⟨v,rfl,o⟩:=oa.one;obtain⟨a,vs,rfl,fz,w⟩:=o.lst0;exact .inl ⟨a,vs,rfl,.inl fz.sq,fun l hl=>k _ _ _ (dR hl hd w).1 (dR hl hd w).2⟩
 |[.tuple ts],hg=>
  cases hg;obtain⟨v,rfl,o⟩:=oa.one;obtain⟨a,vs,rfl,fz,w⟩:=o.tup0;exact .inl ⟨a,vs,rfl,.inr fz.sq,fun l hl=>k _ _ _ (dR hl hd w).1 (dR hl hd w).2⟩
 |[.str z],hg=>
  obtain⟨c,rfl⟩:=bD hg;obtain⟨v,rfl,o⟩:=oa.one;exact .inr ⟨z,by rw[show v=.str z from o],c,fun l hl=>k _ _ _ (dR (K:=K) hl hd ub).1 (dR hl hd ub).2⟩
def io:List D->Option D
 |[.list ts]=>some (.tuple ts)
 |[.tuple ts]=>some (.tuple ts)
 |_=>none
def eK(hK:X.K=K):CallR X (.type "tuple") (rFn K io 0):=(J5 hK).imp fun xs H Q ⟨O,as,t,oa,hd,hg,k⟩=>by
 match as,hg with
 |[.list ts],hg=>
  cases hg;obtain⟨v,rfl,o⟩:=oa.one;obtain⟨a,vs,rfl,fz,w⟩:=o.lst0;exact⟨a,vs,rfl,.inl ⟨fz.sq,fun l hl=>k _ _ _ (nM hl hd w).1 (nM hl hd w).2⟩⟩
 |[.tuple ts],hg=>
  cases hg;obtain⟨v,rfl,o⟩:=oa.one;obtain⟨a,vs,rfl,fz,w⟩:=o.tup0;exact⟨a,vs,rfl,.inr ⟨fz.sq,k _ H NoA .refl (by rw[iA];exact o)⟩⟩
def i7:List D->Option (List Bool)
 |[]=>some []
 |.bool b::r=>(i7 r).map (b::·)
 |_::_=>none
theorem rW:∀{ts:List D} {vs:List V} {bs:List Bool},Ows K O H ts 0 vs NoA->i7 ts=some bs->vs=bs.map V.bl
 |[],_,_,h,hb=>by cases hb;exact h
 |.bool b::r,_,_,h,hb=>by
  obtain⟨v,w,F1,F2,e,_,_,_,h4,h5⟩:=h;obtain⟨bs',h6,h7⟩:=zab.mp hb;subst e h7;rw[show v=.bl b from h4,rW (Ows.any0 r h5) h6];rfl
 |.none::_,_,_,_,hb=>by cases hb
 |.int _::_,_,_,_,hb=>by cases hb
 |.str _::_,_,_,_,hb=>by cases hb
 |.list _::_,_,_,_,hb=>by cases hb
 |.tuple _::_,_,_,_,hb=>by cases hb
 |.dict _::_,_,_,_,hb=>by cases hb
def kg:List D->Option D
 |[.list ts]=>(i7 ts).map fun bs=>.bool (bs.all id)
 |_=>none
def ib(hK:X.K=K)(hc:X.calm=true):CallR X (.builtin "all") (rFn K kg 3):=(M0 hK hc).imp fun xs H Q ⟨O,as,t,oa,hd,hg,k⟩=>by
 match as,hg with
 |[.list ts],hg=>
  obtain⟨bs,h1,rfl⟩:=zab.mp hg;obtain⟨v,rfl,o⟩:=oa.one;obtain⟨a,vs,rfl,fz,w⟩:=o.lst0;have e:=rW w h1;subst e;exact⟨a,bs,rfl,fz.sq,k _ H NoA .refl rfl⟩
def tyN:D->String
 |.none=>"NoneType" |.bool _=>"bool" |.int _=>"int" |.str _=>"str" |.list _=>"list" |.tuple _=>"tuple" |.dict _=>"dict"
def bN(n T:String):Bool:=n==T || (n=="bool"&&T=="int")
def rp(hT:T∈["int","bool","str","list","tuple","dict"])(a:D):PySem.W.kitOne K (.type (tyN a)) (.type T)=some (bN (tyN a) T):=by
 simp only[zay,zap,or_false]at hT;rcases hT with rfl|rfl|rfl|rfl|rfl|rfl<;>cases a<;>rfl
def isX:D->Bool
 |.dict [(.none,.str _)]=>true
 |_=>false
def LJ(K:zbS):List V->Hp->VK->Prop:=fun xs H Q=>∃x T,∃(O:AS) (a:D),xs=[x,.ty T]/\Ow K O H a 0 x NoA/\isX a=false/\T∈["int","bool","str","list","tuple","dict"]/\Q (.bl (bN (tyN a) T)) H
def Ai:CallR X (.builtin "isinstance") (LJ X.K):=by
 intro ρ s σ H xs us Q I r h;obtain⟨x,T,O,a,rfl,oa,hX,hT,q⟩:=h;have base:∀ty,TyOf X.K H x (.type ty)->tyN a=ty->wpAny (model X.prog X.w) X.A (call (.builtin "isinstance") us) (EP X ρ σ Q) X.xe s:=fun ty h1 h2=>by
  refine BD ρ s σ H _ us Q I r ⟨x,.type ty,T,bN (tyN a) T,rfl,h1,?_,q⟩;rw[<-h2];exact rp hT a
 cases a with
 |none=>exact base _ (by rw[show x=.non from oa];exact .non) rfl
 |bool b=>exact base _ (by rw[show x=.bl b from oa];exact .bl b) rfl
 |int b=>exact base _ (by rw[show x=.int b from oa];exact .int b) rfl
 |str b=>exact base _ (by rw[show x=.str b from oa];exact .str b) rfl
 |tuple ts=>
  obtain⟨p,vs,rfl,fz,w⟩:=oa.tup0;exact base _ (.tup fz.1) rfl
 |dict ts=>
  obtain⟨p,vs,rfl,⟨_,h1,_⟩|⟨_,h1,_⟩|⟨_,⟨⟨_,_,_,_,h1,_⟩,_⟩|⟨cn,C,h0,_⟩⟩|⟨_,_,_,_,_,_,h1,_⟩⟩:=oa
  ·exact base _ (.dK h1) rfl
  ·exact base _ (.dK (.inl h1)) rfl
  ·exact base _ (.dT h1) rfl
  ·subst h0;cases hX
  ·exact base _ (.dT (.inl h1)) rfl
 |list ts=>
  obtain⟨p,vs,rfl,fz,w⟩:=oa.lst0;obtain⟨u,u2,rfl,r1,r2⟩:=r.two;cases r1;cases r2;obtain⟨its,rv,pl,_⟩:=I.list fz.sq;have e:=rp (K:=X.K) hT (.list ts);obtain⟨o,n,h1,h2,_⟩:=pl;exact PySem.W.kia_one PySem.W.kitx_list I.kIn ⟨o,h1,h2⟩ e (fun z=>nomatch z) fun tk=>⟨.bl _,H,I.tok tk,rfl,q⟩
end
def bw(T:String):D->Option D:=fun a=>if isX a=true then none else some (.bool (bN (tyN a) T))
def K2{T:Str}{n:String}{pt:Pos}(hK:X.K=K)(hg:Gl X "isinstance")(hm:X.mg "isinstance"=none)(hgT:Gl X T)(hmT:X.mg T=none)(hbT:bootBuiltins T=some (.type n))(hT:n∈["int","bool","str","list","tuple","dict"])(he:PE X e (tF K p ds ds1 d1 f))
  (hnT:T≠"__name__") (hdT:(T==("__debug__":Str))=false)
  (hs1:starEach [e,.Name T pt] X.env=(false,eval e X.env)::starEach [.Name T pt] X.env) (hs2:starEach [.Name T pt] X.env=(false,eval (.Name T pt) X.env)::starEach [] X.env) (hpl:(backTo pos (starEach [.Name T pt] X.env)).any (·.1)=false):
  PE X (.Call (.Name "isinstance" px) [e,.Name T pt] [] pos) (tF K p ds ds1 3 (e1 (bw n) f)):=by
 subst hK;refine(fN Ai hg hm boot_isinstance (ba he (ba (nL (v:=.ty n) hgT hmT hbT rfl hnT hdT) pa_nil hs2) hs1) (by decide) (by decide) hs1 hpl).imp fun σ H Q h=>?_;obtain⟨Ox,en,R,t,en',e,hf,k⟩:=h;unfold e1 at hf;obtain⟨⟨t1,en1⟩,h1,hf⟩:=zaa.mp hf;obtain⟨t',h3,hf⟩:=zab.mp hf;cases hf;unfold bw at h3;by_cases hX:isX t1=true
 ·rw[if_pos hX]at h3;cases h3
 rw[if_neg hX]at h3;cases h3;refine⟨Ox,en,R,t1,en1,e,h1,fun v H' R' F P o=>?_⟩;exact⟨v,n,Own R' Ox,t1,rfl,Ow.letgo P (fun _ z=>z) o,Bool.eq_false_iff.mpr hX,hT,k _ H' R' NoA (P.less fun _ z=>z.elim) rfl⟩
mutual
def peq:D->D->Bool
 |.none,.none=>true
 |.bool a,.bool b=>a==b
 |.bool a,.int b=>(if a then(1:Int)else 0)==b
 |.int a,.bool b=>a==(if b then(1:Int)else 0)
 |.int a,.int b=>a==b
 |.str a,.str b=>a==b
 |.list a,.list b=>eI a b
 |.tuple a,.tuple b=>eI a b
 |_,_=>false
def eI:List D->List D->Bool
 |[],[]=>true
 |a::r,b::s=>peq a b&&eI r s
 |_,_=>false
end
mutual
def ax:D->Bool
 |.dict _=>false
 |.list ts=>aF ts
 |.tuple ts=>aF ts
 |_=>true
def aF:List D->Bool
 |[]=>true
 |t::r=>ax t&&aF r
end
mutual
theorem pb:∀a:D,ax a=true->peq a a=true
 |.none,_=>rfl
 |.bool b,_=>by cases b<;>rfl
 |.int i,_=>by simp[peq]
 |.str i,_=>by simp[peq]
 |.list ts,h=>by simp only[peq];exact my ts (by simpa[ax]using h)
 |.tuple ts,h=>by simp only[peq];exact my ts (by simpa[ax]using h)
 |.dict _,h=>by simp[ax]at h
theorem my:∀a:List D,aF a=true->eI a a=true
 |[],_=>rfl
 |t::r,h=>by
  have h':ax t=true/\aF r=true:=by simpa[aF]using h
  simp only[eI,pb t h'.1,my r h'.2,zbi]
end
mutual
def dq:D->Nat
 |.list ts=>cc ts+1
 |.tuple ts=>cc ts+1
 |_=>0
def cc:List D->Nat
 |[]=>0
 |t::r=>max (dq t) (cc r)
end
theorem mU:∀{ts:List D} {i:Nat} {t:D},ts[i]?=some t->dq t<=cc ts
 |[],_,_,h=>by simp at h
 |u::r,i,t,h=>by
  simp only[cc];cases i with
  |zero=>simp at h;subst h;exact Nat.le_max_left _ _
  |succ i=>exact zau (mU (by simpa using h)) (Nat.le_max_right _ _)
theorem fA:∀{ts:List D} {i:Nat} {t:D},aF ts=true->ts[i]?=some t->ax t=true
 |[],_,_,_,h=>by simp at h
 |u::r,i,t,hn,h=>by
  have h':ax u=true/\aF r=true:=by simpa[aF]using hn
  cases i with
  |zero=>simp at h;subst h;exact h'.1
  |succ i=>exact fA h'.2 (by simpa using h)
theorem o8:∀{a b:List D},a.length≠b.length->eI a b=false
 |[],[],h=>absurd rfl h
 |[],_::_,_=>rfl
 |_::_,[],_=>rfl
 |a::r,b::s,h=>by
  simp only[eI,o8 (a:=r) (b:=s) (fun z=>h (by rw[zac,zac,z])),zbR]
def eAt(a b:List D)(j:Nat):Bool:=match a[j]?,b[j]? with
 |some x,some y=>peq x y
 |_,_=>true
def rN(n:Nat)(f:Nat->Bool):(List.range (n+1)).all f=(f 0&&(List.range n).all fun j=>f (j+1)):=by
 rw[List.range_succ_eq_map,List.all_cons,List.all_map];rfl
theorem o9:∀{a b:List D},a.length=b.length->(List.range a.length).all (eAt a b)=eI a b
 |[],[],_=>rfl
 |a::r,b::s,h=>by
  rw[zac,rN];have e:(List.range r.length).all (fun j=>eAt (a::r) (b::s) (j+1))=(List.range r.length).all (eAt r s):=by
   congr 1
  rw[e,o9 (by simpa using h)];rfl
 |[],_::_,h=>by simp at h
 |_::_,[],h=>by simp at h
section
open PySem.SeqAt
variable{s:Shared} 
def Er{p:Addr}{ws:List V}(I:Inv X ρ σ H s)(h:SqL X.K H p vs)(g:SqT X.K H p ws):False:=by
 obtain⟨its,_,p1,_⟩:=I.list h;obtain⟨ν,_,p2,_⟩:=I.tuple g;exact ne_of_list_tuple p1.isList (show s.heap.IsTuple p ν.toArray from p2) rfl
def JR{p:Addr}{ks:List (List (Option Key)×V)}{ad:Addr->Prop}(I:Inv X ρ σ H s)(h:SqL X.K H p vs)(g:Rd H p (.dT ks ad)):False:=by
 obtain⟨its,_,⟨o,n,e1,e2,_⟩,_⟩:=I.list h;obtain⟨_,_,_,_,o',_,_,g1,g2,_⟩:=tz I.hok g;rw[e1]at g1;cases g1;rw[g2.1]at e2;simp at e2
def LY{p:Addr}{ks:List (Key×V)}(I:Inv X ρ σ H s)(h:SqL X.K H p vs)(g:Rd H p (.dK ks)):False:=by
 obtain⟨its,_,⟨o,n,e1,e2,_⟩,_⟩:=I.list h;obtain⟨_,_,_,_,o',_,_,g1,g2,_⟩:=nW I.hok g;rw[e1]at g1;cases g1;rw[g2.1]at e2;simp at e2
mutual
theorem Ow.inj(I:Inv X ρ σ H s):∀(a b:D) {x:V},Ow X.K O H a 0 x NoA->Ow X.K O H b 0 x NoA->ax a=true->a=b
 |.none,b,_,h,g,_=>by
  cases(show _=_ from h);cases b with
  |none=>rfl
  |list ts=>obtain⟨_,_,z,_⟩:=g;cases z
  |tuple ts=>obtain⟨_,_,z,_⟩:=g;cases z
  |dict ts=>obtain⟨_,_,z,_⟩:=g;cases z
  |bool c=>cases(show V.non=V.bl c from g)
  |int c=>cases(show V.non=V.int c from g)
  |str c=>cases(show V.non=V.str c from g)
 |.bool c,b,_,h,g,_=>by
  cases(show _=_ from h);cases b with
  |none=>cases(show V.bl c=V.non from g)
  |list ts=>obtain⟨_,_,z,_⟩:=g;cases z
  |tuple ts=>obtain⟨_,_,z,_⟩:=g;cases z
  |dict ts=>obtain⟨_,_,z,_⟩:=g;cases z
  |bool c'=>cases(show V.bl c=V.bl c' from g);rfl
  |int c'=>cases(show V.bl c=V.int c' from g)
  |str c'=>cases(show V.bl c=V.str c' from g)
 |.int c,b,_,h,g,_=>by
  cases(show _=_ from h);cases b with
  |none=>cases(show V.int c=V.non from g)
  |list ts=>obtain⟨_,_,z,_⟩:=g;cases z
  |tuple ts=>obtain⟨_,_,z,_⟩:=g;cases z
  |dict ts=>obtain⟨_,_,z,_⟩:=g;cases z
  |bool c'=>cases(show V.int c=V.bl c' from g)
  |int c'=>cases(show V.int c=V.int c' from g);rfl
  |str c'=>cases(show V.int c=V.str c' from g)
 |.str c,b,_,h,g,_=>by
  cases(show _=_ from h);cases b with
  |none=>cases(show V.str c=V.non from g)
  |list ts=>obtain⟨_,_,z,_⟩:=g;cases z
  |tuple ts=>obtain⟨_,_,z,_⟩:=g;cases z
  |dict ts=>obtain⟨_,_,z,_⟩:=g;cases z
  |bool c'=>cases(show V.str c=V.bl c' from g)
  |int c'=>cases(show V.str c=V.int c' from g)
  |str c'=>cases(show V.str c=V.str c' from g);rfl
 |.list ts,b,_,h,g,hn=>by
  obtain⟨p,vs,rfl,fz,w⟩:=h.lst0;cases b with
  |none=>cases(show V.ref p=V.non from g)
  |bool c'=>cases(show V.ref p=V.bl c' from g)
  |int c'=>cases(show V.ref p=V.int c' from g)
  |str c'=>cases(show V.ref p=V.str c' from g)
  |list us=>
   obtain⟨p',vs',e,fz',w'⟩:=g.lst0;cases e
   have:=I.list_inj fz.sq fz'.sq;subst this;rw[Ows.inj I ts us w w' (by simpa[ax]using hn)]
  |tuple us=>
   obtain⟨p',vs',e,fz',w'⟩:=g.tup0;cases e;exact(Er I fz.sq fz'.sq).elim
  |dict us=>
   obtain⟨p',vs',e,⟨_,g1,_⟩|⟨z,_⟩|⟨_,⟨⟨_,_,_,_,g1,_⟩,_⟩|⟨_,C,_,_,g1,_⟩⟩|⟨z,_⟩⟩:=g
   ·cases e;exact(LY I fz.sq g1).elim
   ·exact absurd rfl z
   ·cases e;exact(JR I fz.sq g1).elim
   ·cases e;obtain⟨its,rv,⟨o,n,e1,e2,_⟩,_⟩:=I.list fz.sq;obtain⟨⟨o',x1,x2,_⟩,_⟩:=(show ObjOk X.prog X.w H s.heap p (.ext (fS p C))from I.hok p _ g1);rw[e1]at x1;cases x1;rw[e2]at x2;cases x2
   ·cases z
 |.tuple ts,b,_,h,g,hn=>by
  obtain⟨p,vs,rfl,fz,w⟩:=h.tup0;cases b with
  |none=>cases(show V.ref p=V.non from g)
  |bool c'=>cases(show V.ref p=V.bl c' from g)
  |int c'=>cases(show V.ref p=V.int c' from g)
  |str c'=>cases(show V.ref p=V.str c' from g)
  |tuple us=>
   obtain⟨p',vs',e,fz',w'⟩:=g.tup0;cases e
   have:=fz.1.symm.trans fz'.1;cases this;rw[Ows.inj I ts us w w' (by simpa[ax]using hn)]
  |list us=>
   obtain⟨p',vs',e,fz',w'⟩:=g.lst0;cases e;exact(Er I fz'.sq fz.sq).elim
  |dict us=>
   obtain⟨p',vs',e,⟨_,g1,_⟩|⟨z,_⟩|⟨_,⟨⟨_,_,_,_,g1,_⟩,_⟩|⟨_,C,_,_,g1,_⟩⟩|⟨z,_⟩⟩:=g
   ·cases e;rcases g1 with g1|⟨_,g1⟩<;>rw[fz.1]at g1<;>cases g1
   ·exact absurd rfl z
   ·cases e;rcases g1 with g1|⟨_,g1⟩<;>rw[fz.1]at g1<;>cases g1
   ·cases e;rw[fz.1]at g1;cases g1
   ·cases z
 |.dict _,_,_,_,_,hn=>by simp[ax]at hn
theorem Ows.inj(I:Inv X ρ σ H s):∀(a b:List D) {x:List V},Ows X.K O H a 0 x NoA->Ows X.K O H b 0 x NoA->aF a=true->a=b
 |[],b,_,h,g,_=>by
  cases(show _=_ from h);cases b with
  |nil=>rfl
  |cons u us=>obtain⟨_,_,_,_,e,_⟩:=g;cases e
 |t::ts,b,_,h,g,hn=>by
  obtain⟨v,r,F1,F2,e,_,_,_,h4,h5⟩:=h;subst e;have hn':ax t=true/\aF ts=true:=by simpa[aF]using hn
  cases b with
  |nil=>cases(show v::r=[]from g)
  |cons u us=>
   obtain⟨v',r',G1,G2,e,_,_,_,g4,g5⟩:=g;cases e;rw[Ow.inj I t u (Ow.any0 t h4) (Ow.any0 u g4) hn'.1,Ows.inj I ts us (Ows.any0 ts h5) (Ows.any0 us g5) hn'.2]
end
def uF{ws:List V}{its ν:List Value}(w:Ows X.K O H ts 0 vs NoA)(w2:Ows X.K O H us 0 ws NoA)(rv:Vals vs its)(rv2:Vals ws ν)
  (ih:∀(j:Nat) a b x y v u,ts[j]?=some a->us[j]?=some b->Ow X.K O H a 0 x NoA->Ow X.K O H b 0 y NoA->RelV x v->RelV y u->EqAt A s v u (peq a b)):
  ∀j (h1:j<its.toArray.size) (h2:j<ν.toArray.size),EqAt A s its.toArray[j] ν.toArray[j] (eAt ts us j):=fun j h1 h2=>by
 have h1':j<its.length:=by simpa using h1
 have h2':j<ν.length:=by simpa using h2
 have l1:=rv.length;have l2:=rv2.length;have m1:=w.len;have m2:=w2.len;have e1:ts[j]?=some ts[j]:=zak (by omega);have e2:us[j]?=some us[j]:=zak (by omega);obtain⟨x,g1,o1⟩:=w.get e1;obtain⟨y,g2,o2⟩:=w2.get e2;obtain⟨u1,f1,q1⟩:=rv.get g1;obtain⟨u2,f2,q2⟩:=rv2.get g2;have z:=ih j _ _ x y u1 u2 e1 e2 o1 o2 q1 q2;rw[zak h1']at f1;rw[zak h2']at f2;have i1:its.toArray[j]=u1:=by simpa using zat f1
 have i2:ν.toArray[j]=u2:=by simpa using zat f2
 rw[i1,i2];unfold eAt;rw[e1,e2];exact z
inductive Kd(s:Shared):D->Value->Prop
 |n:Kd s .none .none
 |b (c:Bool):Kd s (.bool c) (.bool c)
 |i (c:Int) (t:Nat):Kd s (.int c) (.int c t)
 |t (c:Str) (t:Nat):Kd s (.str c) (.str c t)
 |l {c:List D} {p:Addr} {z:Array Value} (h:s.heap.IsList p z):Kd s (.list c) (.ref p)
 |u {c:List D} {p:Addr} {z:Array Value} (h:s.heap.IsTuple p z):Kd s (.tuple c) (.ref p)
def sY(I:Inv X ρ σ H s){a:D}{x:V}{v:Value}(hn:ax a=true)(o:Ow X.K O H a 0 x NoA)(r:RelV x v):Kd s a v:=by
 cases a with
 |none=>cases(show x=V.non from o);cases r;exact .n
 |bool c=>cases(show x=V.bl c from o);cases r;exact .b c
 |int c=>cases(show x=V.int c from o);obtain⟨t,rfl⟩:=r;exact .i c t
 |str c=>cases(show x=V.str c from o);obtain⟨t,rfl⟩:=r;exact .t c t
 |list c=>
  obtain⟨p,vs,rfl,fz,w⟩:=o.lst0;cases r;obtain⟨its,rv,pl,_⟩:=I.list fz.sq;exact .l pl.isList
 |tuple c=>
  obtain⟨p,vs,rfl,fz,w⟩:=o.tup0;cases r;obtain⟨its,rv,pl,_⟩:=I.tuple fz.sq;have hl:s.heap.IsTuple p its.toArray:=pl;exact .u hl
 |dict c=>simp[ax]at hn
def sqB:D->D->Bool
 |.list _,.list _=>true
 |.tuple _,.tuple _=>true
 |_,_=>false
def Et:∀{a b:D} {v u:Value},Kd s a v->Kd s b u->sqB a b=false->A.units<cLine->EqAt A s v u (peq a b)/\RcAt A s v u (peq a b)/\RcNeAt A s v u (!peq a b)
 |_,_,_,_,.n,.n,_,_=>⟨.same _,.none_none,.none_none⟩
 |_,_,_,_,.n,.b _,_,_=>⟨.none_bool _,.none_bool _,.none_bool _⟩
 |_,_,_,_,.n,.i _ _,_,_=>⟨.none_int _ _,.none_int _ _,.none_int _ _⟩
 |_,_,_,_,.n,.t _ _,_,_=>⟨.none_str _ _,.none_str _ _,.none_str _ _⟩
 |_,_,_,_,.n,.l h2,_,hu=>⟨.none_list h2 hu,.none_list h2 hu,.none_list h2 hu⟩
 |_,_,_,_,.n,.u h2,_,hu=>⟨.none_tuple h2 hu,.none_tuple h2 hu,.none_tuple h2 hu⟩
 |_,_,_,_,.b _,.n,_,_=>⟨.bool_none _,.bool_none _,.bool_none _⟩
 |_,_,_,_,.b _,.b _,_,_=>⟨.bool_bool _ _,.bool_bool _ _,.bool_bool _ _⟩
 |_,_,_,_,.b _,.i _ _,_,_=>⟨.bool_int _ _ _,.bool_int _ _ _,.bool_int _ _ _⟩
 |_,_,_,_,.b _,.t _ _,_,_=>⟨.bool_str _ _ _,.bool_str _ _ _,.bool_str _ _ _⟩
 |_,_,_,_,.b _,.l h2,_,hu=>⟨.bool_list _ h2 hu,.bool_list _ h2 hu,.bool_list _ h2 hu⟩
 |_,_,_,_,.b _,.u h2,_,hu=>⟨.bool_tuple _ h2 hu,.bool_tuple _ h2 hu,.bool_tuple _ h2 hu⟩
 |_,_,_,_,.i _ _,.n,_,_=>⟨.int_none _ _,.int_none _ _,.int_none _ _⟩
 |_,_,_,_,.i _ _,.b _,_,_=>⟨.int_bool _ _ _,.int_bool _ _ _,.int_bool _ _ _⟩
 |_,_,_,_,.i _ _,.i _ _,_,_=>⟨.int_int _ _ _ _,.int_int _ _ _ _,.int_int _ _ _ _⟩
 |_,_,_,_,.i _ _,.t _ _,_,_=>⟨.int_str _ _ _ _,.int_str _ _ _ _,.int_str _ _ _ _⟩
 |_,_,_,_,.i _ _,.l h2,_,hu=>⟨.int_list _ _ h2 hu,.int_list _ _ h2 hu,.int_list _ _ h2 hu⟩
 |_,_,_,_,.i _ _,.u h2,_,hu=>⟨.int_tuple _ _ h2 hu,.int_tuple _ _ h2 hu,.int_tuple _ _ h2 hu⟩
 |_,_,_,_,.t _ _,.n,_,_=>⟨.str_none _ _,.str_none _ _,.str_none _ _⟩
 |_,_,_,_,.t _ _,.b _,_,_=>⟨.str_bool _ _ _,.str_bool _ _ _,.str_bool _ _ _⟩
 |_,_,_,_,.t _ _,.i _ _,_,_=>⟨.str_int _ _ _ _,.str_int _ _ _ _,.str_int _ _ _ _⟩
 |_,_,_,_,.t _ _,.t _ _,_,_=>⟨.str_str _ _ _ _,.str_str _ _ _ _,.str_str _ _ _ _⟩
 |_,_,_,_,.t _ _,.l h2,_,hu=>⟨.str_list _ _ h2 hu,.str_list _ _ h2 hu,.str_list _ _ h2 hu⟩
 |_,_,_,_,.t _ _,.u h2,_,hu=>⟨.str_tuple _ _ h2 hu,.str_tuple _ _ h2 hu,.str_tuple _ _ h2 hu⟩
 |_,_,_,_,.l h1,.n,_,hu=>⟨.list_none h1 hu,.list_none h1 hu,.list_none h1 hu⟩
 |_,_,_,_,.l h1,.b _,_,hu=>⟨.list_bool _ h1 hu,.list_bool _ h1 hu,.list_bool _ h1 hu⟩
 |_,_,_,_,.l h1,.i _ _,_,hu=>⟨.list_int _ _ h1 hu,.list_int _ _ h1 hu,.list_int _ _ h1 hu⟩
 |_,_,_,_,.l h1,.t _ _,_,hu=>⟨.list_str _ _ h1 hu,.list_str _ _ h1 hu,.list_str _ _ h1 hu⟩
 |_,_,_,_,.l h1,.u h2,_,hu=>⟨.list_tuple h1 h2 hu,.list_tuple h1 h2 hu,.list_tuple h1 h2 hu⟩
 |_,_,_,_,.u h1,.n,_,hu=>⟨.tuple_none h1 hu,.tuple_none h1 hu,.tuple_none h1 hu⟩
 |_,_,_,_,.u h1,.b _,_,hu=>⟨.tuple_bool _ h1 hu,.tuple_bool _ h1 hu,.tuple_bool _ h1 hu⟩
 |_,_,_,_,.u h1,.i _ _,_,hu=>⟨.tuple_int _ _ h1 hu,.tuple_int _ _ h1 hu,.tuple_int _ _ h1 hu⟩
 |_,_,_,_,.u h1,.t _ _,_,hu=>⟨.tuple_str _ _ h1 hu,.tuple_str _ _ h1 hu,.tuple_str _ _ h1 hu⟩
 |_,_,_,_,.u h1,.l h2,_,hu=>⟨.tuple_list h1 h2 hu,.tuple_list h1 h2 hu,.tuple_list h1 h2 hu⟩
 |_,_,_,_,.l _,.l _,hq,_=>nomatch (show true=false from hq)
 |_,_,_,_,.u _,.u _,hq,_=>nomatch (show true=false from hq)
def xN(I:Inv X ρ σ H s):∀(n:Nat) (a b:D) (A:Around) (x y:V) (v u:Value),dq a<=n->ax a=true->ax b=true->Ow X.K O H a 0 x NoA->Ow X.K O H b 0 y NoA->RelV x v->RelV y u->A.units+n+1<cLine ->
  EqAt A s v u (peq a b)/\RcAt A s v u (peq a b)/\RcNeAt A s v u (!peq a b):=by
 intro n
 induction n with
 |zero=>
  intro a b A x y v u hdp hna hnb o1 o2 r1 r2 hun;refine Et (sY I hna o1 r1) (sY I hnb o2 r2) ?_ (by omega);cases a with
  |list c=>simp only[dq]at hdp;omega
  |tuple c=>simp only[dq]at hdp;omega
  |_=>rfl
 |succ n ih=>
  intro a b A x y v u hdp hna hnb o1 o2 r1 r2 hun;have hu:A.units<cLine:=by omega
  have hu1:A.in1.units+n+1<cLine:=by
   show A.units+1+n+1<cLine;omega
  cases hq:sqB a b with
  |false=>exact Et (sY I hna o1 r1) (sY I hnb o2 r2) hq hu
  |true=>
   cases a with
   |list c1=>
    cases b with
    |list c2=>
     obtain⟨p1,vs1,rfl,fz1,w1⟩:=o1.lst0;cases r1;obtain⟨its1,rv1,pl1,_⟩:=I.list fz1.sq;have hl1:=pl1.isList;obtain⟨p2,vs2,rfl,fz2,w2⟩:=o2.lst0;cases r2;obtain⟨ν,rv2,pl2,_⟩:=I.list fz2.sq;have hl2:=pl2.isList;have dl:cc c1<=n:=by simp only[dq]at hdp;omega
     have nd1:aF c1=true:=by simpa[ax]using hna
     have nd2:aF c2=true:=by simpa[ax]using hnb
     have el:=uF (A:=A.in1) w1 w2 rv1 rv2 fun j a b x y v u e1 e2 q1 q2 q3 q4=>(ih a b A.in1 x y v u (zau (mU e1) dl) (fA nd1 e1) (fA nd2 e2) q1 q2 q3 q4 hu1).1;have l1:=rv1.length;have l2:=rv2.length;have m1:=w1.len;have m2:=w2.len;have rc:RcAt A s (.ref p1) (.ref p2) (eI c1 c2)/\RcNeAt A s (.ref p1) (.ref p2) (!eI c1 c2):=by
      by_cases hz:c1.length=c2.length
      ·have hs1:its1.toArray.size=ν.toArray.size:=by rw[zai,zai];omega
       have hs2:its1.toArray.size=c1.length:=by rw[zai];omega
       have z1:=RcAt.lists hl1 hl2 hs1 hu el;have z2:=RcNeAt.lists hl1 hl2 hs1 hu el;rw[hs2,o9 hz]at z1 z2;exact⟨z1,z2⟩
      ·have hs1:(its1.toArray.size != ν.toArray.size)=true:=by rw[zai,zai,bne_iff_ne];omega
       rw[o8 hz];exact⟨RcAt.lists_lengths hl1 hl2 hs1 hu,RcNeAt.lists_lengths hl1 hl2 hs1 hu⟩
     have pe:peq (.list c1) (.list c2)=eI c1 c2:=by simp only[peq]
     refine⟨?_,by rw[pe];exact rc.1,by rw[pe];exact rc.2⟩;by_cases hp:p1=p2
     ·subst hp
      have:=Ow.inj I _ _ o1 o2 hna;cases this;rw[pb _ hna];exact EqAt.same _
     ·rw[pe];exact EqAt.of_refs hp rc.1
    |_=>cases(show false=true from hq)
   |tuple c1=>
    cases b with
    |tuple c2=>
     obtain⟨p1,vs1,rfl,fz1,w1⟩:=o1.tup0;cases r1;obtain⟨its1,rv1,pl1,_⟩:=I.tuple fz1.sq;have hl1:s.heap.IsTuple p1 its1.toArray:=pl1;obtain⟨p2,vs2,rfl,fz2,w2⟩:=o2.tup0;cases r2;obtain⟨ν,rv2,pl2,_⟩:=I.tuple fz2.sq;have hl2:s.heap.IsTuple p2 ν.toArray:=pl2;have dl:cc c1<=n:=by simp only[dq]at hdp;omega
     have nd1:aF c1=true:=by simpa[ax]using hna
     have nd2:aF c2=true:=by simpa[ax]using hnb
     have el:=uF (A:=A.in1) w1 w2 rv1 rv2 fun j a b x y v u e1 e2 q1 q2 q3 q4=>(ih a b A.in1 x y v u (zau (mU e1) dl) (fA nd1 e1) (fA nd2 e2) q1 q2 q3 q4 hu1).1;have l1:=rv1.length;have l2:=rv2.length;have m1:=w1.len;have m2:=w2.len;have rc:RcAt A s (.ref p1) (.ref p2) (eI c1 c2)/\RcNeAt A s (.ref p1) (.ref p2) (!eI c1 c2):=by
      have z1:=RcAt.tuples hl1 hl2 hu el;have z2:=RcNeAt.tuples hl1 hl2 hu el;have ez:((List.range (min its1.toArray.size ν.toArray.size)).all (eAt c1 c2)&&its1.toArray.size==ν.toArray.size)=eI c1 c2:=by
       rw[zai,zai];by_cases hz:c1.length=c2.length
       ·have h3:its1.length=ν.length:=by omega
        have h4:min its1.length ν.length=c1.length:=by omega
        rw[h4,o9 hz,h3,beq_self_eq_true,zbQ]
       ·have h3:(its1.length==ν.length)=false:=by rw[zbK];omega
        rw[h3,zbR,o8 hz]
      rw[ez]at z1 z2;exact⟨z1,z2⟩
     have pe:peq (.tuple c1) (.tuple c2)=eI c1 c2:=by simp only[peq]
     refine⟨?_,by rw[pe];exact rc.1,by rw[pe];exact rc.2⟩;by_cases hp:p1=p2
     ·subst hp
      have:=Ow.inj I _ _ o1 o2 hna;cases this;rw[pb _ hna];exact EqAt.same _
     ·rw[pe];exact EqAt.of_refs hp rc.1
    |_=>cases(show false=true from hq)
   |_=>cases(show false=true from hq)
end
def eqD(a b:D):Option D:=grd (ax a=true/\ax b=true/\dq a<=60) (.bool (peq a b))
def neD(a b:D):Option D:=grd (ax a=true/\ax b=true/\dq a<=60) (.bool (!peq a b))
def iT(hK:X.K=K)(hu:X.A.units+64<cLine):OpR X (compareOp .Eq) (rF2 K eqD 3):=by
 subst hK;intro ρ s σ H x y v u Q I rx ry ⟨O,a,b,t,oa,ob,hd,hg,k⟩;obtain⟨⟨c1,c2,c3⟩,rfl⟩:=bD hg;exact(xN I 60 a b X.A x y v u c3 c1 c2 oa ob rx ry (by omega)).2.1 X.prog X.w _ _ ⟨.bl _,H,I,rfl,k _ H NoA .refl rfl⟩
def Mb(hK:X.K=K)(hu:X.A.units+64<cLine):OpR X (compareOp .NotEq) (rF2 K neD 3):=by
 subst hK;intro ρ s σ H x y v u Q I rx ry ⟨O,a,b,t,oa,ob,hd,hg,k⟩;obtain⟨⟨c1,c2,c3⟩,rfl⟩:=bD hg;exact(xN I 60 a b X.A x y v u c3 c1 c2 oa ob rx ry (by omega)).2.2 X.prog X.w _ _ ⟨.bl _,H,I,rfl,k _ H NoA .refl rfl⟩
def vW{F:List D->Option (D×En)}{E:XK}(hn:dps.length=n)(h:spF K dps dr F vs H Q E):vs.length=n:=by
 obtain⟨Ox,ts,R,r,ψ,e,_⟩:=h
 have:=e.l2;rw[zad]at this;omega
section
variable{ds3:List Nat}{d3:Nat}{a c:Expr}{f3:ME}{p2:Pos}
def F7(h:PS X st (tFS K J ds ds2 m))(hd:leD ds1 ds2=true):PS X st (tFS K J ds ds1 m):=h.imp fun _ _ _=>Kv hd
def fE(g g':D->D->Option D)(f1 f2 f3:ME):ME:=fun en=>(f1 en).bind fun r=>(f2 r.2).bind fun q=>(g r.1 q.1).bind fun t=>match t with
 |.bool true=>(f3 q.2).bind fun z=>(g' q.1 z.1).map fun t=>(t,z.2)
 |.bool false=>some (.bool false,q.2)
 |_=>none
def ww(h:tF K p ds ds1 3 (fE g g' f1 f2 f3) σ H Q):
  tM (rF2 K g 3) (rF2 K g' 3) (tF K p ds ds0 d1 f1) (tF K p ds0 ds1 d2 f2) (tF K p ds1 ds1 d3 f3) σ H Q:=by
 obtain⟨Ox,en,R,t,en',e,hf,k⟩:=h;unfold fE at hf;obtain⟨⟨t1,en1⟩,h1,hf⟩:=zaa.mp hf;obtain⟨⟨t2,en2⟩,h2,hf⟩:=zaa.mp hf;obtain⟨tb,h3,hf⟩:=zaa.mp hf;refine two (p1:=p) (p2:=p) e h1 h2 fun x y H2 R2 F1 F2 P o1 o2=>?_;rw[zbi]at P;have oy:=Ow.letgo P (fun _=>.inr) o2;refine⟨Own R2 Ox,t1,t2,tb,Ow.letgo P (fun _=>.inl) o1,oy,P.doms,h3,fun v3 H3 F3 n3 o3=>?_⟩;have P3:=P.fin n3;cases tb with
 |bool bb=>
  refine⟨bb,o3,?_⟩;cases bb with
  |false=>
   cases hf;exact k _ H3 R2 NoA (P3.less fun _ z=>z.elim) rfl
  |true=>
   obtain⟨⟨t4,en4⟩,h4,hf⟩:=zaa.mp hf;obtain⟨t5,h5,hf⟩:=zab.mp hf;cases hf;have P30:=P3.less (F':=NoA) fun _ z=>z.elim;refine⟨Ox,en2,R2,t4,en4,P30.env0,h4,fun v4 H4 R4 F4 P4 o4=>?_⟩;have P34:=P30.after P4;rw[zbi]at P34;have oy3:Ow K (Own R2 Ox) H3 t2 0 y NoA:=Ow.mv (G:=NoA) ⟨fun a o q _=>n3.1 a o q,fun a z=>.inl z⟩ t2 (fun _ z=>z) oy;have oy4:Ow K (Own R4 Ox) H4 t2 0 y NoA:=by
    refine Ow.mv (G:=NoA) ⟨fun a o q z=>P4.keep a o q fun i zi=>?_,fun a z=>?_⟩ t2 (fun _ z=>z) oy3
    ·rcases z with z|z
     ·exact z (.inl ⟨i,zi⟩)
     ·exact z
    ·rcases z with z|z
     ·exact(P4.own a (.inr z)).imp .inl id
     ·exact .inl (.inr z)
   exact⟨Own R4 Ox,t2,t4,_,oy4,Ow.letgo P4 (fun _ z=>z) o4,P4.doms,h5,fun v5 H5 F5 n5 o5=>k v5 H5 R4 F5 (P34.fin n5) (nX▸o5)⟩
 |_=>cases hf
def Bv(ho:OpR X (compareOp op) (rF2 K g 3))(ho':OpR X (compareOp op') (rF2 K g' 3))(ha:PE X a (tF K p ds ds0 d1 f1))(hb:PE X b (tF K p ds0 ds1 d2 f2))(hc:PE X c (tF K p ds1 ds1 d3 f3))
  (hm:lastMarks [op,op'] [b,c]=false):PE X (.Compare a [op,op'] [b,c] pos) (tF K p ds ds1 3 (fE g g' f1 f2 f3)):=(AI ho ho' ha hb hc hm).imp fun _ _ _=>ww
def A7(ho:OpR X (compareOp op) (rF2 K g 3))(ho':OpR X (compareOp op') (rF2 K g' 3))(ha:PE X a (tF K p ds ds0 d1 f1))(hb:PE X b (tF K p ds0 ds1 d2 f2))(hc:PE X c (tF K p ds1 ds1 d3 f3))
  (hm:lastMarks [op,op'] [b,c]=false):PT X (.Compare a [op,op'] [b,c] pos) (tFT K p ds ds1 (tV (fE g g' f1 f2 f3))):=
 (AB ho ho' ha hb hc hm).imp fun σ H Q h=>by
  obtain⟨Ox,en,R,t,en',e,hf,k⟩:=uN (d:=3) h;exact ww ⟨Ox,en,R,t,en',e,hf,k⟩
abbrev MO:=En->Option (Option Int×En)
def tFO(K:zbS)(p:Bool)(ds ds':List Nat)(f:MO):TO:=fun σ H Q=>∃Ox en R o en',EnvOk K ds Ox H σ en R/\f en=some (o,en')/\∀H' R',Post K p ds' Ox σ H en R en' H' R' NoA->Q o H'
def bx:MO:=fun en=>some (none,en)
def bt(f:ME):MO:=fun en=>(f en).bind fun r=>match r.1 with
 |.int i=>some (some i,r.2)
 |_=>none
def PO.imp{e:Option Expr}{t t':TO}(h:PO X e t)(hi:∀σ H Q,t' σ H Q->t σ H Q):PO X e t':=fun ρ s σ H Q I hw=>h ρ s σ H Q I (hi _ _ _ hw)
def Gg:PO X none (tFO K p ds ds bx):=po_none.imp fun σ H Q ⟨Ox,en,R,o,en',e,hf,k⟩=>by
 cases hf;exact k H R (Post.refl e)
def Ge(h:PE X e (tF K p ds ds1 d f)):PO X (some e) (tFO K p ds ds1 (bt f)):=(Fe h).imp fun σ H Q ⟨Ox,en,R,o,en',e,hf,k⟩=>by
 unfold bt at hf;obtain⟨⟨t1,en1⟩,h1,hf⟩:=zaa.mp hf;refine⟨Ox,en,R,t1,en1,e,h1,fun v H' R' F P o=>?_⟩;cases t1 with
 |int i=>cases hf;exact⟨i,o,k H' R' (P.less fun _ z=>z.elim)⟩
 |_=>cases hf
def rFs(K:zbS)(g:D->Option Int->Option Int->Option D)(d:Nat):V->Option Int->Option Int->Hp->VK->Prop:=fun x lo hi H Q=>∃(O:AS) (a t:D),Ow K O H a 0 x NoA/\(∀a,O a->∃o,H a=some o)/\g a lo hi=some t/\∀v H' F,NewTo H H' F->Ow K (U F O) H' t d v F->Q v H'
def eSl(g:D->Option Int->Option Int->Option D)(f:ME)(lo hi:MO):ME:=fun en=>(f en).bind fun r=>(lo r.2).bind fun l=>(hi l.2).bind fun h=>(g r.1 l.1 h.1).map fun t=>(t,h.2)
variable{lo hi:MO}
def Ow.past0{R2:Nat->AS}(P2:Post K p ds2 Ox σ H1 en1 R1 en2 H2 R2 F2)(h:Ow K (Own R1 Ox) H1 t 0 v NoA):Ow K (Own R2 Ox) H2 t 0 v NoA:=by
 refine Ow.mv (G:=NoA) ⟨fun a o q z=>P2.keep a o q fun i zi=>?_,fun a z=>?_⟩ t (fun _ z=>z) h
 ·rcases z with z|z
  ·exact z (.inl ⟨i,zi⟩)
  ·exact z
 ·rcases z with z|z
  ·exact(P2.own a (.inr z)).imp .inl id
  ·exact .inl (.inr z)
def M1{g:D->Option Int->Option Int->Option D}(h:tF K p ds ds3 d (eSl g f lo hi) σ H Q):tSl (rFs K g d) (tF K p ds ds1 d1 f) (tFO K p ds1 ds2 lo) (tFO K p ds2 ds3 hi) σ H Q:=by
 obtain⟨Ox,en,R,t,en',e,hf,k⟩:=h;unfold eSl at hf;obtain⟨⟨t1,en1⟩,h1,hf⟩:=zaa.mp hf;obtain⟨⟨l,en2⟩,h2,hf⟩:=zaa.mp hf;obtain⟨⟨u,en3⟩,h3,hf⟩:=zaa.mp hf;obtain⟨t',h4,hf⟩:=zab.mp hf;cases hf;refine⟨Ox,en,R,t1,en1,e,h1,fun v H1 R1 F1 P1 o1=>?_⟩;have o0:=Ow.letgo P1 (fun _ z=>z) o1;refine⟨Ox,en1,R1,l,en2,P1.env0,h2,fun H2 R2 P2=>?_⟩;refine⟨Ox,en2,R2,u,en3,P2.env0,h3,fun H3 R3 P3=>?_⟩;have P:=(P1.after P2).after P3;rw[zbi,zbi]at P;exact⟨Own R3 Ox,t1,t,(o0.past0 P2).past0 P3,P3.doms,h4,fun v4 H4 F4 n4 o4=>k v4 H4 R3 F4 (P.fin n4) (nX▸o4)⟩
def SlR.imp{r r':V->Option Int->Option Int->Hp->VK->Prop}(h:SlR X r)(hi:∀x lo hi H Q,r' x lo hi H Q->r x lo hi H Q):SlR X r':=fun ρ s σ H x v vl vu lo hi' sl Q I rx hs pl pu q=>h ρ s σ H x v vl vu lo hi' sl Q I rx hs pl pu (hi _ _ _ _ _ q)
def Bm{g:D->Option Int->Option Int->Option D}{elo ehi:Option Expr}(hr:SlR X (rFs K g d))(he:PE X e (tF K p ds ds1 d1 f))(hl:PO X elo (tFO K p ds1 ds2 lo))(hu:PO X ehi (tFO K p ds2 ds3 hi)):PE X (.Subscript e (.Slice elo ehi none p2) pos) (tF K p ds ds3 d (eSl g f lo hi)):=
 (AH hr he hl hu).imp fun _ _ _=>M1
def du{α:Type}(xs:List α)(lo hi:Option Int):List α:=(xs.drop (HT.sIx xs.length 0 lo)).take (HT.sIx xs.length xs.length hi-HT.sIx xs.length 0 lo)
def gW:D->Option Int->Option Int->Option D
 |.list ts,lo,hi=>some (.list (du ts lo hi))
 |_,_,_=>none
def kA(hK:X.K=K):SlR X (rFs K gW 1):=(MW hK).imp fun x lo hi H Q ⟨O,a,t,oa,hd,hg,k⟩=>by
 cases a with
 |list ts=>
  cases hg;obtain⟨a,vs,e1,f1,w1⟩:=oa.lst0;refine⟨a,vs,e1,f1.sq,fun p hp=>?_⟩;have w2:Ows K O H (du ts lo hi) 0 (kf vs lo hi) NoA:=by
   unfold du kf;rw[w1.len];exact(w1.drop _).take _
  exact k _ _ _ (dR hp hd w2).1 (dR hp hd w2).2
 |_=>cases hg
def fu:D->Option Int->Option Int->Option D
 |.str z,lo,hi=>grd (z.length<=sizeLine) (.str ⟨(bq z.cps.toList lo hi).toArray⟩)
 |_,_,_=>none
def db:SlR X (rFs K fu 3):=sl_str.imp fun x lo hi H Q ⟨O,a,t,oa,hd,hg,k⟩=>by
 cases a with
 |str z=>
  obtain⟨c,rfl⟩:=bD hg;exact⟨z,oa,c,k _ H NoA .refl rfl⟩
 |_=>cases hg
end
def kEq:D->D->Bool
 |.int a,.int b=>a==b
 |.str a,.str b=>a==b
 |_,_=>false
def p7(a b:Key):kEq (kD a) (kD b)=decide (a=b):=by
 cases a with
 |inl i=>cases b with
  |inl j=>rw[y8];rfl
  |inr j=>rw[yZ];rfl
 |inr i=>cases b with
  |inl j=>rw[yY];rfl
  |inr j=>
   rw[yX];show(i==j)=_;by_cases h:i=j
   ·subst h;simp
   ·rw[zaA h,zbK];exact h
def kOf:D->Option Key
 |.int i=>some (.inl i)
 |.str x=>some (.inr x)
 |_=>none
def uz{a:D}{q:Key}(h:kOf a=some q):a=kD q:=by
 cases a<;>cases h<;>rfl
def uc{a:D}{q:Key}{F:AS}(h:kOf a=some q)(o:Ow K O H a d v F):v=kV q:=by
 cases a with
 |int i=>cases h;exact o
 |str i=>cases h;exact o
 |_=>cases h
def gU(ks:List (D×D))(q:D):Option D:=(ks.find? fun kv=>kEq kv.1 q).map (·.2)
def rF(ks:List (D×D))(q t:D):List (D×D):=if ks.any (fun kv=>kEq kv.1 q)then ks.map (fun kv=>if kEq kv.1 q then(kv.1,t)else kv)else ks++[(q,t)]
theorem Owd.look:∀{ks:List (D×D)} {vs:List (Key×V)} {F:AS} (q:Key),Owd K O H ks d vs F->(∃t v,gU ks (kD q)=some t/\fM vs q=some v/\Ow K O H t d v F)\/(gU ks (kD q)=none/\fM vs q=none)
 |[],_,_,q,h=>by rw[show _=[]from h];exact .inr ⟨rfl,rfl⟩
 | (k,t)::ks,_,F,q,h=>by
  obtain⟨q',v,r,F1,F2,e,e2,s1,s2,_,h4,h5⟩:=h;subst e e2;by_cases hq:q'=q
  ·subst hq;refine .inl ⟨t,v,?_,kR rfl,Ow.grow (fun _ z=>z) t s1 h4⟩;unfold gU;rw[zbm,p7,zaB rfl];rfl
  ·have e1:gU ((kD q',t)::ks) (kD q)=gU ks (kD q):=by
    unfold gU;rw[zbm,p7,zaA hq]
   have e2:fM ((q',v)::r) q=fM r q:=kS hq;rw[e1,e2];rcases Owd.look q h5 with⟨t',v',a1,a2,a3⟩|z
   ·exact .inl ⟨t',v',a1,a2,Ow.grow (fun _ z=>z) t' s2 a3⟩
   ·exact .inr z
theorem Owd.any:∀{ks:List (D×D)} {vs:List (Key×V)} {F:AS} (q:Key),Owd K O H ks d vs F->ks.any (fun kv=>kEq kv.1 (kD q))=vs.any (fun kv=>decide (kv.1=q))
 |[],_,_,q,h=>by rw[show _=[]from h];rfl
 | (k,t)::ks,_,F,q,h=>by
  obtain⟨q',v,r,F1,F2,e,e2,_,_,_,_,h5⟩:=h;subst e e2;rw[List.any_cons,List.any_cons,p7,Owd.any q h5]
theorem Owd.len:∀{ks:List (D×D)} {vs:List (Key×V)} {F:AS},Owd K O H ks d vs F->vs.length=ks.length
 |[],_,_,h=>by rw[show _=[]from h];rfl
 | (k,t)::ks,_,F,h=>by
  obtain⟨q',v,r,F1,F2,e,e2,_,_,_,_,h5⟩:=h;rw[e,zac,zac,h5.len]
theorem Owd.rep0{t:D}{v:V}{q:Key}(ht:Ow K O H t 0 v NoA):∀{ks:List (D×D)} {vs:List (Key×V)},Owd K O H ks 0 vs NoA->Owd K O H (ks.map fun kv=>if kEq kv.1 (kD q)then(kv.1,t)else kv) 0 (vs.map fun kv=>if kv.1=q then(kv.1,v)else kv) NoA
 |[],_,h=>by rw[show _=[]from h];rfl
 | (k,u)::ks,_,h=>by
  obtain⟨q',w,r,F1,F2,e,e2,_,_,_,h4,h5⟩:=h;subst e e2;rw[zar,zar];have ih:=Owd.rep0 (q:=q) ht (Owd.any0 ks h5)
  dsimp only
  rw[p7];by_cases hq:q'=q
  ·rw[if_pos hq,if_pos (zaB hq)];exact⟨q',v,_,NoA,NoA,rfl,rfl,fun _ z=>z,fun _ z=>z,fun _ z=>z.elim,ht,ih⟩
  ·rw[if_neg hq,if_neg (by rw[zaA hq];exact zbl)];exact⟨q',w,_,NoA,NoA,rfl,rfl,fun _ z=>z,fun _ z=>z,fun _ z=>z.elim,Ow.any0 u h4,ih⟩
theorem Owd.snoc0{t:D}{v:V}{q:Key}(ht:Ow K O H t 0 v NoA):∀{ks:List (D×D)} {vs:List (Key×V)},Owd K O H ks 0 vs NoA->Owd K O H (ks++[(kD q,t)]) 0 (vs++[(q,v)]) NoA
 |[],_,h=>by
  rw[show _=[]from h];exact⟨q,v,[],NoA,NoA,rfl,rfl,fun _ z=>z,fun _ z=>z,fun _ z=>z.elim,ht,rfl⟩
 | (k,u)::ks,_,h=>by
  obtain⟨q',w,r,F1,F2,e,e2,_,_,_,h4,h5⟩:=h;subst e e2;exact⟨q',w,_,NoA,NoA,rfl,rfl,fun _ z=>z,fun _ z=>z,fun _ z=>z.elim,Ow.any0 u h4,Owd.snoc0 ht (Owd.any0 ks h5)⟩
def Owd.put0{q:Key}{vs:List (Key×V)}(h:Owd K O H ks 0 vs NoA)(ht:Ow K O H t 0 v NoA):Owd K O H (rF ks (kD q) t) 0 (dI vs q v) NoA:=by
 unfold rF dI;rw[h.any q];by_cases hq:(vs.any fun kv=>decide (kv.1=q))=true
 ·rw[if_pos hq,if_pos hq];exact Owd.rep0 ht h
 ·rw[if_neg hq,if_neg hq];exact Owd.snoc0 ht h
def Owd.past{vs:List (Key×V)}{F:AS}(ho:∀a,O' a->O a)(hl:O l)(hf:∀b,F b->b≠l)(h:Owd K O H ks d vs F):Owd K O' (upd H l o) ks d vs F:=by
 refine Owd.mv (G:=F) ⟨fun a u q z=>?_,fun a z=>.inl (ho a z)⟩ ks (fun _ z=>z) h;rw[aG]
 ·exact q
 ·intro za;subst za;rcases z with z|z
  ·exact z hl
  ·exact hf a z rfl
def noT:List (D×D)->Bool
 | (.tuple _,_)::_=>false
 | (.none,_)::_=>false
 |_=>true
def PrD.hd(h:PrD O H rd ks):noT ks=false/\∀q,gU ks (kD q)=none:=by
 obtain⟨kvs,_,_,rfl,_⟩:=h;refine⟨rfl,fun q=>?_⟩;unfold gU;rw[List.find?_eq_none.mpr fun x hx=>?_]
 ·rfl
 ·rcases zay.mp hx with rfl|hx
  ·cases q<;>exact zbl
  ·obtain⟨y,_,rfl⟩:=zaz.mp hx;cases q<;>exact zbl
def Ow.dict0(hk:noT ks=true)(h:Ow K O H (.dict ks) 0 v NoA):∃a vs,v=.ref a/\Rd H a (.dK vs)/\Owd K O H ks 0 vs NoA:=by
 obtain⟨a,vs,e,⟨_,h1,_,h2⟩|⟨z,_⟩|⟨_,⟨h1,_⟩|⟨cn,C,h1,_⟩⟩|⟨z,_⟩⟩:=h
 ·exact⟨a,vs,e,h1,h2⟩
 ·exact absurd rfl z
 ·rw[h1.hd.1]at hk;cases hk
 ·rw[h1]at hk;cases hk
 ·cases z
def Ow.dict1{F:AS}(hd:d≠0/\d≠4)(h:Ow K O H (.dict ks) d v F):∃a vs,v=.ref a/\H a=some (.dK vs)/\F a/\∃F':AS,(∀b,F' b->F b/\b≠a)/\Owd K O H ks (dn d) vs F':=by
 obtain⟨a,vs,e,⟨z,_⟩|⟨_,h1,h2,h3⟩|⟨z,_⟩|⟨z,_⟩⟩:=h
 ·exact absurd z hd.1
 ·exact⟨a,vs,e,h1,h2,h3⟩
 ·exact absurd z hd.1
 ·exact absurd z hd.2
def qr:ME:=eC (.dict [])
def Ny:D->D->Option D
 |.dict ks,q=>(kOf q).bind fun _=>gU ks q
 |_,_=>none
section
variable{a c o k:Expr}      
def GC:PE X (.Dict [] [] pos) (tF K p ds ds 3 qr):=pe_dnewK.imp fun σ H Q ⟨Ox,en,R,t,en',e,hf,k⟩=>by
 cases hf;intro l hl;have n:NewTo H (upd H l (.dK [])) (fun b=>b=l):=bu hl;exact k (.ref l) _ R _ (Post.new e n.1 n.2) ⟨l,[],rfl,.inr (.inl ⟨by decide,aC,rfl,NoA,fun _ z=>z.elim,rfl⟩)⟩
def b7(i:Nat)(f:ME):ME:=fun en=>(en[i]?).join.bind fun _=>(f en).bind fun r=>match (r.2[i]?).join with
 |some (.dict ks)=>(kOf r.1).bind fun _=>(gU ks r.1).map fun t=>(t,r.2)
 |_=>none
def GI(hd:ds1[i]?=some 1)(h:tF K p ds ds1 0 (b7 i f) σ H Q):Eb (kU i) (tF K p ds ds1 d1 f) σ H Q:=by
 obtain⟨Ox,en,R,t,en',e,hf,k⟩:=h;unfold b7 at hf;obtain⟨t0,h0,hf⟩:=zaa.mp hf;obtain⟨⟨t1,en1⟩,h1,hf⟩:=zaa.mp hf
 dsimp only at hf
 split at hf
 case h_2=>cases hf
 next ks h2=>
 obtain⟨q,hq,hf⟩:=zaa.mp hf;obtain⟨t',h3,hf⟩:=zab.mp hf;cases hf;obtain⟨v,d0,a1,_,a3⟩:=e.at_ i _ (bo h0);refine⟨v,a1,Ox,en,R,t1,_,e,h1,fun x H1 R1 F P o=>?_⟩;obtain⟨v',d',b1,b2,b3⟩:=P.env.at_ i _ (bo h2);rw[a1]at b1;cases b1;rw[hd]at b2;cases b2;obtain⟨l,vs,el,hl,hr,F',hf',ow⟩:=b3.dict1 (by decide);rw[uz hq]at h3;rcases ow.look q with⟨t'',w,c1,c2,c3⟩|⟨z,_⟩
 ·rw[h3]at c1;cases c1;refine⟨l,w,el,?_,k w H1 R1 NoA (P.less fun _ z=>z.elim) ?_⟩
  ·rw[<-c2,uc hq o];exact DGet.k hl
  ·exact Ow.any0 _ (Ow.grow (fun a z=>z.imp id fun z=>z.elim (fun z=>False.elim z) Or.inr) _ (fun _ z=>z) c3)
 ·rw[h3]at z;cases z
def Bu(hu:X.A.units+1<cLine)(hN:X.N[i]?=some x)(hv:Vis X.env.scope x)(h1:ds1[i]?=some 1)(hi:PE X k (tF K p ds ds1 d1 f))(hs:xX k)(hd:(x==("__debug__":Str))=false)(hcd:(x==("__classdict__":Str))=false):
  PE X (.Subscript (.Name x px) k pos) (tF K p ds ds1 0 (b7 i f)):=(Fm hu (gk hN hv hd hcd) hi hs).imp fun _ _ _=>GI h1
def eA(i:Nat)(fk fe:ME):MS:=fun en=>(fe en).bind fun r=>match (r.2[i]?).join with
 |some _=>(fk r.2).bind fun q=>match (q.2[i]?).join with
  |some (.dict ks)=>(kOf q.1).bind fun _=>if ks.length<sizeLine then some (.nx (q.2.set i (some (.dict (rF ks q.1 r.1)))))else none
  |_=>none
 |none=>none
def FY(hd:ds2[i]?=some 1)(h:tFS K J ds ds2 (eA i fk fe) Dn σ H):Ee (kU i) (tF K false ds1 ds2 d2 fk) (tF K false ds ds1 0 fe) Dn σ H:=by
 obtain⟨Ox,en,R,fl,e,hf,k⟩:=h;unfold eA at hf;obtain⟨⟨t1,en1⟩,h1,hf⟩:=zaa.mp hf
 dsimp only at hf
 split at hf
 case h_2=>cases hf
 next tt h0=>
 obtain⟨⟨t2,en2⟩,h2,hf⟩:=zaa.mp hf
 dsimp only at hf
 split at hf
 case h_2=>cases hf
 next ks h3=>
 obtain⟨q,hq,hf⟩:=zaa.mp hf;by_cases ξ:ks.length<sizeLine
 case neg=>rw[if_neg ξ]at hf;cases hf
 rw[if_pos ξ]at hf;cases hf;refine⟨Ox,en,R,t1,en1,e,h1,fun x H1 R1 F1 P1 o1=>?_⟩;obtain⟨v0,d0,a1,_,_⟩:=P1.env.at_ i tt (bo h0);refine⟨v0,a1,?_⟩;refine⟨U F1 Ox,en1,R1,t2,en2,P1.env,h2,fun y H2 R2 F2 P2 o2=>?_⟩;have P:=P1.trans P2;have o1':=Ow.over P1.env P2 o1;have w1:=Ow.letgo P (fun _=>.inl) o1';obtain⟨v',d',b1,b2,b3⟩:=P.env.at_ i _ (bo h3);rw[a1]at b1;cases b1;rw[hd]at b2;cases b2;obtain⟨l,vs,el,hl,hr,F',hf',ow⟩:=b3.dict1 (by decide);have eq:=uc hq o2;subst eq;refine⟨l,_,el,DPut.k hl (by rw[ow.len];exact ξ),?_⟩;have hi:i<en2.length:=(zah.mp (bo h3)).1;have gG:∀a,(fun a=>R2 i a) a->R2 i a\/U F1 F2 a:=fun a z=>.inl z;have sub:=qA (i:=i) (R1:=R2) (Ox:=Ox) (G:=fun a=>R2 i a) (F':=NoA) (F:=U F1 F2) gG (fun _ z=>z.elim);have Ol:Own R2 (U (U F1 F2) Ox) l:=.inl ⟨i,hr⟩;have PS:=P.slot (G:=fun a=>R2 i a) (F':=NoA) (o2:=.dK (dI vs q x)) (t:=.dict (rF ks t2 t1)) hr hi a1 hd gG (fun _ z=>z.elim) (fun _ _ z=>z) ?_
 ·exact k σ _ _ PS.s
 refine⟨l,dI vs q x,el,.inr (.inl ⟨by decide,aC,hr,NoA,fun _ z=>z.elim,?_⟩)⟩;rw[uz hq];refine Owd.put0 (Owd.past sub Ol (fun _ z=>z.elim) (Owd.any0 ks ow)) ?_;refine Ow.past (O:=Own R2 Ox) (fun a z=>?_) (.inl ⟨i,hr⟩) (fun _ z=>z.elim) w1;rcases z with⟨j,z⟩|z|z
 ·by_cases hj:j=i
  ·rw[if_pos hj]at z;exact .inl ⟨i,z⟩
  ·rw[if_neg hj]at z;exact .inl ⟨j,z⟩
 ·exact z.elim
 ·exact .inr z
def Bd(hu:X.A.units+1<cLine)(hN:X.N[i]?=some x)(hv:Vis X.env.scope x)(he:PE X e (tF K false ds ds1 0 fe))(hk:PE X k (tF K false ds1 ds2 d2 fk))(h1:ds2[i]?=some 1)
  (hdb:(x==("__debug__":Str))=false) (hcd:(x==("__classdict__":Str))=false) (hs:swapsWith e (some (.Subscript (.Name x px) k ζ)) pos.line X.env=pure false):
  PS X (.Assign [.Subscript (.Name x px) k ζ] e pos) (tFS K J ds ds2 (eA i fk fe)):=(E8 hu (gk hN hv hdb hcd) hk he hs).imp fun _ _ _=>FY h1
end
def evP:List (ME×ME)->En->Option (List (D×D)×En)
 |[],en=>some ([],en)
 | (fk,fv)::r,en=>(fk en).bind fun x=>(fv x.2).bind fun y=>(evP r y.2).bind fun z=>(kOf x.1).map fun _=>((x.1,y.1)::z.1,z.2)
def JX(ks:List (D×D)):List (D×D):=ks.foldl (fun acc kv=>rF acc kv.1 kv.2) []
def nU(fs:List (ME×ME)):ME:=fun en=>(evP fs en).bind fun r=>if r.1.length<=15 then some (.dict (JX r.1),r.2)else none
def OwP(K:zbS)(O:AS)(H:Hp):List (D×D)->List (V×V)->Prop
 |[],ps=>ps=[]
 | (k,t)::r,ps=>∃q v s,ps=(kV q,v)::s/\k=kD q/\Ow K O H t 0 v NoA/\OwP K O H r s
section
variable{a c o k:Expr}         
theorem OwP.mv{O O':AS}{H H':Hp}(m:Mv O O' NoA H H'):∀{ks:List (D×D)} {ps:List (V×V)},OwP K O H ks ps->OwP K O' H' ks ps
 |[],_,h=>h
 | (k,t)::r,_,h=>by
  obtain⟨q,v,s,e1,e2,o,h⟩:=h;exact⟨q,v,s,e1,e2,Ow.mv m t (fun _ z=>z) o,OwP.mv m h⟩
def trs(K:zbS)(p:Bool)(ds:List Nat)(fs:List (ME×ME)):List (TE×TE):=fs.map fun q=>(tF K p ds ds 3 q.1,tF K p ds ds 0 q.2)
def Fb{F:AS}(P:Post K p ds1 Ox σ H en R en1 H1 R1 F):Mv (Own R Ox) (Own R1 Ox) NoA H H1:=by
 refine⟨fun a o q z=>P.keep a o q fun i zi=>?_,fun a z=>?_⟩
 ·rcases z with z|z
  ·exact z (.inl ⟨i,zi⟩)
  ·exact z
 ·rcases z with z|z
  ·exact(P.own a (.inr z)).imp .inl id
  ·exact .inl (.inr z)
theorem wv:∀{fs:List (ME×ME)} {σ:St} {H:Hp} {Ox:AS} {en en':En} {R:Nat->AS} {ks:List (D×D)} {QP:List (V×V)->Hp->Prop},EnvOk K ds Ox H σ en R->evP fs en=some (ks,en') ->
  (∀ps H' R',Post K p ds Ox σ H en R en' H' R' NoA->OwP K (Own R' Ox) H' ks ps->QP ps H')->pH (trs K p ds fs) σ H QP
 |[],σ,H,Ox,en,en',R,ks,QP,e,hf,k=>by
  cases hf;exact k [] H R (Post.refl e) rfl
 | (fk,fv)::r,σ,H,Ox,en,en',R,ks,QP,e,hf,k=>by
  unfold evP at hf;obtain⟨⟨t1,en1⟩,h1,hf⟩:=zaa.mp hf;obtain⟨⟨t2,en2⟩,h2,hf⟩:=zaa.mp hf;obtain⟨⟨ks3,en3⟩,h3,hf⟩:=zaa.mp hf;obtain⟨q,hq,hf⟩:=zab.mp hf;cases hf;refine⟨Ox,en,R,t1,en1,e,h1,fun x H1 R1 F1 P1 o1=>?_⟩;refine⟨Ox,en1,R1,t2,en2,P1.env0,h2,fun y H2 R2 F2 P2 o2=>?_⟩;refine wv P2.env0 h3 fun ps H3 R3 P3 op=>?_;have PP:=(P1.after P2).after P3;rw[zbi,zbi]at PP;refine k _ H3 R3 PP ⟨q,y,ps,?_,uz hq,?_,op⟩
  ·rw[uc hq o1]
  ·exact Ow.mv (Fb P3) t2 (fun _ z=>z) (Ow.letgo P2 (fun _ z=>z) o2)
theorem uo{O:AS}:∀{ks:List (D×D)} {kvs:List (Key×V)} {acc:List (D×D)} {avs:List (Key×V)},OwP K O H ks (kvs.map fun kv=>(kV kv.1,kv.2))->Owd K O H acc 0 avs NoA->Owd K O H (ks.foldl (fun acc kv=>rF acc kv.1 kv.2) acc) 0 (h8 avs kvs) NoA
 |[],kvs,acc,avs,h,ha=>by
  have:kvs=[]:=List.map_eq_nil_iff.mp h;subst this;exact ha
 | (k,t)::r,kvs,acc,avs,h,ha=>by
  obtain⟨q,v,s,e1,e2,o,h⟩:=h;cases kvs with
  |nil=>cases e1
  |cons kv kvs=>
   rw[zar]at e1;injection e1 with e3 e4
   injection e3 with e5 e6
   have:=J4 e5;subst this e6 e4 e2;exact uo (ks:=r) (kvs:=kvs) h (ha.put0 o)
theorem wa{O:AS}:∀{ks:List (D×D)} {ps:List (V×V)},OwP K O H ks ps->∃kvs:List (Key×V),ps=kvs.map (fun kv=>(kV kv.1,kv.2))/\kvs.length=ks.length
 |[],_,h=>⟨[],h,rfl⟩
 | (k,t)::r,_,h=>by
  obtain⟨q,v,s,e1,e2,o,h⟩:=h;obtain⟨kvs,e3,e4⟩:=wa h;exact⟨(q,v)::kvs,by rw[e1,e3];rfl,by rw[zac,zac,e4]⟩
def Li(h:tF K p ds ds 1 (nU fs) σ H Q):Ea (trs K p ds fs) σ H Q:=by
 obtain⟨Ox,en,R,t,en',e,hf,k⟩:=h;unfold nU at hf;obtain⟨⟨ks,en1⟩,h1,hf⟩:=zaa.mp hf;by_cases hl:ks.length<=15
 case neg=>rw[if_neg hl]at hf;cases hf
 rw[if_pos hl]at hf;cases hf;intro l hl0;have n0:=bu (o:=.dK []) hl0;have P0:Post K true ds Ox σ H en R en (upd H l (.dK [])) R (fun b=>b=l):=Post.new e n0.1 n0.2;refine wv P0.env h1 fun ps H2 R2 P op=>?_;obtain⟨kvs,e1,e2⟩:=wa op;have lO:U (fun b=>b=l) Ox l:=.inl rfl;have hl2:H2 l=some (.dK []):=P.keep l _ aC fun i z=>by
  obtain⟨o,q⟩:=e.dom l (.inl ⟨i,z⟩);rw[hl0]at q;cases q
 have nl2:∀i,¬R2 i l:=fun i z=>P.env.dx i l z (.inr lO);refine⟨hl2,kvs,e1,by omega,?_⟩;have PP:=P0.trans P;rw[zaG]at PP;have eU:U (fun b=>b=l) NoA=(fun b=>b=l):=gY fun a=>⟨fun z=>z.elim id fun z=>z.elim,.inl⟩;rw[eU]at PP;have gV:∀a o,H2 a=some o->a≠l->upd H2 l (.dK (h8 [] kvs)) a=some o:=fun a o q n=>by rw[aG n];exact q
 have OO:∀a,Own R2 (U (fun b=>b=l) Ox) a->Own R2 (U (U (fun b=>b=l) Ox) NoA) a:=fun a z=>z.imp id .inl;refine k (.ref l) _ R2 (fun b=>b=l) ⟨⟨fun j u hu=>?_,PP.env.dj,PP.env.dx,fun a z=>?_,PP.env.l1,PP.env.l2⟩,PP.fx,fun a o q n=>?_,PP.own,fun a o q=>?_,fun hp=>?_⟩ ⟨l,_,rfl,.inr (.inl ⟨by decide,aC,rfl,NoA,fun _ z=>z.elim,?_⟩)⟩
 ·obtain⟨v',d',g1,g2,g3⟩:=PP.env.at_ j u hu;refine⟨v',d',g1,g2,Ow.mv (G:=R2 j) ⟨fun a o q z=>gV a o q fun za=>?_,fun a z=>.inl z⟩ u (fun _ z=>z) g3⟩;subst za;rcases z with z|z
  ·exact z (.inr lO)
  ·exact nl2 j z
 ·by_cases ha:a=l
  ·subst ha;exact⟨_,aC⟩
  ·obtain⟨o,q⟩:=PP.env.dom a z;exact⟨o,gV a o q ha⟩
 ·refine gV a o (PP.keep a o q n) fun za=>?_;subst za;rw[hl0]at q;cases q
 ·obtain⟨o',q'⟩:=PP.dom a o q;by_cases ha:a=l
  ·subst ha;exact⟨_,aC⟩
  ·exact⟨o',gV a o' q' ha⟩
 ·obtain⟨b1,b2,b3⟩:=PP.pure hp;refine⟨b1,b2,fun a o q=>gV a o (b3 a o q) fun za=>?_⟩;subst za;rw[hl0]at q;cases q
 ·have op2:OwP K (Own R2 (U (fun b=>b=l) Ox)) (upd H2 l (.dK (h8 [] kvs))) ks (kvs.map fun kv=>(kV kv.1,kv.2)):=by
   rw[e1]at op;refine OwP.mv ⟨fun a o q z=>gV a o q fun za=>?_,fun a z=>.inl z⟩ op;subst za;rcases z with z|z
   ·exact z (.inr lO)
   ·exact z
  exact uo op2 rfl
def GD{keys:List (Option Expr)}{values:List Expr}(h:PPs X pos keys values (trs K p ds fs))(hall:keys.all (·.isSome)=true)(hl:keys.length=values.length)(h0:keys≠[])(h15:keys.length<=15):
  PE X (.Dict keys values pos) (tF K p ds ds 1 (nU fs)):=(Fk h hall hl h0 h15).imp fun _ _ _=>Li
def KC:PPs X pos [] [] (trs K p ds []):=E9
def Gc{k v:Expr}{ks:List (Option Expr)}{vs:List Expr}{fv:ME}(hk:PE X k (tF K p ds ds 3 fk))(hv:PE X v (tF K p ds ds 0 fv))(hr:PPs X pos ks vs (trs K p ds fs)):PPs X pos (some k::ks) (v::vs) (trs K p ds ((fk,fv)::fs)):=AD hk hv hr
def Nq(i j:Nat)(fa:MA):MS:=fun en=>(fa en).bind fun r=>match r.1 with
 |[.inl a,.inl b]=>some (.nx ((r.2.set i (some a)).set j (some b)))
 |_=>none
end
section
variable{ws:List V}{x:V} 
def zp:List D->Option (List Int)
 |[]=>some []
 |.int i::r=>(zp r).map (i::·)
 |_::_=>none
def Np:List D->Option D
 |[.list ts]=>(zp ts).map fun ns=>.int ns.sum
 |_=>none
end
theorem Ows.cat{us:List D}{ws:List V}{F2:AS}:∀{ts:List D} {vs:List V} {F1:AS},Ows K O H ts d vs F1->Ows K O H us d ws F2->(∀b,F1 b->¬F2 b)->Ows K O H (ts++us) d (vs++ws) (U F1 F2)
 |[],vs,F1,h,h2,_=>by
  have e:vs=[]:=h;subst e;exact Ows.mv (G:=fun _=>True) ⟨fun _ _ q _=>q,fun _ z=>.inl z⟩ us (fun _ _=>trivial) (Ows.grow (fun _ z=>z) us (fun _ z=>.inr z) h2)
 |u::ts,vs,F1,h,h2,hd=>by
  obtain⟨w,r,G1,G2,e,s1,s2,s3,h4,h5⟩:=h;subst e;refine⟨w,r++ws,G1,U G2 F2,rfl,fun b z=>.inl (s1 b z),fun b z=>z.imp (s2 b) id,fun b z z2=>?_,h4,Ows.cat h5 h2 fun b z=>hd b (s2 b z)⟩;rcases z2 with z2|z2
  ·exact s3 b z z2
  ·exact hd b (s1 b z) z2
section
variable{ws:List V}{b:Addr}
def fm(ts us:List D):List D:=List.zipWith (fun x y=>.tuple [x,y]) ts us
def JN{u:D}{w:V}{q:Addr}(hp:H q=none)(h3:∀a,O1 a->∃o,H a=some o)(ov:Ow K O1 H t 0 v NoA)(ow:Ow K O1 H u 0 w NoA):(∀a o,H a=some o->upd H q (.tup [v,w]) a=some o)/\Ow K O1 (upd H q (.tup [v,w])) (.tuple [t,u]) 0 (.ref q) NoA:=by
 have g:=(bu (o:=.tup [v,w]) hp).1;refine⟨g,q,[v,w],rfl,.inl ⟨rfl,⟨aC,fun z=>?_⟩,v,[w],NoA,NoA,rfl,fun _ z=>z,fun _ z=>z,fun _ z=>z.elim,?_,w,[],NoA,NoA,rfl,fun _ z=>z,fun _ z=>z,fun _ z=>z.elim,?_,rfl⟩⟩
 ·obtain⟨o,e⟩:=h3 q z;rw[hp]at e;cases e
 ·exact Ow.mv (G:=NoA) ⟨fun a o e _=>g a o e,fun a z=>.inl z⟩ t (fun _ z=>z) ov
 ·exact Ow.mv (G:=NoA) ⟨fun a o e _=>g a o e,fun a z=>.inl z⟩ u (fun _ z=>z) ow
def Nm(fa:MA):MI:=fun en=>(fa en).bind fun r=>match r.1 with
 |[.inl (.list ts),.inl (.list us)]=>some (fm ts us,r.2)
 |_=>none
end
def wJ:List String:=["int","bool","str","list","tuple","dict"]
theorem wn(a:D):∀{Ts:List String},(∀T∈Ts,T∈wJ)->PySem.W.kitAny K (.type (tyN a)) (Ts.map Value.type)=some (Ts.any fun T=>bN (tyN a) T)
 |[],_=>rfl
 |T::Ts,h=>by
  have e1:=rp (K:=K) (h T zaq) a;have e2:=wn a (Ts:=Ts) fun x hx=>h x (zaj _ hx);show(match PySem.W.kitOne K (.type (tyN a)) (.type T)with
   |some true=>some true
   |some false=>PySem.W.kitAny K (.type (tyN a)) (Ts.map Value.type)
   |none=>none)=_
  rw[e1,List.any_cons];cases bN (tyN a) T with
  |true=>rfl
  |false=>rw[e2];rfl
def LI(K:zbS):List V->Hp->VK->Prop:=fun xs H Q=>∃(x:V) (tp:Addr) (Ts:List String) (O:AS) (a:D),xs=[x,.ref tp]/\Ow K O H a 0 x NoA/\isX a=false/\H tp=some (.tup (Ts.map V.ty))/\(∀T∈Ts,T∈wJ)/\Q (.bl (Ts.any fun T=>bN (tyN a) T)) H
theorem vP:∀{Ts:List String} {us:List Value},Vals (Ts.map V.ty) us->us=Ts.map Value.type
 |[],_,.nil=>rfl
 |T::Ts,_,.cons h t=>by
  rw[vP t];exact congrArg (·::Ts.map Value.type) h
def Ah:CallR X (.builtin "isinstance") (LI X.K):=by
 intro ρ s σ H xs us Q I r h;obtain⟨x,tp,Ts,O,a,rfl,oa,hX,ht,hT,q⟩:=h;obtain⟨u,u2,rfl,r1,r2⟩:=r.two;cases r2;have ek:=wn (K:=X.K) a hT;obtain⟨zl,its,rv,o,h1,h2,n,h3,_⟩:=(show ObjOk X.prog X.w H s.heap tp (.tup (Ts.map V.ty))from I.hok tp _ ht);have ei:=vP rv;subst ei;obtain⟨oc,od,oda,os⟩:=o;cases h2;cases h3;have fin:∀tk,EP X ρ σ Q (.bool (Ts.any fun T=>bN (tyN a) T)) { s with toks:=tk }:=fun tk=>⟨.bl _,H,I.tok tk,rfl,q⟩;cases a with
 |none=>
  have:x=.non:=oa;subst this;cases(show u=Value.none from r1);exact PySem.W.kia_tup PySem.W.kitx_none I.kIn True.intro h1 ek (fun z=>nomatch z) fin
 |bool b=>
  have:x=.bl b:=oa;subst this;cases(show u=Value.bool b from r1);exact PySem.W.kia_tup PySem.W.kitx_bool I.kIn True.intro h1 ek (fun z=>nomatch z) fin
 |int b=>
  have:x=.int b:=oa;subst this;obtain⟨t,rfl⟩:=(show ∃t,u=Value.int b t from r1);exact PySem.W.kia_tup PySem.W.kitx_int I.kIn True.intro h1 ek (fun z=>nomatch z) fin
 |str b=>
  have:x=.str b:=oa;subst this;obtain⟨t,rfl⟩:=(show ∃t,u=Value.str b t from r1);exact PySem.W.kia_tup PySem.W.kitx_str I.kIn True.intro h1 ek (fun z=>nomatch z) fin
 |tuple ts=>
  obtain⟨p,vs,rfl,fz,w⟩:=oa.tup0;cases r1;obtain⟨its,rv,pl,_⟩:=I.tuple fz.sq;obtain⟨o,g1,g2,_⟩:=pl;exact PySem.W.kia_tup PySem.W.kitx_tuple I.kIn ⟨o,g1,g2⟩ h1 ek (fun z=>nomatch z) fin
 |dict ts=>
  have go:∀{p:Addr} {kvs:List (Key×V)},x=.ref p->Rd H p (.dK kvs)->wpAny (model X.prog X.w) X.A (call (.builtin "isinstance") [u,.ref tp]) (EP X ρ σ Q) X.xe s:=fun {p kvs} ex ea=>by
   subst ex;cases(show u=Value.ref p from r1);obtain⟨_,_,vs,_,pp⟩:=(show ObjOk X.prog X.w H s.heap p (.dK kvs)from ea.ok I.hok);obtain⟨o,es,ep,g1,g2,_⟩:=pp;exact PySem.W.kia_tup PySem.W.kitx_dict I.kIn ⟨o,g1,g2.1⟩ h1 ek (fun z=>nomatch z) fin
  obtain⟨p,vs,ex,⟨_,h1,_⟩|⟨_,h1,_⟩|⟨_,⟨⟨_,_,_,_,h2,_⟩,_⟩|⟨cn,C,h0,_⟩⟩|⟨_,_,_,_,_,_,h2,_⟩⟩:=oa
  ·exact go ex h1
  ·exact go ex (.inl h1)
  ·subst ex;cases(show u=Value.ref p from r1);obtain⟨_,_,xs,_,o,es,ep,g1,g2,_⟩:=(show ObjOk X.prog X.w H s.heap p (.dT _ _)from h2.ok I.hok);exact PySem.W.kia_tup PySem.W.kitx_dict I.kIn ⟨o,g1,g2.1⟩ h1 ek (fun z=>nomatch z) fin
  ·subst h0;cases hX
  ·subst ex;cases(show u=Value.ref p from r1);obtain⟨_,_,xs,_,o,es,ep,g1,g2,_⟩:=(show ObjOk X.prog X.w H s.heap p (.dT _ _)from I.hok p _ h2);exact PySem.W.kia_tup PySem.W.kitx_dict I.kIn ⟨o,g1,g2.1⟩ h1 ek (fun z=>nomatch z) fin
 |list ts=>
  obtain⟨p,vs,rfl,fz,w⟩:=oa.lst0;cases r1;obtain⟨its,rv,pl,_⟩:=I.list fz.sq;obtain⟨o,n,g1,g2,_⟩:=pl;exact PySem.W.kia_tup PySem.W.kitx_list I.kIn ⟨o,g1,g2⟩ h1 ek (fun z=>nomatch z) fin
def lA(Ts:List String):D->Option D:=fun a=>if isX a=true then none else some (.bool (Ts.any fun T=>bN (tyN a) T))
def Gz{T1 T2:Str}{n1 n2:String}{p1 p2 tp:Pos}{kk:Nat}(hK:X.K=K)(hg:Gl X "isinstance")(hm:X.mg "isinstance"=none)(hg1:Gl X T1)(hm1:X.mg T1=none)(hb1:bootBuiltins T1=some (.type n1))(hg2:Gl X T2)(hm2:X.mg T2=none)(hb2:bootBuiltins T2=some (.type n2))(hT:∀T∈[n1,n2],T∈wJ)(he:PE X e (tF K p ds ds1 d1 f))
  (hn1:T1≠"__name__") (hd1:(T1==("__debug__":Str))=false) (hn2:T2≠"__name__") (hd2:(T2==("__debug__":Str))=false) (hs:av e=true):
  PE X (.Call (.Name "isinstance" px) [e,.Tuple [.Name T1 p1,.Name T2 p2] kk tp] [] pos) (tF K p ds ds1 3 (e1 (lA [n1,n2]) f)):=by
 subst hK;refine(fN Ah hg hm boot_isinstance (ba he (ba (ua (ba (nL (v:=.ty n1) hg1 hm1 hb1 rfl hn1 hd1) (ba (nL (v:=.ty n2) hg2 hm2 hb2 rfl hn2 hd2) pa_nil (aD rfl)) (aD rfl))) pa_nil (aD rfl)) (aD hs)) (by decide) (by decide) (aD hs) (cf rfl)).imp fun σ H Q h=>?_;obtain⟨Ox,en,R,t,en',e,hf,k⟩:=h;unfold e1 at hf;obtain⟨⟨t1,en1⟩,h1,hf⟩:=zaa.mp hf;obtain⟨t',h3,hf⟩:=zab.mp hf;cases hf;unfold lA at h3;by_cases hX:isX t1=true
 ·rw[if_pos hX]at h3;cases h3
 rw[if_neg hX]at h3;cases h3;refine⟨Ox,en,R,t1,en1,e,h1,fun v H' R' F P o=>?_⟩;refine⟨zau (by show 2<=63;decide) (by rw[sizeLine_eq];decide),fun q hq=>?_⟩;have g:=(bu (o:=.tup [.ty n1,.ty n2]) hq).1;refine⟨v,q,[n1,n2],Own R' Ox,t1,rfl,Ow.mv (G:=NoA) ⟨fun a o e _=>g a o e,fun a z=>.inl z⟩ t1 (fun _ z=>z) (Ow.letgo P (fun _ z=>z) o),Bool.eq_false_iff.mpr hX,aC,hT,?_⟩;exact k _ _ R' NoA ((P.less (F':=NoA) fun _ z=>z.elim).fin ⟨g,fun _ z=>z.elim⟩) rfl
def eM(g:Str->List D->Option D)(f:ME)(fa:MA):ME:=fun en=>(f en).bind fun r=>match r.1 with
 |.str z=>(fa r.2).bind fun q=>(vals q.1).bind fun ts=>(g z ts).map fun t=>(t,q.2)
 |_=>none
structure MtF(K:zbS)(r:V->List V->Hp->VK->Prop)(g:Str->List D->Option D):Prop where
 h:∀{O:AS} {H:Hp} {z:Str} {ts:List D} {xs:List V} {t:D} {Q:VK},Ows K O H ts 0 xs NoA->g z ts=some t->(∀v,Ow K O H t 3 v NoA->Q v H)->r (.str z) xs H Q
def Lf{g:Str->List D->Option D}(hr:MtF K r g)(hs:b9 0 sh=true)(h:tF K (p1&&p2) ds ds2 3 (eM g f fa) σ H Q):tBM K "str" r (tF K p1 ds ds1 d1 f) (tFA K p2 ds1 ds2 sh fa) σ H Q:=by
 obtain⟨Ox,en,R,t,en',e,hf,k⟩:=h;unfold eM at hf;obtain⟨⟨t1,en1⟩,h1,hf⟩:=zaa.mp hf
 dsimp only at hf
 split at hf
 case h_2=>cases hf
 next z=>
 obtain⟨⟨as,en2⟩,h2,hf⟩:=zaa.mp hf;obtain⟨ts,h3,hf⟩:=zaa.mp hf;obtain⟨t',h4,hf⟩:=zab.mp hf;cases hf;refine⟨Ox,en,R,.str z,en1,e,h1,fun x H1 R1 F1 P1 o1=>?_⟩;have ex:x=.str z:=o1;subst ex;refine⟨rfl,Ox,en1,R1,as,en2,P1.env0,h2,fun vs H2 R2 F P2 o=>?_⟩;have P:=P1.after P2;obtain⟨F',s1,s2⟩:=OwA.ows hs h3 o;have o2:Ows K (Own R2 Ox) H2 ts 0 vs F':=s2 _ (fun a z=>z.imp id .inr) fun a z z2=>by
  rcases z2 with⟨i,z2⟩|z2
  ·exact absurd (.inl z) (P.env.dx i a z2)
  ·exact absurd z2 (P.fx a z)
 refine hr.h (Ows.any0 ts o2) h4 fun v ov=>k v H2 R2 NoA (P.less fun _ z=>z.elim) ?_;rw[iA];exact ov
def joinD:Str->List D->Option D
 |sep,[.list ts]=>(strsOf ts).bind fun ys=>if sep.length<=16/\(ys.map (·.length)).sum+ys.length<=1048576 then some (.str (Txt.join sep ys))else none
 |sep,[.tuple ts]=>(strsOf ts).bind fun ys=>if sep.length<=16/\(ys.map (·.length)).sum+ys.length<=1048576 then some (.str (Txt.join sep ys))else none
 |_,_=>none
where strsOf:List D->Option (List Str)
 |[]=>some []
 |.str z::r=>(strsOf r).map (z::·)
 |_::_=>none
theorem lg{O:AS}:∀{ts:List D} {ys:List Str} {xs:List V},joinD.strsOf ts=some ys->Ows K O H ts 0 xs NoA->xs=ys.map V.str
 |[],ys,xs,h,o=>by
  cases h;exact o
 |t::ts,ys,xs,h,o=>by
  obtain⟨v,r,F1,F2,e,_,_,_,h4,h5⟩:=o;cases t with
  |str z=>
   obtain⟨ys',h6,rfl⟩:=zab.mp h;have e4:v=.str z:=h4;rw[e,e4,lg h6 (Ows.any0 ts h5)];rfl
  |_=>cases h
def cV:MtF K (Ei K) joinD where
 h:=fun {O H z ts xs t Q} o hg q=>by
  unfold joinD at hg;split at hg
  ·next us=>
   obtain⟨ys,h1,h2⟩:=zaa.mp hg;by_cases hc:z.length<=16/\(ys.map (·.length)).sum+ys.length<=1048576
   case neg=>rw[if_neg hc]at h2;cases h2
   rw[if_pos hc]at h2;cases h2;obtain⟨v,r,F1,F2,e,_,_,_,h4,h5⟩:=o;have e5:r=[]:=h5;subst e5 e;obtain⟨a,vs,rfl,fz,w⟩:=(Ow.any0 _ h4).lst0;have e6:=lg h1 w;subst e6;exact⟨z,ys,a,rfl,rfl,.inl fz.sq,hc.1,hc.2,q _ rfl⟩
  ·next us=>
   obtain⟨ys,h1,h2⟩:=zaa.mp hg;by_cases hc:z.length<=16/\(ys.map (·.length)).sum+ys.length<=1048576
   case neg=>rw[if_neg hc]at h2;cases h2
   rw[if_pos hc]at h2;cases h2;obtain⟨v,r,F1,F2,e,_,_,_,h4,h5⟩:=o;have e5:r=[]:=h5;subst e5 e;obtain⟨a,vs,rfl,fz,w⟩:=(Ow.any0 _ h4).tup0;have e6:=lg h1 w;subst e6;exact⟨z,ys,a,rfl,rfl,.inr fz.sq,hc.1,hc.2,q _ rfl⟩
  ·cases hg
def gJ:Str->List D->Option D
 |z,[.str y]=>some (.bool (Txt.startswith z y))
 |_,_=>none
def Nn:Str->List D->Option D
 |z,[.str y]=>some (.bool (Txt.endswith z y))
 |_,_=>none
def AK{y:Str}{xs:List V}(o:Ows K O H [.str y] 0 xs NoA):xs=[.str y]:=by
 obtain⟨v,r,F1,F2,e,_,_,_,h4,h5⟩:=o;have e4:v=.str y:=h4;have e5:r=[]:=h5;rw[e,e4,e5]
def jP:MtF K v7 gJ where
 h:=fun {O H z ts xs t Q} o hg q=>by
  unfold gJ at hg;split at hg
  ·next y=>
   cases hg;exact⟨z,y,rfl,AK o,q _ rfl⟩
  ·cases hg
def Gw{o:Expr}{name:Str}{id:String}{g:Str->List D->Option D}(hK:X.K=K)(slot:Slot "str" name id)(hty:typeOf (.builtin id)=pure (.type "method_descriptor"))(hm:MtR X id r)(hr:MtF K r g)(ho:PE X o (tF K p ds ds1 d1 f))(ha:PA X (e::es) (tFA K p ds1 ds2 sh fa))
  (hsh:b9 0 sh=true) (η:attributeBase o name X.env (eval o X.env)=eval o X.env)
  (hfew:((backTo ω (starEach (e::es) X.env)).all (fun x=>!x.1)&&(backToKw ω (keywordEach [] X.env)).all (fun x=>x.1.isSome)
  &&decide ((e::es).length+([]:List Keyword).length+(if([]:List Keyword).isEmpty then 0 else 1)<30))=true)
  (θ:(μ.endLine==ω.line)=true) (hs:starEach (e::es) X.env=(false,eval e X.env)::starEach es X.env) (ι:(backTo ω (starEach es X.env)).any (·.1)=false):
  PE X (.Call (.Attribute o name μ) (e::es) [] ω) (tF K p ds ds2 3 (eM g f fa)):=by
 subst hK;exact(pT PySem.F.plainAttrs_str slot hty hm ho ha η hfew θ hs ι).imp fun _ _ _ h=>Lf hr hsh (by rw[zbi];exact h)
section
variable{s:Shared} 
mutual
theorem Ow.reads(I:Inv X ρ σ H s):∀(t:D) {v:V} {u:Value},ax t=true->Ow X.K O H t 0 v NoA->RelV v u->∃as,Reads s.heap u t as
 |.none,_,_,_,h,r=>by
  cases(show _=V.non from h);cases r;exact⟨_,.none⟩
 |.bool b,_,_,_,h,r=>by
  cases(show _=V.bl b from h);cases r;exact⟨_,.bool _⟩
 |.int i,_,_,_,h,r=>by
  cases(show _=V.int i from h);obtain⟨t,rfl⟩:=r;exact⟨_,.int _ _⟩
 |.str x,_,_,_,h,r=>by
  cases(show _=V.str x from h);obtain⟨t,rfl⟩:=r;exact⟨_,.str _ _⟩
 |.list ts,_,_,hn,h,r=>by
  obtain⟨p,vs,rfl,fz,w⟩:=h.lst0;cases r;obtain⟨its,rv,⟨o,n,e1,e2,_,e3⟩,_⟩:=I.list fz.sq;obtain⟨as,ra⟩:=Ows.reads I ts (by simpa[ax]using hn) w rv;exact⟨_,.list e1 e2 e3 (by simpa using ra)⟩
 |.tuple ts,_,_,hn,h,r=>by
  obtain⟨p,vs,rfl,fz,w⟩:=h.tup0;cases r;obtain⟨its,rv,⟨o,e1,e2,n,e3⟩,_⟩:=I.tuple fz.sq;obtain⟨as,ra⟩:=Ows.reads I ts (by simpa[ax]using hn) w rv;exact⟨_,.tuple e1 e2 e3 (by simpa using ra)⟩
 |.dict _,_,_,hn,_,_=>by simp[ax]at hn
theorem Ows.reads(I:Inv X ρ σ H s):∀(ts:List D) {vs:List V} {us:List Value},aF ts=true->Ows X.K O H ts 0 vs NoA->Vals vs us->∃as,ReadsAll s.heap us ts as
 |[],_,_,_,h,r=>by
  cases(show _=[]from h);cases r;exact⟨_,.nil⟩
 |t::ts,_,_,hn,h,r=>by
  obtain⟨v,q,F1,F2,e,_,_,_,h4,h5⟩:=h;subst e;have hn':ax t=true/\aF ts=true:=by simpa[aF]using hn
  cases r with
  |cons ru rr=>
   obtain⟨as,a1⟩:=Ow.reads I t hn'.1 (Ow.any0 t h4) ru;obtain⟨bs,a2⟩:=Ows.reads I ts hn'.2 (Ows.any0 ts h5) rr;exact⟨_,.cons a1 a2⟩
end
mutual
theorem lj:∀t:D,ax t=true->t.hasDict=false
 |.none,_=>by simp only[PyData.hasDict]
 |.bool _,_=>by simp only[PyData.hasDict]
 |.int _,_=>by simp only[PyData.hasDict]
 |.str _,_=>by simp only[PyData.hasDict]
 |.list ts,h=>by simp only[PyData.hasDict];exact j8 ts (by simpa[ax]using h)
 |.tuple ts,h=>by simp only[PyData.hasDict];exact j8 ts (by simpa[ax]using h)
 |.dict _,h=>by simp[ax]at h
theorem j8:∀ts:List D,aF ts=true->PyData.hasDictAll ts=false
 |[],_=>by simp only[PyData.hasDictAll]
 |t::ts,h=>by
  have h':ax t=true/\aF ts=true:=by simpa[aF]using h
  simp only[PyData.hasDictAll,lj t h'.1,j8 ts h'.2,Bool.or_self]
end
def wV:List D->Option D
 |[.dict []]=>some (.str "{}")
 |[t]=>grd (ax t=true/\t.showable=true/\t.depth<=60/\t.shown.length<=sizeLine) (.str t.shown)
 |_=>none
def Gf(hK:X.K=K)(hg:X.A.guards=some [])(hu:X.A.units+64<cLine):CallR X (.builtin "repr") (rFn K wV 3):=by
 subst hK;intro ρ s σ H xs us Q I r ⟨O,as,t,oa,hd,hr,k⟩;unfold wV at hr;split at hr
 ·cases hr;obtain⟨v,rfl,o⟩:=oa.one;obtain⟨a,vs,rfl,g1,g2⟩:=o.dict0 rfl;have e:vs=[]:=g2;subst e;exact xS hg hu ρ s σ H _ us Q I r ⟨_,_,rfl,.inr ⟨a,rfl,g1,rfl⟩,k _ H NoA .refl rfl⟩
 ·next d hne=>
  obtain⟨⟨c1,c2,c3,c4⟩,rfl⟩:=bD hr;obtain⟨v,rfl,o⟩:=oa.one;obtain⟨u,rfl,ru⟩:=cZ r;obtain⟨as,rd⟩:=Ow.reads I d c1 o ru;have q:=k (.str d.shown) H NoA .refl rfl;cases d with
  |none=>
   cases(show v=V.non from o);cases ru;have e:(PyData.none).shown=("None":Str):=PyData.shown_none;rw[e]at q;exact P.repr_of_none ⟨.str _,H,I.tok _,⟨_,rfl⟩,q⟩
  |bool b=>
   cases(show v=V.bl b from o);cases ru;have e:(PyData.bool b).shown=(if b then "True" else "False":Str):=PyData.shown_bool b;rw[e]at q;exact P.repr_of_bool ⟨.str (if b then "True" else "False"),H,I.tok _,⟨_,rfl⟩,q⟩
  |int i=>
   cases(show v=V.int i from o);obtain⟨t,rfl⟩:=ru;have e:(PyData.int i).shown=((toString i:String):Str):=PyData.shown_int i;rw[e]at q;have hl:i.natAbs.log2<1920:=by simpa[PyData.showable]using c2
   exact P.repr_of_int hl ⟨.str _,H,I.tok _,⟨_,rfl⟩,q⟩
  |str y=>
   cases(show v=V.str y from o);obtain⟨t,rfl⟩:=ru;have e:(PyData.str y).shown=reprText y:=PyData.shown_str y;rw[e]at q c4;exact P.repr_of_str ⟨.str _,H,I.tok _,⟨_,rfl⟩,q⟩ c4
  |list ts=>
   obtain⟨p,vs,rfl,_,_⟩:=o.lst0;cases ru;exact repr_of_reads' rd c2 (PyData.noDict_hsm (lj _ c1)) hg (by omega) (fun _ _ e=>e) (fun h' u tk hk=>⟨.str _,H,I.kept (t':=tk) hk,⟨_,rfl⟩,q⟩) c4
  |tuple ts=>
   obtain⟨p,vs,rfl,_,_⟩:=o.tup0;cases ru;exact repr_of_reads' rd c2 (PyData.noDict_hsm (lj _ c1)) hg (by omega) (fun _ _ e=>e) (fun h' u tk hk=>⟨.str _,H,I.kept (t':=tk) hk,⟨_,rfl⟩,q⟩) c4
  |dict _=>simp[ax]at c1
 ·cases hr
end
section
open PySem.SeqAt Classical
variable{s:Shared} 
noncomputable def eqF(X:Cx)(O:AS)(H:Hp)(a:D)(u:Value):Bool:=decide (∃d v,RelV v u/\ax d=true/\Ow X.K O H d 0 v NoA/\peq d a=true)
def zW(I:Inv X ρ σ H s){a d:D}{u:Value}(r:RelV v u)(hn:ax d=true)(o:Ow X.K O H d 0 v NoA):eqF X O H a u=peq d a:=by
 unfold eqF;cases h:peq d a with
 |true=>exact zaB ⟨d,v,r,hn,o,h⟩
 |false=>
  refine zaA fun⟨d',v',r',hn',o',h'⟩=>?_;have e:=r.inj r';subst e
  have:=Ow.inj I d d' o o' hn;subst this;rw[h]at h';cases h'
theorem rL(I:Inv X ρ σ H s){a:D}:∀{ts:List D} {vs:List V} {us:List Value},aF ts=true->Ows X.K O H ts 0 vs NoA->Vals vs us->us.any (eqF X O H a)=ts.any fun t=>peq t a
 |[],_,_,_,h,r=>by
  cases(show _=[]from h);cases r;rfl
 |t::ts,_,_,hn,h,r=>by
  obtain⟨v,q,F1,F2,e,_,_,_,h4,h5⟩:=h;subst e;have hn':ax t=true/\aF ts=true:=by simpa[aF]using hn
  cases r with
  |cons ru rr=>rw[List.any_cons,List.any_cons,zW I ru hn'.1 (Ow.any0 t h4),rL I hn'.2 (Ows.any0 ts h5) rr]
theorem rl(I:Inv X ρ σ H s){A:Around}{a:D}{x:V}{v:Value}(hna:ax a=true)(oa:Ow X.K O H a 0 x NoA)(ra:RelV x v)(hu:A.units+60+1<cLine):∀{ts:List D} {vs:List V} {us:List Value},aF ts=true->cc ts<=60->Ows X.K O H ts 0 vs NoA->Vals vs us->∀u∈us,EqAt A s u v (eqF X O H a u)
 |[],_,_,_,_,h,r=>by
  cases(show _=[]from h);cases r;exact fun u hu=>by cases hu
 |t::ts,_,_,hn,hdp,h,r=>by
  obtain⟨w,q,F1,F2,e,_,_,_,h4,h5⟩:=h;subst e;have hn':ax t=true/\aF ts=true:=by simpa[aF]using hn
  have hd':dq t<=60/\cc ts<=60:=by simp only[cc]at hdp;omega
  cases r with
  |cons ru rr=>
   intro u' hu';rcases zay.mp hu' with rfl|hu'
   ·rw[zW I ru hn'.1 (Ow.any0 t h4)];exact(xN I 60 t a A w x _ v hd'.1 hn'.1 hna (Ow.any0 t h4) oa ru ra hu).1
   ·exact rl I hna oa ra hu hn'.2 hd'.2 (Ows.any0 ts h5) rr u' hu'
def inL:D->D->Option D
 |x,.list ts=>grd (ax x=true/\aF ts=true/\cc ts<=60) (.bool (ts.any fun t=>peq t x))
 |x,.tuple ts=>grd (ax x=true/\aF ts=true/\cc ts<=60) (.bool (ts.any fun t=>peq t x))
 |_,_=>none
def ui:D->D->Option D
 |x,.list ts=>grd (ax x=true/\aF ts=true/\cc ts<=60) (.bool (!ts.any fun t=>peq t x))
 |x,.tuple ts=>grd (ax x=true/\aF ts=true/\cc ts<=60) (.bool (!ts.any fun t=>peq t x))
 |_,_=>none
def Bf(hK:X.K=K)(hu:X.A.units+64<cLine):OpR X (compareOp .NotIn) (rF2 K ui 3):=by
 subst hK;intro ρ s σ H x y v u Q I rx ry ⟨O,a,b,t,oa,ob,hd,hg,k⟩;have hu1:X.A.in1.units+60+1<cLine:=by show X.A.units+1+60+1<cLine;omega
 cases b with
 |list ts=>
  obtain⟨⟨c1,c2,c3⟩,rfl⟩:=bD hg;obtain⟨p,vs,rfl,fz,w⟩:=ob.lst0;cases ry;obtain⟨its,r,pl,hz⟩:=I.list fz.sq;refine SeqAt.notIn_listAt (eqF X O H a) pl.isList (fun z hz=>rl I c1 oa rx hu1 c2 c3 w r z (by simpa using hz)) ⟨.bl _,H,I,rfl,?_⟩;rw[show its.toArray.any (eqF X O H a)=its.any (eqF X O H a)by simp,rL I c2 w r];exact k _ H NoA .refl rfl
 |tuple ts=>
  obtain⟨⟨c1,c2,c3⟩,rfl⟩:=bD hg;obtain⟨p,vs,rfl,fz,w⟩:=ob.tup0;cases ry;obtain⟨its,r,pl,hz⟩:=I.tuple fz.sq;refine SeqAt.notIn_tupleAt (eqF X O H a) pl (fun z hz=>rl I c1 oa rx hu1 c2 c3 w r z (by simpa using hz)) ⟨.bl _,H,I,rfl,?_⟩;rw[show its.toArray.any (eqF X O H a)=its.any (eqF X O H a)by simp,rL I c2 w r];exact k _ H NoA .refl rfl
 |_=>cases hg
end
abbrev MP:=En->Option (List Nat×En)
def FD{P:Program}{mg:Str->Option Value}{base:Heap}{f:Addr}{fd:FuncData}(m:mg x=some (.ref f))(hk:PySem.W.keepIn K (.ref f)=true)(b:Binds K fd ps []):Kn P w K mg base k x ps (spF K dps dr fun _=>none):=
 ⟨f,fd,⟨fun vs H Q E ⟨_,_,_,_,_,_,z,_⟩=>(nomatch z),fun A outer s H args us vs Q E _ _ _ _ ⟨_,_,_,_,_,_,z,_⟩=>(nomatch z)⟩,m,hk,b⟩
def bC(f:Nat->Str):Nat->List Str
 |0=>[]
 |i+1=>if(bC f i).any (·==f i)=true then bC f i else bC f i++[f i]
def jI(f:Nat->Str)(i:Nat):bC f (i+1)=if(bC f i).any (·==f i)=true then bC f i else bC f i++[f i]:=rfl
theorem nN(f:Nat->Str):∀i,(bC f i).length<=i
 |0=>zav _
 |i+1=>by
  have h:=nN f i;rw[jI];by_cases q:(bC f i).any (·==f i)=true
  ·rw[if_pos q];omega
  ·rw[if_neg q,zae];show _+1<=_;omega
def AN(f:Nat->Str)(i:Nat)(x:Str):(bC f (i+1)).any (·==x)=((bC f i).any (·==x) || decide (x=f i)):=by
 rw[jI];by_cases q:(bC f i).any (·==f i)=true
 ·rw[if_pos q];by_cases e:x=f i
  ·rw[e,q,zaB rfl];rfl
  ·rw[zaA e,Bool.or_false]
 ·rw[if_neg q,List.any_append];congr 1;by_cases e:x=f i
  ·rw[e,zaB rfl];simp
  ·rw[zaA e];simp only[List.any_cons,List.any_nil,Bool.or_false,zbK];exact fun z=>e z.symm
def um(f:Nat->Str)(i:Nat):(bC f (i+1)).length=if(bC f i).any (·==f i)then(bC f i).length else(bC f i).length+1:=by
 rw[jI];by_cases q:(bC f i).any (·==f i)=true
 ·rw[if_pos q,if_pos q]
 ·rw[if_neg q,if_neg q,zae];rfl
abbrev SetS(P:Program)(w:World)(h:Heap)(a:Addr)(f:Nat->Str)(n:Nat):Prop:=h.SetOf (strKind P w) a (fun k=>(bC f n).any (·==k)) (bC f n).length
section
variable{P:Program}{R:Result->Shared->Prop}{I:Addr}{wr:List Addr}{G:Array GenState->Array GenState->Prop}{Pi:Nat->Value->Prop}{St:Nat->Shared->Prop}
def SetS.mv{h:Heap}{f:Nat->Str}(x:SetS P w h a f n)(k:∀o,h.get? a=some o->h'.get? a=some o):SetS P w h' a f n:=by
 obtain⟨o,es,ep,t,e,r⟩:=x;exact⟨o,es,ep,t,k o e,r⟩
def Ax(W:WalksS P w A.in1 I fp wr G n Pi St)(a:Addr)(ha:a∉fp)(f:Nat->Str)(hf:∀i v,Pi i v->∃t,v=.str (f i) t)(hb:n+1<scanBound):
  ∀(k i:Nat) (s:Shared),n-i=k->i<=n->St i s->SetS P w s.heap a f i ->
   (∀s',Moved (a::wr) G s s'->SetS P w s'.heap a f n->R (.ok (.ret .none)) s')->codeAny (model P w) A (.builtin "set.update.loop" ⟨[.ref a,.ref I],[]⟩) R s:=by
 have hw:a∉wr:=fun h=>ha (W.sub _ h);intro k
 induction k with
 |zero=>
  intro i s hk hi st hS q;obtain rfl:i=n:=by omega
  refine codeAny_builtin PyProof.Rows.F.entry_set_update_loop ?_;rw[Around.under_plainId PyProof.Rows.F.plain_set_update_loop _];show wpAny _ _ (pyNext (.ref I) >>= _) _ _ s;exact zam (W.done s _ _ st fun s1 m=>zaT (q s1 (m.mono fun b h=>zaj _ h) (hS.mv fun o e=>m.heap a o hw e)))
 |succ k ih=>
  intro i s hk hi st hS q;have lt:i<n:=by omega
  refine codeAny_builtin PyProof.Rows.F.entry_set_update_loop ?_;rw[Around.under_plainId PyProof.Rows.F.plain_set_update_loop _];show wpAny _ _ (pyNext (.ref I) >>= _) _ _ s;refine zam (W.item i s _ _ lt st fun v s1 hv st1 m=>?_);obtain⟨t,rfl⟩:=hf i v hv;have h1:SetS P w s1.heap a f i:=hS.mv fun o e=>m.heap a o hw e;show wpAny _ _ (holding [Value.str (f i) t] (setAdd a (.str (f i) t)) >>= _) _ _ s1;refine zam (zbM ?_);unfold setAdd;refine zbM (zam ((strKind P w).pyHash (k:=f i) (strKind_is P w (f i) t) ?_));have le:=nN f i;refine wpAny_setAddHashed_of (knd:=strKind P w) (s:={ s1 with toks:=s1.toks+1 }) (strKind_is P w (f i) t) rfl h1 (by omega) fun h2 sb h3=>?_;have h4:SetS P w h2 a f (i+1):=SetOf_congr h3 (fun x=>(AN f i x).symm) (um f i).symm;refine zaT ⟨plainId_quiet PyProof.Rows.F.plain_set_update_loop _,ih (i+1) _ (by omega) lt (W.frame _ s1 _ _ st1 (Nat.le_succ _) fun b hb o e=>?_) h4 fun s3 m3 h5=>?_⟩
  ·rw[sb.2 b fun z=>ha (z▸hb)];exact e
  ·refine q s3 (Moved.trans W.gtrans ((m.mono fun b h=>zaj _ h).then_heap (Nat.le_succ _) fun b o hb e=>?_) m3) h5;rw[sb.2 b fun z=>hb (z▸zaq)];exact e
end
section
variable{P:Program}{s:Shared}
def Lz(z:Str)(i:Nat):Str:=match z.cps[i]? with
 |some c=>mk1 c
 |none=>""
abbrev iP(led:Bool):Obj:={ cls:=.type "set",dict:=none,data:=.set #[] 0 (.fresh 0 0 led) }
end
section
variable{k:Expr}{pos2 py:Pos}
def Ja(h:∀v H,Q v H->Q' v H):tF K p ds ds1 d f σ H Q->tF K p ds ds1 d f σ H Q'
 |⟨Ox,en,R,t,en',e,hf,k⟩=>⟨Ox,en,R,t,en',e,hf,fun v H' R' F P o=>h _ _ (k v H' R' F P o)⟩
def Na:D->Option D
 |.str z=>grd (z.length<4000) (.int (bC (Lz z) z.length).length)
 |_=>none
def Nt:D->D->Option D
 |.list ts,.int (-1)=>some (.list ts.reverse)
 |_,_=>none
def Nj:D->D->Option D
 |.tuple ts,.int (-1)=>some (.tuple ts.reverse)
 |_,_=>none
def Nk:D->D->Option D
 |.str z,.int (-1)=>grd (z.length<=sizeLine) (.str ⟨z.cps.toList.reverse.toArray⟩)
 |_,_=>none
def Nb(fa:MA):MI:=fun en=>(fa en).bind fun r=>match r.1 with
 |[.inl (.str x),.inl (.str y)]=>some (fm (dH x) (dH y),r.2)
 |_=>none
def isB:D->D->Option D
 |.bool a,.bool b=>some (.bool (a==b))
 |_,_=>none
def KJ:OpR X (compareOp .Is) (rF2 K isB 3):=by
 intro ρ s σ H x y v u Q I rx ry ⟨O,a,b,t,oa,ob,hd,hg,k⟩;unfold isB at hg;split at hg
 ·next a b=>
  cases hg;cases(show x=V.bl a from oa);cases(show y=V.bl b from ob);cases rx;cases ry;have q:=k (.bl (a==b)) H NoA .refl rfl;exact zaT ⟨.bl (a==b),H,I,by cases a<;>cases b<;>rfl,q⟩
 ·cases hg
end
section
variable{s:Shared} 
def Inv.noSeq(I:Inv X ρ σ H s){o:Obj}{xs:Array Value}(h:s.heap.get? a=some o)(d:o.data=.seq xs n):sysModules≠a:=by
 intro e;obtain⟨mm,hm⟩:=I.mod.mods;obtain⟨ob,es,ep,g1,g2,_⟩:=hm.keeps I.bk;rw[e,h]at g1;cases g1;rw[d]at g2;cases g2
mutual
def noX:D->Bool
 |.list ts=>rj ts
 |.tuple ts=>rj ts
 |.dict ks=>!isX (.dict ks)&&(noT ks&&lh ks)
 |_=>true
def rj:List D->Bool
 |[]=>true
 |t::ts=>noX t&&rj ts
def lh:List (D×D)->Bool
 |[]=>true
 | (_,t)::ts=>noX t&&lh ts
end
def L0(h:noX (.dict ks)=true):lh ks=true:=by
 have:(!isX (.dict ks))=true/\noT ks=true/\lh ks=true:=by simpa[noX]using h
 exact this.2.2
mutual
theorem Ow.reads2(I:Inv X ρ σ H s):∀(t:D) {v:V} {u:Value},noX t=true->Ow X.K O H t 0 v NoA->RelV v u->∃as,Reads s.heap u t as/\sysModules∉as
 |.none,_,_,hX,h,r=>by
  cases(show _=V.non from h);cases r;exact⟨_,.none,by simp⟩
 |.bool b,_,_,hX,h,r=>by
  cases(show _=V.bl b from h);cases r;exact⟨_,.bool _,by simp⟩
 |.int i,_,_,hX,h,r=>by
  cases(show _=V.int i from h);obtain⟨t,rfl⟩:=r;exact⟨_,.int _ _,by simp⟩
 |.str x,_,_,hX,h,r=>by
  cases(show _=V.str x from h);obtain⟨t,rfl⟩:=r;exact⟨_,.str _ _,by simp⟩
 |.list ts,_,_,hX,h,r=>by
  obtain⟨p,vs,rfl,fz,w⟩:=h.lst0;cases r;obtain⟨its,rv,pl,_⟩:=I.list fz.sq;obtain⟨as,ra,rb⟩:=Ows.reads2 I ts (by simpa[noX]using hX) w rv;obtain⟨o,n,e,e2,_,e3⟩:=pl;refine⟨_,.list e e2 e3 (by simpa using ra),fun hm=>?_⟩;rcases zay.mp hm with z|z
  ·exact I.noSeq e e3 z
  ·exact rb z
 |.tuple ts,_,_,hX,h,r=>by
  obtain⟨p,vs,rfl,fz,w⟩:=h.tup0;cases r;obtain⟨its,rv,⟨o,e1,e2,n,e3⟩,_⟩:=I.tuple fz.sq;obtain⟨as,ra,rb⟩:=Ows.reads2 I ts (by simpa[noX]using hX) w rv;exact⟨_,.tuple e1 e2 e3 (by simpa using ra),rb⟩
 |.dict ks,_,_,hX,h,r=>by
  obtain⟨a,vs,rfl,⟨_,ha,_,g2⟩|⟨z,_⟩|⟨_,⟨hk,_⟩|⟨cn,C,hk,_⟩⟩|⟨z,_⟩⟩:=h
  ·cases r;obtain⟨_,hsys,us,kv,dd⟩:=nW I.hok ha;obtain⟨o,es,n,g1,gc,g3,_,g5,_⟩:=dd;obtain⟨bs,r1,r2,r3⟩:=Owd.reads2 I ks (L0 hX) g2 kv g5;refine⟨_,.dict g1 gc.1 g3 r1 r2,fun hm=>?_⟩;have hm':sysModules=a\/sysModules∈bs:=by simpa using hm
   rcases hm' with e|e
   ·rw[<-e]at hsys;simp at hsys
   ·exact r3 e
  ·exact absurd rfl z
  ·have:(!isX (.dict ks))=true/\noT ks=true/\lh ks=true:=by simpa[noX]using hX
   rw[hk.hd.1]at this;cases this.2.1
  ·subst hk
   have:(!isX (.dict [(.none,.str cn)]))=true/\noT [(.none,.str cn)]=true/\lh [(.none,.str cn)]=true:=by simpa[noX]using hX
   cases this.1
  ·cases z
theorem Ows.reads2(I:Inv X ρ σ H s):∀(ts:List D) {vs:List V} {us:List Value},rj ts=true->Ows X.K O H ts 0 vs NoA->Vals vs us->∃as,ReadsAll s.heap us ts as/\sysModules∉as
 |[],_,_,hX,h,r=>by
  cases(show _=[]from h);cases r;exact⟨_,.nil,by simp⟩
 |t::ts,_,_,hX,h,r=>by
  have hX':noX t=true/\rj ts=true:=by simpa[rj]using hX
  obtain⟨v,q,F1,F2,e,_,_,_,h4,h5⟩:=h;subst e;cases r with
  |cons ru rr=>
   obtain⟨as,a1,b1⟩:=Ow.reads2 I t hX'.1 (Ow.any0 t h4) ru;obtain⟨bs,a2,b2⟩:=Ows.reads2 I ts hX'.2 (Ows.any0 ts h5) rr;exact⟨_,.cons a1 a2,fun z=>(zax.mp z).elim b1 b2⟩
theorem Owd.reads2(I:Inv X ρ σ H s):∀(ks:List (D×D)) {vs:List (Key×V)} {us:List (Key×Value)} {es:List DictEntry},lh ks=true->Owd X.K O H ks 0 vs NoA->KV vs us->Pairs (bT X.prog X.w) es us ->
  ∃bs,ReadsAll s.heap (es.map fun x=>x.key) (ks.map fun x=>x.1) []/\ReadsAll s.heap (es.map fun x=>x.val) (ks.map fun x=>x.2) bs/\sysModules∉bs
 |[],_,_,_,hX,h,r,p=>by
  cases(show _=[]from h);cases r;cases p;exact⟨_,.nil,.nil,by simp⟩
 | (k,t)::ks,_,_,_,hX,h,r,p=>by
  have hX':noX t=true/\lh ks=true:=by simpa[lh]using hX
  obtain⟨q,v,r',F1,F2,e,rfl,_,_,_,h4,h5⟩:=h;subst e;cases r with
  |cons ru rr=>
   cases p with
   |@cons e0 _ _ _ p1 p2 p3=>
    obtain⟨as,a1,b1⟩:=Ow.reads2 I t hX'.1 (Ow.any0 t h4) ru.2;obtain⟨bs,a2,a3,b2⟩:=Owd.reads2 I ks hX'.2 (Owd.any0 ks h5) rr p3;have hk:Reads s.heap e0.key (kD q) []:=by
     have p1':jJ _ e0.key=true:=p1;rw[<-ru.1]at p1';rcases br p1' with⟨i,t,e1,e2⟩|⟨x,t,e1,e2⟩
     ·have e1':q=Sum.inl i:=e1;rw[e1',e2];exact .int _ _
     ·have e1':q=Sum.inr x:=e1;rw[e1',e2];exact .str _ _
    exact⟨as++bs,.cons hk a2,.cons (show Reads s.heap e0.val t as from p2▸a1) a3,fun z=>(zax.mp z).elim b1 b2⟩
end
def pP:List D->Option D
 |[t]=>grd (noX t=true/\t.showable=true/\t.depth<=60/\t.shown.length<=sizeLine) (.str t.shown)
 |_=>none
def uS(hK:X.K=K)(hg:X.A.guards=some [])(hu:X.A.units+64<cLine):CallR X (.builtin "repr") (rFn K pP 3):=by
 intro ρ s σ H xs us Q I r ⟨O,as,t,oa,hd,hr,k⟩;by_cases hold:wV as=some t
 ·exact Gf hK hg hu ρ s σ H xs us Q I r ⟨O,as,t,oa,hd,hold,k⟩
 subst hK;unfold pP at hr;split at hr
 ·next d=>
  obtain⟨⟨cX,c2,c3,c4⟩,rfl⟩:=bD hr;obtain⟨v,rfl,o⟩:=oa.one;obtain⟨u,rfl,ru⟩:=cZ r;obtain⟨as,rd,hs⟩:=Ow.reads2 I d cX o ru;have q:=k (.str d.shown) H NoA .refl rfl;obtain⟨a,rfl⟩:∃a,u=.ref a:=by
   cases d with
   |tuple ts=>
    obtain⟨p,vs,rfl,_,_⟩:=o.tup0;exact⟨p,ru⟩
   |list ts=>
    obtain⟨p,vs,rfl,_,_⟩:=o.lst0;exact⟨p,ru⟩
   |dict ks=>
    obtain⟨a,vs,rfl,_⟩:=o;exact⟨a,ru⟩
   |_=>
    refine absurd ?_ hold;show grd _ _=_;exact if_pos ⟨rfl,c2,c3,c4⟩
  exact repr_of_reads' rd c2 (fun _=>hs) hg (by omega) (fun _ _ e=>e) (fun h' u tk hk=>⟨.str _,H,I.kept (t':=tk) hk,⟨_,rfl⟩,q⟩) c4
 ·cases hr
end
section
variable{a:Expr}{ta tb:TE}{rest:List Expr}
def M4:D->Option Int->Option Int->Option D
 |.tuple ts,lo,hi=>grd (¬(HT.sIx ts.length 0 lo=0/\HT.sIx ts.length ts.length hi=ts.length)) (.tuple (du ts lo hi))
 |_,_,_=>none
def KK(hK:X.K=K):SlR X (rFs K M4 0):=(MV hK).imp fun x lo hi H Q ⟨O,a,t,oa,hd,hg,k⟩=>by
 cases a with
 |tuple ts=>
  obtain⟨c,rfl⟩:=bD hg;obtain⟨a,vs,e1,f1,w1⟩:=oa.tup0;refine⟨a,vs,e1,f1.sq,by rw[w1.len];exact c,fun p hp=>?_⟩;have w2:Ows K O H (du ts lo hi) 0 (kf vs lo hi) NoA:=by
   unfold du kf;rw[w1.len];exact(w1.drop _).take _
  exact k _ _ _ (nM hp hd w2).1 (nM hp hd w2).2
 |_=>cases hg
def MB:D->Option Bool
 |.none=>some false
 |.bool b=>some b
 |.list ts=>some (!ts.isEmpty)
 |.tuple ts=>some (!ts.isEmpty)
 |_=>none
def Nx(f g:ME):ME:=fun en=>(f en).bind fun r=>(MB r.1).bind fun c=>if c then some r else g r.2
end
end L2
namespace L2
variable{X:Cx}{K:zbS}{g:D->D->Option D}{Ty:V->Hp->Prop}
open PySem PySem.Spec PyProof.Rows PySem.SeqAt PySem.MeetsSeq
def Nv:D->D->Option D
 |.tuple ts,.int k=>grd (1<=k/\k<=1000/\ts.length<=1000) (.tuple (List.replicate k.toNat ts).flatten)
 |_,_=>none
def Nl:D->D->Option D
 |.int k,.str z=>grd (z.length<=4000/\1<=k/\k<=4000) (.str (Txt.mul z k))
 |_,_=>none
section
variable{p p1 p2:Bool}{ds ds1 ds2:List Nat}{d d1 d2:Nat}{e:Expr}{f f1 f2:ME}{σ:St}{H:Hp}{Q Q':VK}
def Lg(ht:∀a b t O x H F,g a b=some t->Ow K O H a d1 x F->Ty x H)(h:tF K (p1&&p2) ds ds2 d (e2 g f1 f2) σ H Q):
  tF K p1 ds ds1 d1 f1 σ H fun x H1=>Ty x H1/\tF K p2 ds1 ds2 d2 f2 σ H1 fun y H2=>rF2 K g d x y H2 Q:=by
 obtain⟨Ox,en,R,t,en',e,hf,k⟩:=h;unfold e2 at hf;obtain⟨⟨t1,en1⟩,h1,hf⟩:=zaa.mp hf;obtain⟨⟨t2,en2⟩,h2,hf⟩:=zaa.mp hf;obtain⟨t',h3,hf⟩:=zab.mp hf;cases hf;refine⟨Ox,en,R,t1,en1,e,h1,fun x H1 R1 F1 P1 o1=>⟨ht _ _ _ _ _ _ _ h3 o1,U F1 Ox,en1,R1,t2,en2,P1.env,h2,fun y H2 R2 F2 P2 o2=>?_⟩⟩;have P:=P1.trans P2;have o1':=Ow.over P1.env P2 o1;have o2':Ow K (Own R2 (U (U F1 F2) Ox)) H2 t2 d2 y F2:=mZ▸o2;exact⟨Own R2 Ox,t1,t2,t,Ow.letgo P (fun _=>.inl) o1',Ow.letgo P (fun _=>.inr) o2',P.doms,h3,fun v2 H3 F3 n o3=>k v2 H3 R2 F3 (P.fin n) (nX▸o3)⟩
def KY{T:String}{o:Expr}{name:Str}{id:String}{μ ω:Pos}(pa:PlainAttrs T)(slot:Slot T name id)(hty:typeOf (.builtin id)=pure (.type "method_descriptor"))
  (ht:∀a b t O x H F,g a b=some t->Ow K O H a d1 x F->Ty x H) (hT:∀ρ s σ H x v,Inv X ρ σ H s->RelV x v->Ty x H->s.TypeIs v T/\∀a,v=.ref a->∃ob,s.heap.get? a=some ob/\ob.dict=none)
  (hm:OpR X (fun v u=>call (.builtin id) [v,u]) (rF2 K g 3)) (ho:PE X o (tF K p ds ds1 d1 f1)) (he:PE X e (tF K p ds1 ds2 d2 f2))
  (η:attributeBase o name X.env (eval o X.env)=eval o X.env)
  (hfew:((backTo ω (starEach [e] X.env)).all (fun x=>!x.1)&&(backToKw ω (keywordEach [] X.env)).all (fun x=>x.1.isSome)&&decide (([e]:List Expr).length+([]:List Keyword).length+(if([]:List Keyword).isEmpty then 0 else 1)<30))=true)
  (θ:(μ.endLine==ω.line)=true) (hs:starEach [e] X.env=[(false,eval e X.env)]) (ι:(backTo ω (starEach [] X.env)).any (·.1)=false):
  PE X (.Call (.Attribute o name μ) [e] [] ω) (tF K p ds ds2 3 (e2 g f1 f2)):=by
 intro ρ s σ H Q I h;have h':=Lg (p1:=p) (p2:=p) (ds1:=ds1) (d1:=d1) (d2:=d2) (Ty:=Ty) ht (by rw[zbi];exact h);refine wpAny_Call_method_late η hfew θ rfl (thn (ho ρ s σ H _ I h') fun v s1 ⟨x,H1,I1,r1,ty,q1⟩=>?_);obtain⟨h1,h2⟩:=hT ρ s1 σ H1 x v I1 r1 ty;refine⟨T,id,pa,slot,hty,h1,h2,?_⟩;have hA:=ba he pa_nil hs ω ρ s1 σ H1 (fun xs H2=>∃y,xs=[y]/\rF2 K g 3 x y H2 Q) I1 (Ja (fun y H2 q=>⟨y,rfl,q⟩) q1);rw[hs]at hA ⊢;refine Calls.callWith_builtin (by show(false || (backTo ω (starEach [] X.env)).any (·.1))=false;rw[ι]<;>rfl) (Calls.evalArgs_plain ?_);refine thn hA ?_;rintro us s2 ⟨vs,H2,I2,r2,y,e2,q2⟩;subst e2;obtain⟨u,rfl,ru⟩:=cZ r2;exact hm ρ s2 σ H2 x y v u Q I2 r1 ru q2
end
def Ng:D->D->Option D
 |.tuple ts,b=>grd (ax b=true/\aF ts=true/\cc ts<=60) (.int (ts.countP fun t=>peq t b:Nat))
 |_,_=>none
end L2
namespace L2
open PySem PySem.Spec PyProof.Rows HT
section
variable{prog:Program}{w:World}{A:Around}{E:Value->Shared->Prop}{s:Shared}
def n9{t sl:Addr}{items:Array Value}{vl vu:Value}{lo hi:Option Int}{Q:Value->Shared->Prop}(ht:IsTup s.heap t items)(hs:s.heap.IsSliceOf sl vl vu .none)(pl:IsPart vl lo)(pu:IsPart vu hi)
  (hw:HT.sIx items.size 0 lo=0/\HT.sIx items.size items.size hi=items.size) (h:Q (.ref t) s):wpAny (model prog w) A (getItem (.ref t) (.ref sl)) Q E s:=by
 obtain⟨os,hos,hcs,hds⟩:=id hs;have hTs:s.TypeIs (.ref sl) "slice":=⟨os,hos,hcs⟩;obtain⟨ot,hot,hct,m,hdt⟩:=id ht;obtain⟨cls,dd,data,slo⟩:=ot;simp only at hct hdt;subst hct hdt;unfold getItem
 try with_reducible refine zbM ?_
 first|refine zam (zaT ?_)|skip
 refine zam (wpAny_sequenceKey ht.typeIs (by decide) (zam (zbw (name:=Str.ofString "__getitem__") ht.typeIs PyProof.Rows.slot_tuple_getitem
  (wpAny_call_entry PyProof.Rows.slot_tuple_getitem ht.typeIs entry_tuple_getitem ?_ (args_tuple_getitem _ _)))))
 show wpAny _ _ (Builtin.Tuple.tupleItemsOf (.ref t) >>= _) _ _ s;refine zam (tupleItemsOf_ ht (zam (wpAny_typeOf hTs ?_)));rw[if_pos (by decide)];refine zam (ja hs pl pu ?_);rw[hw.1,hw.2];have h1:(((0:Nat):Int)==0&&(1:Int)==1&&(items.size-0)==items.size)=true:=by simp
 show wpAny _ _ (if(((0:Nat):Int)==0&&(1:Int)==1&&(items.size-0)==items.size)=true then _ else _) _ _ s;rw[if_pos h1]
 wp_walk using wpAny_loadPart' hot,wpAny_load hot
 exact⟨_,rfl,zaT h⟩
end
def xO:D->Option Int->Option Int->Option D
 |.tuple ts,lo,hi=>some (.tuple (du ts lo hi))
 |_,_,_=>none
section
variable{X:Cx}{K:zbS}
def Go(hK:X.K=K):SlR X (rFs K xO 0):=by
 intro ρ s σ H x v vl vu lo hi sl Q I rx hs pl pu ⟨O,a,t,oa,hd,hg,k⟩;cases a with
 |tuple ts=>
  by_cases hw:HT.sIx ts.length 0 lo=0/\HT.sIx ts.length ts.length hi=ts.length
  ·subst hK;obtain⟨a,vs,rfl,fz,w⟩:=id oa.tup0;cases rx;obtain⟨its,r,ht,hz⟩:=I.tuple fz.sq;have ξ:its.toArray.size=ts.length:=by rw[zai,<-w.len];exact r.length.symm
   refine⟨"tuple",_,PyProof.Rows.slot_tuple_getitem.lookup,ht.typeIs,?_⟩;refine n9 ht hs pl pu (by rw[ξ];exact hw) ⟨.ref a,H,I,rfl,k _ H NoA .refl ?_⟩;cases hg;have e:du ts lo hi=ts:=by
    unfold du;rw[hw.1,hw.2];simp
   rw[e,iA];exact oa
  ·refine KK hK ρ s σ H x v vl vu lo hi sl Q I rx hs pl pu ⟨O,.tuple ts,t,oa,hd,?_,k⟩;cases hg;show grd _ _=_;unfold grd;rw[if_pos hw]
 |_=>cases hg
end
end L2
namespace L2
open PySem PySem.Spec PyProof.Rows
section
variable{P:Program}{w:World}{A:Around}{E:Value->Shared->Prop}{s:Shared}
def sI:isSubtype (.type "tuple") (.type "set")=pure false:=by rw[isSubtype_type];kernel_rfl
def mn:isSubtype (.type "tuple") (.type "frozenset")=pure false:=by rw[isSubtype_type];kernel_rfl
def et(ys:List Str)(i:Nat):Str:=ys.getD i ""
def rH{tp:Addr}{its:List Value}{ys:List Str}{Q:Value->Shared->Prop}(hh:A.handled=none)(ht:s.heap.IsTuple tp its.toArray)(hv:Vals (ys.map V.str) its)(hb:ys.length+1<scanBound)
  (h:∀(h':Heap) (tk:Nat),SetS P w h' s.heap.objs.size (et ys) ys.length->(∀b o,b<s.heap.objs.size->s.heap.get? b=some o->h'.get? b=some o)->Q (.ref s.heap.objs.size) { s with heap:=h',toks:=tk }):
  wpAny (model P w) A (call (.type "set") [.ref tp]) Q E s:=by
 obtain⟨c,tl,e0⟩:=PySem.F.called_set.mro;have e1:=PySem.F.called_set.made;have e2:=PySem.F.called_set.sub;have htl:tp<s.heap.objs.size:=zal ht.choose_spec.1;have ξ:its.length=ys.length:=by rw[<-hv.length,zad]
 refine wpAny_call (codeAny_of_tree ?_);show wpAny _ _ (callAny (.type "set") ⟨[.ref tp],[]⟩) _ _ _;refine zaT ⟨Code.quiet_builtin _ (by decide +kernel),codeAny_builtin PySem.F.entry_type_call ?_⟩;rw[Around.under_plain (weight_type_call_type "set" [.ref tp] []) rfl];have e3:=PySem.F.called_set.notType;have e4:=PySem.F.called_set.canCreate;have e5:=PySem.F.typeCall_set_1 (.ref tp)
 repeat (any_goals (first|assumption|wp_step))
 refine codeAny_mono (code_set_new_1 (.ref tp) (E:=E) (Q₁:=fun obj s1=>∃led:Bool,obj=.ref s.heap.objs.size/\s1={ s with heap:=s.heap.push (iP led) }) fun led=>⟨led,rfl,rfl⟩) fun r s1 hr=>?_;cases r with
 |error e=>exact hr
 |ok fl=>
  cases fl with
  |ret obj=>
   obtain⟨led,rfl,rfl⟩:=hr;have g0:(s.heap.push (iP led)).get? s.heap.objs.size=some (iP led):=zan _ rfl;have hT:Shared.TypeIs { s with heap:=s.heap.push (iP led) } (.ref s.heap.objs.size) "set":=⟨_,g0,rfl⟩;have i1:=PySem.F.called_set.init.lookup;have i2:=PySem.F.called_set.init.bind (.ref s.heap.objs.size)
   repeat (any_goals (first|assumption|wp_step))
   refine codeAny_mono (codeAny_call_builtin (R:=wants (fun r s2=>r=.none/\∃h' tk,s2={ s with heap:=h',toks:=tk }/\SetS P w h' s.heap.objs.size (et ys) ys.length /\
     ∀b o,b<s.heap.objs.size->s.heap.get? b=some o->h'.get? b=some o) E) PySem.F.called_set.init.plain PySem.F.entry_set_init (check_set_init_1 hT ?_)) fun r2 s2 hr2=>?_
   ·have j1:=sI;have j2:=mn;have j3:(Value.type "tuple"==Value.type "dict")=false:=by decide
    have ht2:(s.heap.push (iP led)).IsTuple tp its.toArray:=ht.push _;obtain⟨⟨cls,dd,data,sl⟩,ho,hc,m,hda⟩:=id ht2;simp only at hc hda;subst hc hda;unfold Builtin.«set.__init__» noKeywords Builtin.Frozenset.updateFrom;generalize hPI:pyIter=PI
    wp_walk using wpAny_loadPart' ho,wpAny_load ho
    subst hPI;refine wpAny_pyIter_tuple ht2 ?_;refine zam (wpAny_runValue ?_);have hI:(s.heap.push (iP led)).objs.size=s.heap.objs.size+1:=by rw[zbr]
    have hne:s.heap.objs.size∉[(s.heap.push (iP led)).objs.size,tp]:=by
     rw[hI];intro z;rcases zay.mp z with z|z
     ·exact zaw (Nat.lt_succ_self _) z
     ·exact zaw htl (zaH.mp z).symm
    have hti:tp≠(s.heap.push (iP led)).objs.size:=by rw[hI];exact zaw (Nat.lt_succ_of_lt htl)
    have W:=(Walks.tuple (prog:=P) (w:=w) (A:=A.in1.in1.in1) (by simp[hh]) (s.heap.push (iP led)).objs.size tp hti its.toArray).toS;have hsz:its.toArray.size=ys.length:=by rw[zai,ξ]
    rw[hsz]at W;refine Ax W s.heap.objs.size hne (et ys) (fun i v hv'=>?_) hb (ys.length-0) 0 _ rfl (zbh _) ⟨⟨_,zan _ rfl,rfl,rfl⟩,ht2.push _⟩ ?_ ?_
    ·have hi':its[i]?=some v:=by simpa using hv'
     have hi:i<ys.length:=by
      rw[<-ξ];exact(zah.mp hi').1
     obtain⟨u,hu,ru⟩:=hv.get (i:=i) (x:=V.str ys[i]) (by rw[zao,zak hi];rfl);rw[hu]at hi';cases hi';obtain⟨t,rfl⟩:=ru;refine⟨t,?_⟩;unfold et;rw[zbg,zak hi];rfl
    ·exact SetOf_congr ((setObjOf_fresh (knd:=strKind P w) led).setOf (zaf _ g0) (by unfold scanBound;omega)) (fun _=>rfl) rfl
    ·intro s3 m h3;obtain⟨h',g',d',tk,os'⟩:=s3;obtain rfl:g'=s.gens:=m.gens;obtain rfl:d'=s.drawn:=m.drawn;obtain rfl:os'=s.os:=m.os;refine zaT (zaT ⟨rfl,h',tk,rfl,h3,fun b o hb e=>?_⟩);refine m.heap b o ?_ (zaf _ (zaf _ e));simp only[zay,zap,or_false,not_or];exact⟨zaw hb,zaw (zag hb (by rw[zbr];omega))⟩
   ·cases r2 with
    |error e=>exact hr2
    |ok fl2=>
     cases fl2 with
     |ret r=>
      obtain⟨rfl,h',tk,rfl,h3,hk⟩:=hr2
      repeat (any_goals (first|assumption|wp_step))
      exact h _ _ h3 hk
     |_=>exact hr2.elim
  |_=>exact hr.elim
end
def sU(P:Program)(w:World)(a:Addr)(ys:List Str):HO:=.ext fun h=>SetS P w h a (et ys) ys.length
def LD(K:zbS)(P:Program)(w:World):List V->Hp->VK->Prop:=fun xs H Q=>∃p ys,xs=[.ref p]/\SqT K H p (ys.map V.str)/\ys.length+1<scanBound/\∀a,H a=none->Q (.ref a) (upd H a (sU P w a ys))
section
variable{X:Cx}{K:zbS}{p p1 p2:Bool}{ds ds1 ds2:List Nat}{d d1 d2:Nat}{e k:Expr}{f f1 f2:ME}{fa:MA}{sh:Sh}{σ:St}{H:Hp}{Q Q':VK}{pos pos2 px py:Pos}
def Ac(hc:X.calm=true):CallR X (.type "set") (LD X.K X.prog X.w):=by
 intro ρ s σ H xs us Q I r ⟨p,ys,e,hs,hb,q⟩;subst e;obtain⟨u,rfl,ru⟩:=cZ r;cases ru;obtain⟨its,rv,pl,hz⟩:=I.tuple hs;refine rH (I.ok.hd hc) pl rv hb fun h' tk hS hk=>⟨.ref _,_,I.laid (a:=s.heap.objs.size) (o:=sU X.prog X.w s.heap.objs.size ys) (t':=tk) (fun b o e=>hk b o (zal e) e) (zav _) ?_,rfl,q _ (I.hok.fresh (zav _))⟩;have h2:=hS;obtain⟨o,_,_,_,e,_⟩:=h2;exact⟨hS,⟨o,e⟩,fun h1 h2 a k=>a.mv k⟩
def LH(P:Program)(w:World):List V->Hp->VK->Prop:=fun xs H Q=>∃a ys,xs=[.ref a]/\H a=some (sU P w a ys)/\ys.length<4096/\Q (.int (bC (et ys) ys.length).length) H
def Ag:CallR X (.builtin "len") (LH X.prog X.w):=by
 intro ρ s σ H xs us Q I r ⟨a,ys,e,ha,hz,q⟩;subst e;obtain⟨u,rfl,ru⟩:=cZ r;cases ru;obtain⟨⟨o,es,ep,t,g1,g2,g3,_,_,_,g5,g6⟩,_⟩:=I.hok a _ ha;have le:=nN (et ys) ys.length;have e:(es.size:Int)=((bC (et ys) ys.length).length:Nat):=by rw[g6]
 refine call_len_set g1 g2 g3 g5 (by omega) ⟨.int es.size,H,(I.tok _).tok _,⟨_,rfl⟩,?_⟩;rw[e];exact q
def nO:D->Option D
 |.tuple ts=>(joinD.strsOf ts).bind fun ys=>grd (ys.length<4000) (.int (bC (et ys) ys.length).length)
 |_=>none
def xG(hK:X.K=K)(hc:X.calm=true)(hg:Gl X "len")(hm:X.mg "len"=none)(hg2:Gl X "set")(hm2:X.mg "set"=none)(hb:bootBuiltins "len"=some (.builtin "len"))(hb2:bootBuiltins "set"=some (.type "set"))(he:PE X e (tF K p ds ds1 0 f))(hs:av e=true):
  PE X (.Call (.Name "len" px) [.Call (.Name "set" py) [e] [] pos2] [] pos) (tF K p ds ds1 3 (e1 nO f)):=by
 subst hK;refine(fN Ag hg hm hb (ba (mz (Ac hc) hg2 hm2 hb2 (ba he pa_nil (aD hs)) (by decide) (by decide) (aD hs) rfl) pa_nil (aD rfl)) (by decide) (by decide) (aD rfl) rfl).imp fun σ H Q h=>?_;obtain⟨Ox,en,R,t,en',e,hf,k⟩:=h;unfold e1 at hf;obtain⟨⟨t1,en1⟩,h1,hf⟩:=zaa.mp hf;obtain⟨t',h3,hf⟩:=zab.mp hf;cases hf;cases t1 with
 |tuple ts=>
  obtain⟨ys,h4,h5⟩:=zaa.mp h3;obtain⟨c,rfl⟩:=bD h5;refine⟨Ox,en,R,.tuple ts,en1,e,h1,fun v H' R' F P o=>?_⟩;obtain⟨a,vs,rfl,fz,w⟩:=(Ow.any0 _ o).tup0;have e6:=lg h4 w;subst e6;refine⟨a,ys,rfl,fz.sq,by unfold scanBound;omega,fun a ha=>?_⟩;refine⟨a,ys,rfl,aC,by omega,?_⟩;have n:NewTo H' (upd H' a (sU X.prog X.w a ys)) NoA:=⟨(bu ha).1,fun _ z=>z.elim⟩;exact k _ _ R' NoA (P.fin n) rfl
 |_=>cases h3
end
end L2
namespace L2
variable{X:Cx}{K:zbS}{p p1 p2:Bool}{ds ds1 ds2:List Nat}{d d1 d2 i:Nat}{e:Expr}{f f1 f2:ME}{x:Str}{px:Pos}
open PySem PySem.Spec PyProof.Rows PySem.SeqAt PySem.MeetsSeq
def wP:List D->Option D
 |[.int i]=>grd (i.natAbs.log2<1920) (.str (toString i))
 |_=>none
def wt:CallR X (.type "str") (rFn K wP 3):=call_str_int.imp fun xs H Q ⟨O,as,t,oa,hd,hg,k⟩=>by
 match as,hg with
 |[.int i],hg=>
  obtain⟨c,rfl⟩:=bD hg;obtain⟨v,rfl,o⟩:=oa.one;exact⟨i,by rw[show v=.int i from o],c,k _ H NoA .refl rfl⟩
def pY(l:Addr)(items:Array Value)(n:Nat)(b:Addr)(items2:Array Value)(n2:Nat)(d2:Option Addr)(sl2:Array (Option Value))
  (h1:¬(!items.isEmpty&&Builtin.List.listTooLong (items.size+items2.size))=true) (h2:items.size<=sizeLine) (h3:items.size+items2.size<=sizeLine):
  Meets (Builtin.«list.extend» ⟨[.ref l,.ref b],[]⟩) (fun _ R s=>s.heap.get? l=some { cls:=.type "list",data:=.seq items n }/\s.heap.get? b=some { cls:=.type "tuple",dict:=d2,data:=.seq items2 n2,slots:=sl2 } /\
   R (.ok (.ret .none)) { s with heap:=s.heap.update l (Obj.mapSeq fun x=>x++items2) }):=
 .of_wp fun prog w A R s h=>by
  obtain⟨hp,g,d,tk,os⟩:=s;obtain⟨hl,hb,h⟩:=h
  wp_walk using wpAny_loadPart' hl,wpAny_load hl,wpAny_loadPart' hb,wpAny_load hb
  have e:(Obj.mapSeq (fun x=>x++items2) ({ cls:=Value.type "list",data:=Data.seq items n }:Obj)).data.pastItsLine=none:=pastItsLine_seq (by rw[Array.size_append];omega);rw[e]
  wp_walk
  exact⟨_,rfl,h⟩
def tZ:V->List V->Hp->VK->Prop:=fun x vs H Q=>∃l b xs zs,x=.ref l/\vs=[.ref b]/\H l=some (.lst xs)/\H b=some (.tup zs)/\xs.length+zs.length<=sizeLine/\Q .non (upd H l (.lst (xs++zs)))
def nS(i:Nat)(f:ME):ME:=fun en=>match (en[i]?).join with
 |some (.list _)=>(f en).bind fun r=>match r.1,(r.2[i]?).join with
  |.tuple us,some (.list ts)=>if ts.length+us.length<=sizeLine then some (.none,r.2.set i (some (.list (ts++us))))else none
  |_,_=>none
 |_=>none
section
variable{σ:St}{H:Hp}{Q Q':VK} 
def xc:MtM X "list.extend" tZ:=by
 intro ρ s σ H x vs v us Q I rx rv h;obtain⟨l,b,xs,zs,rfl,rfl,hH,hB,hz,q⟩:=h;cases rx;obtain⟨u,rfl,ru⟩:=rv.one;cases ru;obtain⟨z,its,n,r,hl,e⟩:=I.lstM hH;obtain⟨ν,r2,pl,hz2⟩:=I.tuple (SqT.of hB);obtain⟨⟨cls,dd,data,sl⟩,ho,hc,m,hda⟩:=id pl;simp only at hc hda;subst hc hda;have q1:=r.length;have q2:=r2.length;have hsz:its.toArray.size+ν.toArray.size<=sizeLine:=by rw[zai,zai];omega
 have hlong:¬(!its.toArray.isEmpty&&Builtin.List.listTooLong (its.toArray.size+ν.toArray.size))=true:=by
  rw[uh hsz,zbR];exact zbl
 refine call_meets F.slot_list_extend ⟨_,e,rfl⟩ F.entry_list_extend (F.args_list_extend_2 _ _) (pY l its.toArray n b ν.toArray m dd sl hlong (by rw[zai];omega) hsz) ⟨e,ho,?_⟩;refine⟨.non,_,I.lset (its':=its++ν) hH e (by simp) (r.append r2) ?_,rfl,q⟩;rw[zae];exact hz
def Lh(hd:ds1[i]?=some 1)(h:tF K false ds ds1 3 (nS i f) σ H Q):tBM K "list" tZ (kU i) (iL (tF K p ds ds1 0 f) oQ) σ H Q:=by
 obtain⟨Ox,en,R,t,en',e,hf,k⟩:=h;unfold nS at hf;split at hf
 case h_2=>cases hf
 next ts0 h0=>
 obtain⟨⟨t1,en1⟩,h1,hf⟩:=zaa.mp hf
 dsimp only at hf
 split at hf
 case h_2=>cases hf
 next us ts h2=>
 by_cases ξ:ts.length+us.length<=sizeLine
 case neg=>rw[if_neg ξ]at hf;cases hf
 rw[if_pos ξ]at hf;cases hf;obtain⟨v,d0,a1,_,a3⟩:=e.at_ i _ (bo h0);obtain⟨l0,vs0,e0,sq⟩:=a3.sqL;refine⟨v,a1,?_,Ox,en,R,_,en1,e,h1,fun x H1 R1 F P o=>?_⟩
 ·rw[e0];exact .inl ⟨rfl,vs0,sq⟩
 obtain⟨v',d',b1,b2,b3⟩:=P.env.at_ i _ (bo h2);rw[a1]at b1;cases b1;rw[hd]at b2;cases b2;obtain⟨l,vs,el,hl,hr,F',hf',ow⟩:=b3.ownL (by decide);obtain⟨m,ws,em,fz,ow2⟩:=(Ow.any0 _ o).tup0;refine⟨l,m,vs,ws,el,by rw[em],hl,fz.1,by rw[ow.len,ow2.len];exact ξ,?_⟩;have hi:i<en1.length:=(zah.mp (bo h2)).1;have sub:=qA (i:=i) (R1:=R1) (Ox:=Ox) (G:=fun a=>R1 i a\/F a) (F':=NoA) (F:=F) (fun _ z=>z) (fun _ z=>z.elim);have Ol:Own R1 (U F Ox) l:=.inl ⟨i,hr⟩;refine k .non (upd H1 l (.lst (vs++ws))) _ NoA (P.slot (G:=fun a=>R1 i a\/F a) hr hi a1 hd (fun _ z=>z) (fun _ z=>z.elim) (fun _ _ z=>z) ?_) rfl;refine⟨l,vs++ws,el,.inr ⟨by decide,aC,.inl hr,U F' NoA,fun b z=>?_,?_⟩⟩
 ·rcases z with z|z
  ·exact⟨.inl (hf' b z).1,(hf' b z).2⟩
  ·exact z.elim
 ·exact Ows.cat (Ows.past sub Ol (fun b z=>(hf' b z).2) ow) (Ows.past sub Ol (fun b z=>z.elim) ow2) fun b z1 z2=>z2.elim
def GB{μ ω:Pos}(hK:X.K=K)(hN:X.N[i]?=some x)(hv:Vis X.env.scope x)(h1:ds1[i]?=some 1)(he:PE X e (tF K false ds ds1 0 f))
  (hd:(x==("__debug__":Str))=false) (hcd:(x==("__classdict__":Str))=false)
  (η:attributeBase (.Name x px) "extend" X.env (eval (.Name x px) X.env)=eval (.Name x px) X.env)
  (hfew:((backTo ω (starEach [e] X.env)).all (fun x=>!x.1)&&(backToKw ω (keywordEach [] X.env)).all (fun x=>x.1.isSome)&&decide (([e]:List Expr).length+([]:List Keyword).length+(if([]:List Keyword).isEmpty then 0 else 1)<30))=true)
  (θ:(μ.endLine==ω.line)=true) (hs:starEach [e] X.env=[(false,eval e X.env)]) (ι:(backTo ω (starEach [] X.env)).any (·.1)=false):
  PE X (.Call (.Attribute (.Name x px) "extend" μ) [e] [] ω) (tF K false ds ds1 3 (nS i f)):=by
 subst hK;exact(pT PySem.F.plainAttrs_list PySem.F.slot_list_extend PySem.F.type_list_extend xc (gk hN hv hd hcd) (ba he pa_nil hs) η hfew θ hs ι).imp fun _ _ _=>Lh h1
def eSc(f:ME):ME:=fun en=>(f en).bind fun r=>match r.1 with
 |.str z=>some (.str z,r.2)
 |.int n=>some (.int n,r.2)
 |_=>none
def Me(he:PE X e (tF K p ds ds1 d f)):PE X e (tF K p ds ds1 3 (eSc f)):=he.imp fun σ H Q ⟨Ox,en,R,t,en',e,hf,k⟩=>by
 unfold eSc at hf;obtain⟨⟨t1,en1⟩,h1,hf⟩:=zaa.mp hf
 dsimp only at hf
 split at hf
 ·cases hf;exact⟨Ox,en,R,_,_,e,h1,fun v H' R' F P o=>k v H' R' NoA (P.less fun _ z=>z.elim) (show v=V.str _ from o)⟩
 ·cases hf;exact⟨Ox,en,R,_,_,e,h1,fun v H' R' F P o=>k v H' R' NoA (P.less fun _ z=>z.elim) (show v=V.int _ from o)⟩
 ·cases hf
def Jh(z y:Str):List Str:=if(Builtin.Str.occurrences z y 0 z.length (z.length+1)).isEmpty then[z]else Builtin.Str.partsBetween z (Builtin.Str.occurrences z y 0 z.length (z.length+1)) y.length
theorem rR:∀(k:Nat) (ys:List Str),Vals (ys.map V.str) (strsFrom k ys)
 |_,[]=>.nil
 |k,y::ys=>.cons ⟨_,rfl⟩ (rR (k+1) ys)
theorem rV(O:AS)(H:Hp)(d:Nat):∀ys:List Str,Ows K O H (ys.map .str) d (ys.map V.str) NoA
 |[]=>rfl
 |y::ys=>⟨.str y,ys.map V.str,NoA,NoA,rfl,fun _ z=>z,fun _ z=>z,fun _ z=>z.elim,rfl,rV O H d ys⟩
end
section
variable{q:Bool}{J:Jd}{ds0 ds' dsi dps:List Nat}{d' dr:Nat}{a b c tg iter:Expr}{es:List Expr}{st:Stmt}{rest body xM:List Stmt}{fk fe:ME}{c1 c2:MT}{fa:MA}{sh:Sh}{pos:Pos}{m m1 m2:MS}{g:MG}{gs:List D->En->Option En}{fi:MI}{lk:List Nat}
def xB{ζ pos':Pos}{elt:Expr}{ifs:List Expr}{scope:Scope}{ns:List Str}{js:List (Option Nat)}(hN:X.N.Nodup)(hi':X.N[i]?=some x)(hx:X.env.scope.names.lookup x=some .local)(B:BlkOkC X scope ns js)(hc:X.calm=true)(hi:PI X tg iter (tFI K true ds0 ds0 fi))
  (hg:∀C cl s₀ H₀ fp,PG (au X scope ns C cl s₀ H₀ fp) tg (tFG K lk dsi dsi g)) (ht:∀C cl s₀ H₀ fp,PTs (au X scope ns C cl s₀ H₀ fp) ifs (tFT K true dsi dsi c1)) (he:∀C cl s₀ H₀ fp,PE (au X scope ns C cl s₀ H₀ fp) elt (tF K true dsi dsi 3 f))
  (hle:leD ds0 ds=true) (hds:ds.set i 3=ds') (hcap:eh ds0 js dsi=true) (hlk:lk=fT js 0) (hl:i<ds.length) (hk:i∉J.lk)
  (hsw:swapsWith (.ListComp elt [⟨tg,iter,ifs,0⟩] scope pos) (some (.Name x pos')) ζ.line X.env=pure true)
  (hs:∀x,foldedSetIterable iter X.env x=pure x):PS X (.Assign [.Name x pos'] (.ListComp elt [⟨tg,iter,ifs,0⟩] scope pos) ζ) (tFS K J ds ds' (ao i (eLC true fi g c1 f js))):=by
 subst hds;exact(rT hN hi' hx B hc hi hg ht he hsw hs).imp fun D σ H h=>xK (p:=true) (q:=true) hcap rfl (by decide) hlk (EG hle (uO (p:=true) hl hk h))
end
end L2
namespace L2
variable{b a tg l m e c elt iter o:Expr}{x:Str}{k n d d' d1 d2 i dr cd:Nat}{prog P:Program}{w:World}{A:Around}{E:Value->Shared->Prop}{s:Shared}{z i1 i2 ta tb:Addr}{x1 x2:Array Value}{Q:Option Value->Shared->Prop}{X:Cx}{K:zbS}{elts es ifs:List Expr}{tp pos px μ ω pos' ζ:Pos}{p p1 p2 q:Bool}{ds ds1 ds0 ds2 ds' dsi dps lk:List Nat}{fa:MA}{sh:Sh}{O O1:AS}{H0 H:Hp}{ts us:List D}{vs:List V}{f f1 f2 fk fe:ME}{c1 c2:MT}{t:Tok}{g g':D->D->Option D}{op op':CmpOp}{ps ns:List Str}{scope:Scope}{js:List (Option Nat)}{fi:MI}{J:Jd}{st:Stmt}{body xM:List Stmt}{m2:MS}{gs:List D->En->Option En}{σ:St}{Dn:Ends}{fs:List (ME×ME)}{Q':VK}{en en1 en2:En}{fl:Fl}
open PySem PySem.Spec PyProof.Rows
structure ZApartT(z TI TO i1 i2 ta tb:Addr):Prop extends ZApart z TI TO i1 i2 where
 taz:ta≠z
 taTO:ta≠TO
 tai1:ta≠i1
 tai2:ta≠i2
 tbz:tb≠z
 tbTO:tb≠TO
 tbi1:tb≠i1
 tbi2:tb≠i2
def TSt(h:Heap)(i t:Addr)(x:Array Value)(k:Nat):Prop:=h.IsTupleIter i t k/\h.IsTuple t x
def TSt.ext{h h':Heap}{i t b:Addr}{x:Array Value}(st:TSt h i t x k)(s:Heap.SameBut b h h')(n1:i≠b)(n2:t≠b):TSt h' i t x k:=
 ⟨let⟨o,ho,r⟩:=st.1;⟨o,s.extBut _ _ n1 ho,r⟩,let⟨o,ho,r⟩:=st.2;⟨o,s.extBut _ _ n2 ho,r⟩⟩
def qP{TI TO:Addr}{k1 k2:Nat}{a b:Value}{Q:Value->Shared->Prop}(hh:A.handled=none)(D:ZApartT z TI TO i1 i2 ta tb)
  (hz:IsZip s.heap z TI TO .none) (hTI:IsPair s.heap TI (.ref i1) (.ref i2)) (hTO:IsPair s.heap TO a b)
  (h1:TSt s.heap i1 ta x1 k1) (h2:TSt s.heap i2 tb x2 k2) (hk1:k1<x1.size) (hk2:k2<x2.size)
  (hQ:∀h' tk (c d:Value),x1[k1]?=some c->x2[k2]?=some d->IsZip h' z TI TO (rawInt s.heap.objs.size)->IsPair h' TO c d->h'.IsTupleIter i1 ta (k1+1)->h'.IsTupleIter i2 tb (k2+1) ->
   IsPair h' s.heap.objs.size c d->h'.objs.size=s.heap.objs.size+1 ->
   (∀c o,c≠z->c≠TO->c≠i1->c≠i2->s.heap.get? c=some o->h'.get? c=some o)->Q (.ref s.heap.objs.size) { s with heap:=h',toks:=tk }):
  wpAny (model prog w) A (Builtin.«zip.__next__» ⟨[.ref z],[]⟩) (fun fin s'=>∃v,fin=.done (.ret v)/\Q v s') E s:=by
 show wpAny _ _ (field (.ref z) 2 >>= _) _ _ _;refine zam (wpAny_field hz rfl (x:=.bool false) rfl ?_);show wpAny _ _ (field (.ref z) 3 >>= _) _ _ _;refine zam (wpAny_field hz rfl (x:=.ref TI) rfl ?_);refine zam (wpAny_seqItems hTI rfl ?_);show wpAny _ _ (Builtin.SmallTypes.ownedTupleIsFree (.ref z) >>= _) _ _ _;refine zam ?_;unfold Builtin.SmallTypes.ownedTupleIsFree;refine zam (wpAny_field hz rfl (x:=.none) rfl (zaT ?_));simp only[if_true];refine zam (wpAny_rule ?_);refine zam (wpAny_field hz rfl (x:=.ref TO) rfl ?_);refine zam (wpAny_setField_rec hz (by simp) fun h₁ hz₁ hs₁=>?_)
 replace hz₁:IsZip h₁ z TI TO .ellipsis:=hz₁
 refine zam ?_;simp only[List.zipIdx_cons,List.zipIdx_nil,List.forIn_cons,List.forIn_nil];refine zam (zam (wpAny_onRaise ?_));show wpAny _ _ (Builtin.SmallTypes.nextOf (.ref i1) >>= _) _ _ _;refine zam ((ig hh i1 ta D.tai1 x1).item k1 _ _ _ hk1 (h1.ext hs₁ D.i1z D.taz) fun v1 h₂ tk2 hp1 h1₂ hs₂=>zaT ?_);have hc:x1[k1]?=some v1:=hp1;have hTO₂:IsPair h₂ TO a b:=hs₂.extBut _ _ D.TOi1 (hs₁.extBut _ _ D.TOz hTO);refine zam (wpAny_seqItems hTO₂ rfl ?_);refine zam (wpAny_updateSeq_pair hTO₂ fun h₃ hTO₃ hs₃=>?_)
 replace hTO₃:IsPair h₃ TO v1 b:=hTO₃
 refine zam (wpAny_letGo (zaT ?_));refine zam (zam (wpAny_onRaise ?_));show wpAny _ _ (Builtin.SmallTypes.nextOf (.ref i2) >>= _) _ _ _;refine zam ((ig hh i2 tb D.tbi2 x2).item k2 _ _ _ hk2 (((h2.ext hs₁ D.i2z D.tbz).ext hs₂ D.i12.symm D.tbi1).ext hs₃ D.TOi2.symm D.tbTO) fun v2 h₄ tk4 hp2 h2₄ hs₄=>zaT ?_);have hd:x2[k2]?=some v2:=hp2;have hTO₄:IsPair h₄ TO v1 b:=hs₄.extBut _ _ D.TOi2 hTO₃;refine zam (wpAny_seqItems hTO₄ rfl ?_);refine zam (wpAny_updateSeq_pair hTO₄ fun h₅ hTO₅ hs₅=>?_)
 replace hTO₅:IsPair h₅ TO v1 v2:=hTO₅
 refine zam (wpAny_letGo (zaT (zaT ?_)));refine zam (wpAny_seqItems hTO₅ rfl ?_);refine zam (wpAny_newTuple ?_);have hsz:h₅.objs.size=s.heap.objs.size:=by rw[hs₅.1,hs₄.1,hs₃.1,hs₂.1,hs₁.1]
 have hz₅:IsZip h₅ z TI TO .ellipsis:=hs₅.extBut _ _ D.TOz.symm (hs₄.extBut _ _ D.i2z.symm (hs₃.extBut _ _ D.TOz.symm (hs₂.extBut _ _ D.i1z.symm hz₁)));have hk₅:∀c o,c≠z->c≠TO->c≠i1->c≠i2->s.heap.get? c=some o->h₅.get? c=some o:=fun c o c1 c2 c3 c4 e=>
  hs₅.extBut _ _ c2 (hs₄.extBut _ _ c4 (hs₃.extBut _ _ c2 (hs₂.extBut _ _ c3 (hs₁.extBut _ _ c1 e))))
 have h1₅:TSt h₅ i1 ta x1 (k1+1):=((TSt.ext h1₂ hs₃ D.TOi1.symm D.taTO).ext hs₄ D.i12 D.tai2).ext hs₅ D.TOi1.symm D.taTO;have h2₅:TSt h₅ i2 tb x2 (k2+1):=TSt.ext h2₄ hs₅ D.TOi2.symm D.tbTO;have hzlt:z<h₅.objs.size:=zal hz₅;show wpAny _ _ (Builtin.SmallTypes.ownedTupleHandOut (.ref z) (.ref h₅.objs.size) >>= _) _ _ _;refine zam ?_;unfold Builtin.SmallTypes.ownedTupleHandOut;have hz₆:IsZip (h₅.push { cls:=.type "tuple",data:=.seq #[v1,v2] }) z TI TO .ellipsis:=zaf _ hz₅;refine zam (wpAny_setField_rec hz₆ (by simp) fun h₇ hz₇ hs₇=>?_)
 replace hz₇:IsZip h₇ z TI TO (rawInt h₅.objs.size):=hz₇
 refine wpAny_setField_rec hz₇ (by simp) fun h₈ hz₈ hs₈=>?_
 replace hz₈:IsZip h₈ z TI TO (rawInt h₅.objs.size):=hz₈
 have up:∀c o,c≠z->h₅.get? c=some o->h₈.get? c=some o:=fun c o c1 e=>hs₈.extBut _ _ c1 (hs₇.extBut _ _ c1 (zaf _ e));have hT₈:IsPair h₈ h₅.objs.size v1 v2:=hs₈.extBut _ _ (Nat.ne_of_gt hzlt) (hs₇.extBut _ _ (Nat.ne_of_gt hzlt) (zan _ rfl));have hz8:h₈.objs.size=h₅.objs.size+1:=by rw[hs₈.1,hs₇.1,zbr]
 rw[hsz]at hz₈ hT₈ hz8;refine zaT ⟨_,rfl,?_⟩;show Q (.ref h₅.objs.size) _;rw[hsz];exact hQ h₈ _ v1 v2 hc hd hz₈ (up _ _ D.TOz hTO₅) (let⟨o,ho,r⟩:=h1₅.1;⟨o,up _ _ D.i1z ho,r⟩) (let⟨o,ho,r⟩:=h2₅.1;⟨o,up _ _ D.i2z ho,r⟩) hT₈ hz8 fun c o c1 c2 c3 c4 e=>up c o c1 (hk₅ c o c1 c2 c3 c4 e)
def sF{TI TO:Addr}{k1 k2:Nat}{a b:Value}{Q:Fin->Shared->Prop}(hh:A.handled=none)(D:ZApartT z TI TO i1 i2 ta tb)
  (hz:IsZip s.heap z TI TO .none) (hTI:IsPair s.heap TI (.ref i1) (.ref i2)) (hTO:IsPair s.heap TO a b)
  (h1:TSt s.heap i1 ta x1 k1) (h2:TSt s.heap i2 tb x2 k2) (hend:k1=x1.size\/(k1<x1.size/\k2=x2.size))
  (hE:∀h' e tk,(∀c o,c≠z->c≠TO->c≠i1->c≠i2->s.heap.get? c=some o->h'.get? c=some o)->(∃o,h'.get? e=some o/\o.cls=.type "StopIteration")->E (.ref e) { s with heap:=h',toks:=tk }):
  wpAny (model prog w) A (Builtin.«zip.__next__» ⟨[.ref z],[]⟩) Q E s:=by
 show wpAny _ _ (field (.ref z) 2 >>= _) _ _ _;refine zam (wpAny_field hz rfl (x:=.bool false) rfl ?_);show wpAny _ _ (field (.ref z) 3 >>= _) _ _ _;refine zam (wpAny_field hz rfl (x:=.ref TI) rfl ?_);refine zam (wpAny_seqItems hTI rfl ?_);show wpAny _ _ (Builtin.SmallTypes.ownedTupleIsFree (.ref z) >>= _) _ _ _;refine zam ?_;unfold Builtin.SmallTypes.ownedTupleIsFree;refine zam (wpAny_field hz rfl (x:=.none) rfl (zaT ?_));simp only[if_true];refine zam (wpAny_rule ?_);refine zam (wpAny_field hz rfl (x:=.ref TO) rfl ?_);refine zam (wpAny_setField_rec hz (by simp) fun h₁ hz₁ hs₁=>?_)
 replace hz₁:IsZip h₁ z TI TO .ellipsis:=hz₁
 refine zam ?_;simp only[List.zipIdx_cons,List.zipIdx_nil,List.forIn_cons,List.forIn_nil];refine zam (zam (wpAny_onRaise ?_));show wpAny _ _ (Builtin.SmallTypes.nextOf (.ref i1) >>= _) _ _ _;rcases hend with rfl|⟨hk1,rfl⟩
 ·refine zam ((ig hh i1 ta D.tai1 x1).done _ _ _ (h1.ext hs₁ D.i1z D.taz) fun h₂ e hs₂ he=>?_);obtain⟨oe,hoe,hce⟩:=he;have hz₂:IsZip h₂ z TI TO .ellipsis:=hs₂ _ _ D.i1z.symm hz₁;have hez:e≠z:=fun x=>by subst x;rw[hz₂]at hoe;cases hoe;simp at hce
  refine wpAny_setField_rec hz₂ (by simp) fun h₃ _ hs₃=>hE h₃ e _ (fun c o c1 _ c3 _ x=>hs₃.extBut _ _ c1 (hs₂ _ _ c3 (hs₁.extBut _ _ c1 x))) ⟨oe,hs₃.extBut _ _ hez hoe,hce⟩
 ·refine zam ((ig hh i1 ta D.tai1 x1).item k1 _ _ _ hk1 (h1.ext hs₁ D.i1z D.taz) fun v1 h₂ tk2 hp1 h1₂ hs₂=>zaT ?_);have hTO₂:IsPair h₂ TO a b:=hs₂.extBut _ _ D.TOi1 (hs₁.extBut _ _ D.TOz hTO);refine zam (wpAny_seqItems hTO₂ rfl ?_);refine zam (wpAny_updateSeq_pair hTO₂ fun h₃ hTO₃ hs₃=>?_);refine zam (wpAny_letGo (zaT ?_));refine zam (zam (wpAny_onRaise ?_));show wpAny _ _ (Builtin.SmallTypes.nextOf (.ref i2) >>= _) _ _ _;refine zam ((ig hh i2 tb D.tbi2 x2).done _ _ _ (((h2.ext hs₁ D.i2z D.tbz).ext hs₂ D.i12.symm D.tbi1).ext hs₃ D.TOi2.symm D.tbTO) fun h₄ e hs₄ he=>?_);obtain⟨oe,hoe,hce⟩:=he;have hz₄:IsZip h₄ z TI TO .ellipsis:=hs₄ _ _ D.i2z.symm (hs₃.extBut _ _ D.TOz.symm (hs₂.extBut _ _ D.i1z.symm hz₁));have hez:e≠z:=fun x=>by subst x;rw[hz₄]at hoe;cases hoe;simp at hce
  refine wpAny_setField_rec hz₄ (by simp) fun h₅ _ hs₅=>hE h₅ e _ (fun c o c1 c2 c3 c4 x=>hs₅.extBut _ _ c1 (hs₄ _ _ c4 (hs₃.extBut _ _ c2 (hs₂.extBut _ _ c3 (hs₁.extBut _ _ c1 x))))) ⟨oe,hs₅.extBut _ _ hez hoe,hce⟩
def oX{TI TO:Addr}{k1 k2:Nat}{a b:Value}(hh:A.handled=none)(D:ZApartT z TI TO i1 i2 ta tb)
  (hz:IsZip s.heap z TI TO .none) (hTI:IsPair s.heap TI (.ref i1) (.ref i2)) (hTO:IsPair s.heap TO a b)
  (h1:TSt s.heap i1 ta x1 k1) (h2:TSt s.heap i2 tb x2 k2) (hk1:k1<x1.size) (hk2:k2<x2.size)
  (hQ:∀h' tk (c d:Value),x1[k1]?=some c->x2[k2]?=some d->IsZip h' z TI TO (rawInt s.heap.objs.size)->IsPair h' TO c d->h'.IsTupleIter i1 ta (k1+1)->h'.IsTupleIter i2 tb (k2+1) ->
   IsPair h' s.heap.objs.size c d->h'.objs.size=s.heap.objs.size+1 ->
   (∀c o,c≠z->c≠TO->c≠i1->c≠i2->s.heap.get? c=some o->h'.get? c=some o)->Q (some (.ref s.heap.objs.size)) { s with heap:=h',toks:=tk }):
  wpAny (model prog w) A (pyNext (.ref z)) Q E s:=by
 have hT:s.TypeIs (.ref z) "zip":=⟨_,hz,rfl⟩;unfold pyNext;exact zam (wpAny_attempt (zbw (name:=Str.ofString "__next__") hT F.slot_zip_next
  (wpAny_call_entry F.slot_zip_next hT F.entry_zip_next
   (qP hh D hz hTI hTO h1 h2 hk1 hk2 fun h' tk c d a1 a2 a3 a4 a5 a6 a7 a8 a9=>zaT (hQ h' tk c d a1 a2 a3 a4 a5 a6 a7 a8 a9)) (F.args_zip_next_1 _))))
def pS{TI TO:Addr}{k1 k2:Nat}{a b:Value}(hh:A.handled=none)(D:ZApartT z TI TO i1 i2 ta tb)
  (hz:IsZip s.heap z TI TO .none) (hTI:IsPair s.heap TI (.ref i1) (.ref i2)) (hTO:IsPair s.heap TO a b)
  (h1:TSt s.heap i1 ta x1 k1) (h2:TSt s.heap i2 tb x2 k2) (hend:k1=x1.size\/(k1<x1.size/\k2=x2.size))
  (hQ:∀h' tk,(∀c o,c≠z->c≠TO->c≠i1->c≠i2->s.heap.get? c=some o->h'.get? c=some o)->Q none { s with heap:=h',toks:=tk }):wpAny (model prog w) A (pyNext (.ref z)) Q E s:=by
 have hT:s.TypeIs (.ref z) "zip":=⟨_,hz,rfl⟩;unfold pyNext;refine zam (wpAny_attempt (zbw (name:=Str.ofString "__next__") hT F.slot_zip_next
  (wpAny_call_entry F.slot_zip_next hT F.entry_zip_next (sF hh D hz hTI hTO h1 h2 hend fun h' e tk hk he=>?_) (F.args_zip_next_1 _))))
 obtain⟨o,ho,hc⟩:=he;refine zam (wpAny_isInstance (T:="StopIteration") (b:=true) ⟨o,ho,hc⟩ isSubtype_stop ?_);exact zaT (hQ _ tk hk)
abbrev zT1(h:Heap)(a:Addr):Heap:=h.push { cls:=.type "tuple_iterator",data:=.fields #[.ref a,.int 0 0] }
abbrev zT2(h:Heap)(a b:Addr):Heap:=(zT1 h a).push { cls:=.type "tuple_iterator",data:=.fields #[.ref b,.int 0 0] }
abbrev zT3(h:Heap)(a b:Addr):Heap:=(zT2 h a b).push { cls:=.type "tuple",data:=.seq #[.ref h.objs.size,.ref (zT1 h a).objs.size] }
abbrev zT4(h:Heap)(a b:Addr):Heap:=(zT3 h a b).push { cls:=.type "tuple",data:=.seq #[.none,.none] }
abbrev zT5(h:Heap)(a b:Addr):Heap:=(zT4 h a b).push { cls:=.type "zip",data:=.fields #[.none,.bool false,.bool false,.ref (zT2 h a b).objs.size,.ref (zT3 h a b).objs.size] }
def rm(a b:Addr)(x y:Array Value):
  Meets (Builtin.«zip.__new__» ⟨[.type "zip",.ref a,.ref b],[]⟩) (fun _ R s=>(s.heap.IsTuple a x/\s.heap.IsTuple b y)/\R (.ok (.ret (.ref (zT4 s.heap a b).objs.size))) { s with heap:=zT5 s.heap a b }):=
 .of_wp fun prog w A R s h=>by
  obtain⟨hp,g,d,tk,os⟩:=s;obtain⟨⟨ha,hb⟩,h⟩:=h;have hsub:isSubtype (.type "zip") (.type "zip")=pure true:=by rw[isSubtype_type];kernel_rfl
  have hb':=hb.push { cls:=.type "tuple_iterator",data:=.fields #[.ref a,.int 0 0] }
  wp_walk using wpAny_pyIter_tuple ha,wpAny_pyIter_tuple hb'
  exact⟨_,rfl,h⟩
def Ab{a b:Addr}{x y:Array Value}{Q:Value->Shared->Prop}
  (ha:s.heap.IsTuple a x) (hb:s.heap.IsTuple b y) (h:∀h',IsZip h' (s.heap.objs.size+4) (s.heap.objs.size+2) (s.heap.objs.size+3) .none->IsPair h' (s.heap.objs.size+2) (.ref s.heap.objs.size) (.ref (s.heap.objs.size+1)) ->
   IsPair h' (s.heap.objs.size+3) .none .none->h'.IsTupleIter s.heap.objs.size a 0->h'.IsTupleIter (s.heap.objs.size+1) b 0->h'.objs.size=s.heap.objs.size+5 ->
   (∀c o,s.heap.get? c=some o->h'.get? c=some o)->Q (.ref (s.heap.objs.size+4)) { s with heap:=h' }):
  wpAny (model prog w) A (call (.type "zip") [.ref a,.ref b]) Q E s:=by
 refine callType_new F.called_zip (by decide) (F.typeCall_zip_2 _ _) (F.newCall_zip_2 _ _) (fun obj=>F.args_object_init_3 obj _ _) F.entry_zip_new
  (rm a b x y) ?_
 have z1:(zT1 s.heap a).objs.size=s.heap.objs.size+1:=zbr ..;have z2:(zT2 s.heap a b).objs.size=s.heap.objs.size+2:=by rw[zbr,z1]
 have z3:(zT3 s.heap a b).objs.size=s.heap.objs.size+3:=by rw[zbr,z2]
 have z4:(zT4 s.heap a b).objs.size=s.heap.objs.size+4:=by rw[zbr,z3]
 have z5:(zT5 s.heap a b).objs.size=s.heap.objs.size+5:=by rw[zbr,z4]
 have g5:(zT5 s.heap a b).get? (zT4 s.heap a b).objs.size=some _:=zan _ rfl;have g4:(zT5 s.heap a b).get? (zT3 s.heap a b).objs.size=some _:=zaf _ (zan _ rfl);have g3:(zT5 s.heap a b).get? (zT2 s.heap a b).objs.size=some _:=zaf _ (zaf _ (zan _ rfl));have g2:(zT5 s.heap a b).get? (zT1 s.heap a).objs.size=some _:=zaf _ (zaf _ (zaf _ (zan _ rfl)));have g1:(zT5 s.heap a b).get? s.heap.objs.size=some _:=zaf _ (zaf _ (zaf _ (zaf _ (zan _ rfl))));refine⟨⟨ha,hb⟩,?_⟩;show _/\_;rw[z2,z3,z4]at g5;rw[z1,z2]at g3;rw[z3]at g4;rw[z1]at g2;rw[z4];exact⟨⟨_,g5,rfl⟩,h _ g5 g3 g4 ⟨_,g1,rfl,rfl⟩ ⟨_,g2,rfl,rfl⟩ z5 fun c o x=>
  zaf _ (zaf _ (zaf _ (zaf _ (zaf _ x))))⟩
def vi{a b:Nat}(ha:a<n)(hb:b<n):ZApartT (n+4) (n+2) (n+3) n (n+1) a b:=
 ⟨wH n,zaw (by omega),zaw (by omega),zaw (by omega),zaw (by omega),zaw (by omega),zaw (by omega),zaw (by omega),zaw (by omega)⟩
def BK(K:zbS)(a b:Addr):It:=
 ⟨fun i H=>∃xs ys x y,SqT K H a xs/\SqT K H b ys/\xs[i]?=some x/\ys[i]?=some y,
  fun i H v H'=>∃p x y,v=.ref p/\H p=none/\H'=upd H p (.tup [x,y])/\(∀xs,SqT K H a xs->xs[i]?=some x)/\(∀ys,SqT K H b ys->ys[i]?=some y),
  fun i H=>∃xs ys,SqT K H a xs/\SqT K H b ys/\(i=xs.length\/(i<xs.length/\i=ys.length))⟩
def yi(z TI TO i1 i2 a b:Addr)(D:ZApartT z TI TO i1 i2 a b):
  Turn P w K (.Tuple elts k tp) (BK K a b) [z,TI,TO,i1,i2] z (fun i h=>IsZip h z TI TO .none/\IsPair h TI (.ref i1) (.ref i2)/\(∃u v,IsPair h TO u v)/\h.IsTupleIter i1 a i/\h.IsTupleIter i2 b i) where
 mem:=by simp
 obj:=fun i h st c hc=>by
  obtain⟨h1,h2,⟨u,v,h3⟩,⟨o4,g4,_,d4⟩,⟨o5,g5,_,d5⟩⟩:=st;have hc':c=z\/c=TI\/c=TO\/c=i1\/c=i2:=by simpa using hc
  rcases hc' with rfl|rfl|rfl|rfl|rfl
  ·exact⟨_,h1,fun v q=>by
    have q':Data.fields _=Data.cell v:=q;cases q'⟩
  ·exact⟨_,h2,fun v q=>by
    have q':Data.seq _ _=Data.cell v:=q;cases q'⟩
  ·exact⟨_,h3,fun v q=>by
    have q':Data.seq _ _=Data.cell v:=q;cases q'⟩
  ·exact⟨o4,g4,fun v q=>by rw[d4]at q;cases q⟩
  ·exact⟨o5,g5,fun v q=>by rw[d5]at q;cases q⟩
 keep:=fun i h h' st kp=>⟨kp z (by simp) _ st.1,kp TI (by simp) _ st.2.1,let⟨u,v,e⟩:=st.2.2.1;⟨u,v,kp TO (by simp) _ e⟩,st.2.2.2.1.at fun o q=>kp i1 (by simp) o q,st.2.2.2.2.at fun o q=>kp i2 (by simp) o q⟩
 item:=by
  intro X hP hw hK hc i ρ s σ H E I hf st hg;subst hP hw hK;obtain⟨xs,ys,x,y,hq,hq2,hx,hy⟩:=hg;obtain⟨its,rv,p,hz⟩:=I.tuple hq;obtain⟨ν,rv2,p2,hz2⟩:=I.tuple hq2;obtain⟨u,hu,ru⟩:=rv.get hx;obtain⟨u2,hu2,ru2⟩:=rv2.get hy;obtain⟨hZ,hTI,⟨c1,c2,hTO⟩,hi1,hi2⟩:=st;have bd1:i<its.toArray.size:=by have:=(zah.mp hu).1;simpa using this
  have bd2:i<ν.toArray.size:=by have:=(zah.mp hu2).1;simpa using this
  refine oX (I.ok.hd hc) D hZ hTI hTO ⟨hi1,p⟩ ⟨hi2,p2⟩ bd1 bd2 fun h1 tk c d hcx hdx a1 a2 a3 a4 a5 a6 a7=>?_;have ec:u=c:=by
   have e:its[i]?=some c:=by simpa using hcx
   rw[hu]at e;exact zat e
  have ed:u2=d:=by
   have e:ν[i]?=some d:=by simpa using hdx
   rw[hu2]at e;exact zat e
  subst ec ed;refine⟨_,rfl,wpAny_letOwnedTupleGo_zip a1 fun h2 hz2' hs2=>?_⟩;have zL:z<s.heap.objs.size:=zal hZ;have ht2:IsPair h2 s.heap.objs.size u u2:=(hs2.2 _ (Nat.ne_of_gt zL)).trans a5;have hTI2:IsPair h2 TI (.ref i1) (.ref i2):=(hs2.2 _ D.TIz).trans (a7 _ _ D.TIz D.TITO D.TIi1 D.TIi2 hTI);have hTO2:IsPair h2 TO u u2:=(hs2.2 _ D.TOz).trans a2;have hi1':h2.IsTupleIter i1 a (i+1):=(let⟨o,ho,r⟩:=a3;⟨o,hs2.extBut _ _ D.i1z ho,r⟩);have hi2':h2.IsTupleIter i2 b (i+1):=(let⟨o,ho,r⟩:=a4;⟨o,hs2.extBut _ _ D.i2z ho,r⟩);have I2:Inv X ρ σ (upd H s.heap.objs.size (.tup [x,y])) { s with heap:=h2,toks:=tk }:=by
   refine I.turnedLaid (fp:=[z,TI,TO,i1,i2]) hf (zav _) (fun c ob hb q=>?_) (fun c hb=>?_) ?_
   ·have n1:c≠z:=fun e=>hb (by simp[e]);have n3:c≠TO:=fun e=>hb (by simp[e]);have n4:c≠i1:=fun e=>hb (by simp[e]);have n5:c≠i2:=fun e=>hb (by simp[e]);exact(hs2.2 c n1).trans (a7 c ob n1 n3 n4 n5 q)
   ·have hb':c=z\/c=TI\/c=TO\/c=i1\/c=i2:=by simpa using hb
    rcases hb' with rfl|rfl|rfl|rfl|rfl
    ·exact⟨_,hz2'⟩
    ·exact⟨_,hTI2⟩
    ·exact⟨_,hTO2⟩
    ·obtain⟨o,ho,_⟩:=hi1';exact⟨o,ho⟩
    ·obtain⟨o,ho,_⟩:=hi2';exact⟨o,ho⟩
   ·refine⟨(by show 2<=sizeLine;decide),[u,u2],.cons ru (.cons ru2 .nil),?_⟩;exact⟨_,ht2,rfl,_,rfl,rfl⟩
  have fr:∀c∈[z,TI,TO,i1,i2],upd H s.heap.objs.size (.tup [x,y]) c=none:=fun c hb=>by
   have hlt:c<s.heap.objs.size:=by
    have hb':c=z\/c=TI\/c=TO\/c=i1\/c=i2:=by simpa using hb
    rcases hb' with rfl|rfl|rfl|rfl|rfl
    ·exact zL
    ·exact zal hTI
    ·exact zal hTO
    ·obtain⟨o,ho,_⟩:=hi1;exact zal ho
    ·obtain⟨o,ho,_⟩:=hi2;exact zal ho
   rw[aG (zaw hlt)];exact(hf c hb).1
  exact⟨.ref s.heap.objs.size,_,I2,rfl,⟨_,x,y,rfl,I.fresh,rfl,fun zs hz=>by rw[I.tuple_inj hz hq];exact hx,fun zs hz=>by rw[I.tuple_inj hz hq2];exact hy⟩,⟨hz2',hTI2,⟨_,_,hTO2⟩,hi1',hi2'⟩,fr⟩
 done:=by
  intro X hP hw hK hc i ρ s σ H E I hf st hg;subst hP hw hK;obtain⟨xs,ys,hq,hq2,he⟩:=hg;obtain⟨its,rv,p,hz⟩:=I.tuple hq;obtain⟨ν,rv2,p2,hz2⟩:=I.tuple hq2;obtain⟨hZ,hTI,⟨c1,c2,hTO⟩,hi1,hi2⟩:=st;have l1:=rv.length;have l2:=rv2.length;have he':i=its.toArray.size\/(i<its.toArray.size/\i=ν.toArray.size):=by
   rw[zai,zai];omega
  exact pS (I.ok.hd hc) D hZ hTI hTO ⟨hi1,p⟩ ⟨hi2,p2⟩ he' fun h' tk eb=>⟨rfl,I.turnedMany (t':=tk) hf fun c o hb q=>eb c o (fun e=>hb (by simp[e])) (fun e=>hb (by simp[e])) (fun e=>hb (by simp[e])) (fun e=>hb (by simp[e])) q⟩
 self:=fun _ _ _ _ _ st h=>wpAny_pyIter_zip st.1 h
def EB(K:zbS)(ta:TA):TI:=fun σ H R=>ta σ H fun vs H1=>∃a b,vs=[.ref a,.ref b]/\(∃xs,SqT K H1 a xs)/\(∃ys,SqT K H1 b ys)/\R (BK K a b) H1
def Fh{ta:TA}{p:Pos}(hg:Gl X "zip")(hm:X.mg "zip"=none)(ha:PA X [l,m] ta)(hs:starEach [l,m] X.env=(false,eval l X.env)::starEach [m] X.env:=by rfl)(hpl:(backTo pos (starEach [m] X.env)).any (·.1)=false:=by rfl):
  PI X (.Tuple elts k tp) (.Call (.Name "zip" p) [l,m] [] pos) (EB X.K ta):=by
 intro ρ s σ H R I h;refine Call_ (mI I hg hm boot_zip (PyProof.Rows.callWith_type1 (thn (ha pos ρ s σ H _ I h) fun us s1 ⟨vs,H1,I1,r1,q1⟩=>?_) hs hpl));obtain⟨a,b,e,⟨xs,hq⟩,⟨ys,hq2⟩,q⟩:=q1;subst e;obtain⟨u,v,rfl,ru,rv'⟩:=sR r1;cases ru;cases rv';obtain⟨its,rv,pl,hz⟩:=I1.tuple hq;obtain⟨ν,rv2,pl2,hz2⟩:=I1.tuple hq2;have La:a<s1.heap.objs.size:=let⟨_,e,_⟩:=pl;zal e;have Lb:b<s1.heap.objs.size:=let⟨_,e,_⟩:=pl2;zal e;refine Ab pl pl2 fun h' hZ hTI hTO hi1 hi2 hsz hk=>?_;refine wpAny_pyIter_zip hZ ?_;have I2:Inv X ρ σ H1 { s1 with heap:=h' }:=I1.kept (t':=s1.toks) hk;refine⟨s1.heap.objs.size+4,[s1.heap.objs.size+4,s1.heap.objs.size+2,s1.heap.objs.size+3,s1.heap.objs.size,s1.heap.objs.size+1],_,_,H1,rfl,I2,yi _ _ _ _ _ a b (vi La Lb),⟨hZ,hTI,⟨_,_,hTO⟩,hi1,hi2⟩,fun c hb=>?_,q⟩;have hb':s1.heap.objs.size<=c:=by
  have hb':c=s1.heap.objs.size+4\/c=s1.heap.objs.size+2\/c=s1.heap.objs.size+3\/c=s1.heap.objs.size\/c=s1.heap.objs.size+1:=by simpa using hb
  rcases hb' with rfl|rfl|rfl|rfl|rfl<;>omega
 exact I1.fpOk hb' (I1.hok.fresh hb')
def AV{ta:TA}{p:Pos}(hK:X.K=K)(hg:Gl X "zip")(hm:X.mg "zip"=none)(ha:PA X [l,m] ta)(hs:starEach [l,m] X.env=(false,eval l X.env)::starEach [m] X.env:=by rfl)(hpl:(backTo pos (starEach [m] X.env)).any (·.1)=false:=by rfl):
  PI X (.Tuple elts k tp) (.Call (.Name "zip" p) [l,m] [] pos) (EB K ta):=by subst hK;exact Fh hg hm ha hs hpl
section
variable{ws:List V}{a b:Addr}
def yf(h:FzT K O H0 a vs)(ho:Ows K O H0 ts 0 vs NoA)(h':FzT K O H0 b ws)(ho':Ows K O H0 us 0 ws NoA):mY K O H0 (BK K a b) (fm ts us):=fun i H O1 h1 h2 h3=>by
 have sq:=(h.mv (gb h1 h2)).sq;have sq':=(h'.mv (gb h1 h2)).sq;refine⟨fun u hu=>?_,fun hl=>⟨vs,ws,sq,sq',?_⟩⟩
 ·unfold fm at hu;rw[List.getElem?_zipWith]at hu;split at hu
  case h_2=>cases hu
  next t t' ht ht'=>
  cases hu;obtain⟨v,hv,ov⟩:=ho.get ht;obtain⟨w,hw,ow⟩:=ho'.get ht';refine⟨⟨vs,ws,v,w,sq,sq',hv,hw⟩,fun x H1 ⟨q,v',w',e1,hp,e2,y1,y2⟩=>?_⟩;have e3:=y1 vs sq;have e4:=y2 ws sq';rw[hv]at e3;rw[hw]at e4;cases e3;cases e4;subst e1 e2;exact JN hp h3 (Ow.mv (gb h1 h2) t (fun _ z=>z) ov) (Ow.mv (gb h1 h2) t' (fun _ z=>z) ow)
 ·unfold fm at hl;rw[List.length_zipWith]at hl;rw[ho.len,ho'.len];omega
def mM(fa:MA):MI:=fun en=>(fa en).bind fun r=>match r.1 with
 |[.inl (.tuple ts),.inl (.tuple us)]=>some (fm ts us,r.2)
 |_=>none
def Gp(hK:X.K=K)(hg:Gl X "zip")(hm:X.mg "zip"=none)(ha:PA X [l,m] (tFA K p ds ds1 sh fa))(hs:av l=true)(hs2:av m=true):
  PI X (.Tuple elts k tp) (.Call (.Name "zip" px) [l,m] [] pos) (tFI K p ds ds1 (mM fa)):=
 (AV hK hg hm ha (by rw[aD hs]) (by rw[aD hs2];rfl)).imp fun σ H R ⟨Ox,en,Rg,ts,en',e,hf,k⟩=>by
  unfold mM at hf;obtain⟨⟨as,en1⟩,h1,hf⟩:=zaa.mp hf;refine⟨Ox,en,Rg,as,en1,e,h1,fun vs H1 R1 F P o=>?_⟩
  dsimp only at hf
  split at hf
  case h_2=>cases hf
  next t1 t2=>
  cases hf;obtain⟨v,r,d,dr,F1,F2,e1,e2,s1,s2,_,o1,v2,r2,d2,dr2,G1,G2,e3,e4,s3,_,_,o2,o3⟩:=o;obtain⟨_,o3⟩:=o3;subst e1 e3 o3;have q1:=Ow.letgo P s1 o1;have q2:=Ow.letgo P (fun b z=>s2 b (s3 b z)) o2;obtain⟨a,xs,f1,⟨_,fz,ow⟩|⟨z,_⟩⟩:=q1
  ·obtain⟨b,ys,f2,⟨_,fz2,ow2⟩|⟨z,_⟩⟩:=q2
   ·subst f1 f2;exact⟨a,b,rfl,⟨xs,fz.sq⟩,⟨ys,fz2.sq⟩,k _ H1 R1 (P.less fun _ z=>z.elim) (yf fz ow fz2 ow2)⟩
   ·exact absurd rfl z
  ·exact absurd rfl z
end
structure QE(X:Cx)(e:Expr)(t:TE):Prop where
 h:PE X e t
structure QT(X:Cx)(e:Expr)(t:TT):Prop where
 h:PT X e t
structure QW(X:Cx)(e:Expr)(t:TT):Prop where
 h:PW X e t
structure QA(X:Cx)(e:List Expr)(t:TA):Prop where
 h:PA X e t
structure QS(X:Cx)(e:Stmt)(t:TS):Prop where
 h:PS X e t
structure QSs(X:Cx)(e:List Stmt)(t:TS):Prop where
 h:PSs X e t
structure QG(X:Cx)(e:Expr)(t:TG):Prop where
 h:PG X e t
structure QGs(X:Cx)(e:List Expr)(t:TGs):Prop where
 h:PGs X e t
structure QI(X:Cx)(tg e:Expr)(t:TI):Prop where
 h:PI X tg e t
structure QTs(X:Cx)(e:List Expr)(t:TT):Prop where
 h:PTs X e t
structure QO(X:Cx)(e:Option Expr)(t:TO):Prop where
 h:PO X e t
structure QPs(X:Cx)(pos:Pos)(ks:List (Option Expr))(vs:List Expr)(t:List (TE×TE)):Prop where
 h:PPs X pos ks vs t
def qpt{t:TT}(h:QW X e t):QT X e t:=⟨h.h.pt⟩
section
variable{m:MT}    
def fP(hN:X.N[i]?=some x)(hv:Vis X.env.scope x)(h0:ds[i]?=some 0)(hd:(x==("__debug__":Str))=false)(hcd:(x==("__classdict__":Str))=false):QE X (.Name x pos) (tF K p ds ds 0 (ae i)):=⟨KO hN hv h0 hd hcd⟩
def aj{n:Int}{j}:QE X (.Constant (.int n) j pos) (tF K p ds ds 3 (eC (.int n))):=⟨K6⟩
def bV{n:Bool}{j}:QE X (.Constant (.bool n) j pos) (tF K p ds ds 3 (eC (.bool n))):=⟨Ml⟩
def lD{j}:QE X (.Constant .none j pos) (tF K p ds ds 3 (eC .none)):=⟨KW⟩
def ag{n:Str}{j}:QE X (.Constant (.str n) j pos) (tF K p ds ds 3 (eC (.str n))):=⟨KR⟩
def eZ{n:Int}(hg:Gl X x)(hm:X.mg x=some (.int n t))(hd:(x==("__debug__":Str))=false):QE X (.Name x pos) (tF K p ds ds 3 (eC (.int n))):=⟨Bs hg hm hd⟩
def xH{n:Str}(hg:Gl X x)(hm:X.mg x=some (.str n t))(hd:(x==("__debug__":Str))=false):QE X (.Name x pos) (tF K p ds ds 3 (eC (.str n))):=⟨Br hg hm hd⟩
def cJ(h:QE X e (tF K p ds ds' d f))(hd:Le4 d' d):QE X e (tF K p ds ds' d' f):=⟨KQ h.h hd⟩
def kB(h:QE X e (tF K p ds0 ds' d f))(hd:leD ds0 ds=true):QE X e (tF K false ds ds' d f):=⟨Mj h.h hd⟩
def lE(h:QE X e (tF K true ds0 ds0 3 f))(hd:leD ds0 ds=true):QE X e (tF K p ds ds 3 f):=⟨K9 h.h hd⟩
def ai{op:Operator}(ho:OpR X (binaryOp op) (rF2 K g d))(ha:QE X a (tF K p ds ds1 d1 f1))(hb:QE X b (tF K p ds1 ds2 d2 f2)):QE X (.BinOp a op b pos) (tF K p ds ds2 d (e2 g f1 f2)):=⟨Mg ho ha.h hb.h⟩
def Gv{op:UnaryOp}{g:D->Option D}(ho:UnR X (unaryOp op) (rF1 K g d))(ha:QE X a (tF K p ds ds1 d1 f1)):QE X (.UnaryOp op a pos) (tF K p ds ds1 d (e1 g f1)):=⟨Md ho ha.h⟩
def cK(ho:OpR X (compareOp op) (rF2 K g d))(ha:QE X a (tF K p ds ds1 d1 f1))(hb:QE X b (tF K p ds1 ds2 d2 f2))(hm:behindInMarks op b=false):QE X (.Compare a [op] [b] pos) (tF K p ds ds2 d (e2 g f1 f2)):=⟨K8 ho ha.h hb.h hm⟩
def bj(ho:OpR X (compareOp op) (rF2 K g d))(ha:QE X a (tF K p ds ds1 d1 f1))(hb:QE X b (tF K p ds1 ds2 d2 f2))(hm:behindInMarks op b=false):QT X (.Compare a [op] [b] pos) (tFT K p ds ds2 (tV (e2 g f1 f2))):=⟨FQ ho ha.h hb.h hm⟩
def aK(h:QE X e (tF K p ds ds' d f))(he:∀χ,isTrue e X.env χ=(do let v <-χ;standAt e.pos;holding [v] (truthy v))):QT X e (tFT K p ds ds' (tV f)):=⟨FO h.h he⟩
def zu(ha:QT X a (tFT K p ds ds1 c1)):QW X (.BoolOp .And [a] pos) (tFT K p ds ds1 c1):=⟨FK ha.h⟩
def bU(ha:QT X a (tFT K p ds ds1 c1)):QW X (.BoolOp .Or [a] pos) (tFT K p ds ds1 c1):=⟨Kq ha.h⟩
def uM{rest:List Expr}(ha:QT X a (tFT K p ds ds1 c1))(hb:QW X (.BoolOp .And (b::rest) pos) (tFT K p ds1 ds1 c2)):QW X (.BoolOp .And (a::b::rest) pos) (tFT K p ds ds1 (iz c1 c2)):=⟨Kr ha.h hb.h⟩
def cx{rest:List Expr}(ha:QT X a (tFT K p ds ds1 c1))(hb:QW X (.BoolOp .Or (b::rest) pos) (tFT K p ds1 ds1 c2)):QW X (.BoolOp .Or (a::b::rest) pos) (tFT K p ds ds1 (bOr c1 c2)):=⟨L8 ha.h hb.h⟩
def aS(ha:QT X a (tFT K p ds ds1 c1)):QT X (.UnaryOp .Not a pos) (tFT K p ds ds1 (bE c1)):=⟨FP ha.h⟩
def dE(h:QT X e (tFT K true ds0 ds0 c1))(hd:leD ds0 ds=true):QT X e (tFT K p ds ds c1):=⟨FR h.h hd⟩
def fQ{op}(h:QE X a (tF K p ds ds1 d f)):QE X (.BoolOp op [a] pos) (tF K p ds ds1 d f):=⟨KS h.h⟩
def fR{rest:List Expr}(ha:QE X a (tF K p ds ds1 d1 f1))(hb:QE X (.BoolOp .And (b::rest) pos) (tF K p ds1 ds1 d f2)):QE X (.BoolOp .And (a::b::rest) pos) (tF K p ds ds1 d (iu f1 f2)):=⟨Ld ha.h hb.h⟩
def Gy{rest:List Expr}(ha:QE X a (tF K p ds ds1 d1 f1))(hb:QE X (.BoolOp .Or (b::rest) pos) (tF K p ds1 ds1 d f2)):QE X (.BoolOp .Or (a::b::rest) pos) (tF K p ds ds1 d (eOr f1 f2)):=⟨Mf ha.h hb.h⟩
def uU(ha:QE X a (tF K p ds ds1 d1 f)):QE X (.UnaryOp .Not a pos) (tF K p ds ds1 3 (pk f)):=⟨KU ha.h⟩
def aa: QA X [] (tFA K p ds ds [] af):=⟨GF⟩
def xJ(ha:QE X e (tF K p ds ds1 d f))(hr:QA X es (tFA K p ds1 ds2 sh fa))(hs:av e=true):QA X (e::es) (tFA K p ds ds2 (.inl d::sh) (ac f fa)):=⟨By ha.h hr.h hs⟩
def qo(hN:X.N[i]?=some x)(hv:Vis X.env.scope x)(hr:QA X es (tFA K p ds ds2 sh fa))(hd:(x==("__debug__":Str))=false)(hcd:(x==("__classdict__":Str))=false):QA X (.Name x pos::es) (tFA K p ds ds2 (.inr i::sh) (aL i fa)):=⟨Bx hN hv hr.h hd hcd⟩
def aI{c:Nat}(h:QA X es (tFA K p ds ds1 sh fa))(hs:b9 c sh=true)(hd:dn d=c)(hz:d≠0):QE X (.List es pos) (tF K p ds ds1 d (aZ fa)):=⟨KZ h.h hs hd hz⟩
def eL{c:Nat}{x1}(h:QA X es (tFA K p ds ds1 sh fa))(hs:b9 c sh=true)(hd:dn d=c):QE X (.Tuple es x1 pos) (tF K p ds ds1 d (gO fa)):=⟨KP h.h hs hd⟩
def qm{id:String}{g:List D->Option D}(hc:CallR X (.builtin id) (rFn K g d))(hg:Gl X x)(hm:X.mg x=none)(hv:bootBuiltins x=some (.builtin id))(ha:QA X (e::es) (tFA K p ds ds1 sh fa))(hsh:b9 0 sh=true)(hn:x≠"__name__")(hdb:(x==("__debug__":Str))=false)(he:av e=true)(hpl:es.all av=true):QE X (.Call (.Name x px) (e::es) [] pos) (tF K p ds ds1 d (eN g fa)):=⟨Bw hc hg hm hv ha.h hsh hn hdb he hpl⟩
def vH{T:String}{g:List D->Option D}(hc:CallR X (.type T) (rFn K g d))(hg:Gl X x)(hm:X.mg x=none)(hv:bootBuiltins x=some (.type T))(ha:QA X (e::es) (tFA K p ds ds1 sh fa))(hsh:b9 0 sh=true)(hn:x≠"__name__")(hdb:(x==("__debug__":Str))=false)(he:av e=true)(hpl:es.all av=true):QE X (.Call (.Name x px) (e::es) [] pos) (tF K p ds ds1 d (eN g fa)):=⟨zM hc hg hm hv ha.h hsh hn hdb he hpl⟩
def GA{F:List D->Option (D×En)}(G:Kn X.prog X.w X.K X.mg X.base k x ps (spF K dps dr F))(hr:Room k X.A)(hg:Gl X x)(ha:QA X (e::es) (tFA K p ds ds1 sh fa))(hns:gl sh=true)(hcd:cO ds1 sh dps=true)(hdb:(x==("__debug__":Str))=false)(he:av e=true)(hpl:es.all av=true):QE X (.Call (.Name x px) (e::es) [] pos) (tF K p ds ds1 dr (aq F fa)):=⟨Mk G hr hg ha.h hns hcd hdb he hpl⟩
def Bt{F:List D->Option (D×En)}(G:Kn X.prog X.w X.K X.mg X.base k x ps (spF K dps dr F))(hr:Room k X.A)(hg:Gl X x)(ha:QA X (e::es) (tFA K false ds ds1 sh fa))(hcd:cO ds1 sh dps=true)(hdb:(x==("__debug__":Str))=false)(he:av e=true)(hpl:es.all av=true):QE X (.Call (.Name x px) (e::es) [] pos) (tF K false ds ds1 dr (aq F fa)):=⟨K7 G hr hg ha.h hcd hdb he hpl⟩
def eY(ho:IxR X (rF2 K g d))(ha:QE X a (tF K p ds ds1 d1 f1))(hb:QE X b (tF K p ds1 ds2 d2 f2))(hs:kJ b):QE X (.Subscript a b pos) (tF K p ds ds2 d (e2 g f1 f2)):=⟨Mi ho ha.h hb.h hs⟩
def Bo(hK:X.K=K)(hN:X.N[i]?=some x)(hv:Vis X.env.scope x)(h1:ds1[i]?=some 1)(hb:QE X b (tF K p ds ds1 d1 f))(hs:kJ b)(hd:(x==("__debug__":Str))=false)(hcd:(x==("__classdict__":Str))=false):QE X (.Subscript (.Name x px) b pos) (tF K p ds ds1 0 (gt i f)):=⟨K1 hK hN hv h1 hb.h hs hd hcd⟩
def dk{c:Nat}(hK:X.K=K)(hN:X.N[i]?=some x)(hv:Vis X.env.scope x)(h1:ds1[i]?=some d)(he:QE X e (tF K false ds ds1 c f))(hz:d≠0)(hc:dn d=c)(hd:(x==("__debug__":Str))=false)(hcd:(x==("__classdict__":Str))=false)(η:attributeBase (.Name x px) "append" X.env (eval (.Name x px) X.env)=eval (.Name x px) X.env)(hfew:((backTo ω (starEach [e] X.env)).all (fun x=>!x.1)&&(backToKw ω (keywordEach [] X.env)).all (fun x=>x.1.isSome)&&decide (([e]:List Expr).length+([]:List Keyword).length+(if([]:List Keyword).isEmpty then 0 else 1)<30))=true)(θ:(μ.endLine==ω.line)=true)(hs:starEach [e] X.env=[(false,eval e X.env)])(ι:(backTo ω (starEach [] X.env)).any (·.1)=false):QE X (.Call (.Attribute (.Name x px) "append" μ) [e] [] ω) (tF K false ds ds1 3 (ft i f)):=⟨Lc hK hN hv h1 he.h hz hc hd hcd η hfew θ hs ι⟩
def qk{c:Nat}(hK:X.K=K)(hN:X.N[i]?=some x)(hv:Vis X.env.scope x)(h1:ds1[i]?=some d)(he:QE X e (tF K false ds ds1 d1 f))(hz:d≠0)(hc:dn d=c)(hd:(x==("__debug__":Str))=false)(hcd:(x==("__classdict__":Str))=false)(η:attributeBase (.Name x px) "pop" X.env (eval (.Name x px) X.env)=eval (.Name x px) X.env)(hfew:((backTo ω (starEach [e] X.env)).all (fun x=>!x.1)&&(backToKw ω (keywordEach [] X.env)).all (fun x=>x.1.isSome)&&decide (([e]:List Expr).length+([]:List Keyword).length+(if([]:List Keyword).isEmpty then 0 else 1)<30))=true)(θ:(μ.endLine==ω.line)=true)(hs:starEach [e] X.env=[(false,eval e X.env)])(ι:(backTo ω (starEach [] X.env)).any (·.1)=false):QE X (.Call (.Attribute (.Name x px) "pop" μ) [e] [] ω) (tF K false ds ds1 c (ie i f)):=⟨Bn hK hN hv h1 he.h hz hc hd hcd η hfew θ hs ι⟩
def bd: QTs X [] (tFT K p ds ds cY):=⟨FN⟩
def jM(hc:QT X c (tFT K p ds ds1 c1)):QTs X [c] (tFT K p ds ds1 c1):=⟨FM hc.h⟩
def cb{g:MG}(B:BlkOkC X scope ns js)(hc:X.calm=true)(hi:QI X tg iter (tFI K p ds ds1 fi))(hg:∀C cl s₀ H₀ fp,QG (au X scope ns C cl s₀ H₀ fp) tg (tFG K lk dsi dsi g))(ht:∀C cl s₀ H₀ fp,QTs (au X scope ns C cl s₀ H₀ fp) ifs (tFT K true dsi dsi c1))(he:∀C cl s₀ H₀ fp,QE (au X scope ns C cl s₀ H₀ fp) elt (tF K true dsi dsi cd f))(hcap:eh ds1 js dsi=true)(hd:dn d=cd)(hz:d≠0)(hlk:lk=fT js 0)(hs:∀x,foldedSetIterable iter X.env x=pure x):QE X (.ListComp elt [⟨tg,iter,ifs,0⟩] scope pos) (tF K p ds ds1 d (eLC true fi g c1 f js)):=⟨Mh B hc hi.h (fun C cl s₀ H₀ fp=>(hg C cl s₀ H₀ fp).h) (fun C cl s₀ H₀ fp=>(ht C cl s₀ H₀ fp).h) (fun C cl s₀ H₀ fp=>(he C cl s₀ H₀ fp).h) hcap hd hz hlk hs⟩
def pj{g:MG}(B:BlkOkC X scope ns js)(hc:X.calm=true)(hi:QI X tg iter (tFI K false ds ds1 fi))(hg:∀C cl s₀ H₀ fp,QG (au X scope ns C cl s₀ H₀ fp) tg (tFG K lk dsi dsi g))(ht:∀C cl s₀ H₀ fp,QTs (au X scope ns C cl s₀ H₀ fp) ifs (tFT K false dsi dsi c1))(he:∀C cl s₀ H₀ fp,QE (au X scope ns C cl s₀ H₀ fp) elt (tF K false dsi dsi cd f))(hcap:eh ds1 js dsi=true)(hd:dn d=cd)(hz:d≠0)(hlk:lk=fT js 0)(hs:∀x,foldedSetIterable iter X.env x=pure x):QE X (.ListComp elt [⟨tg,iter,ifs,0⟩] scope pos) (tF K false ds ds1 d (eLC false fi g c1 f js)):=⟨K0 B hc hi.h (fun C cl s₀ H₀ fp=>(hg C cl s₀ H₀ fp).h) (fun C cl s₀ H₀ fp=>(ht C cl s₀ H₀ fp).h) (fun C cl s₀ H₀ fp=>(he C cl s₀ H₀ fp).h) hcap hd hz hlk hs⟩
end
section
variable{rest:List Stmt}{m m1:MS}{g:MG}  
def aH: QSs X [] (tFS K J ds ds bc):=⟨FX⟩
def ah(h1:QS X st (tFS K J ds ds1 m1))(h2:QSs X rest (tFS K J ds1 ds2 m2)):QSs X (st::rest) (tFS K J ds ds2 (al m1 m2)):=⟨A8 h1.h h2.h⟩
def aE(h1:QS X st (tFS K J ds ds1 m1)):QSs X [st] (tFS K J ds ds1 m1):=⟨FW h1.h⟩
def bG(he:QE X e (tF K false ds ds1 d f))(hs:swapsWith e none pos.line X.env=pure false):QS X (.Expr e pos) (tFS K J ds ds1 (eg f)):=⟨Gb he.h hs⟩
def zx(he:QE X e (tF K false ds ds1 J.dr f))(hd:leD J.dsr ds1=true):QS X (.Return (some e) pos) (tFS K J ds ds' (aB f)):=⟨F9 he.h hd⟩
def di: QS X st (tFS K J ds ds' eG):=⟨zy⟩
def aM(hc:QT X c (tFT K false ds ds1 c1))(ha:QSs X body (tFS K J ds1 ds2 m1))(hb:QSs X xM (tFS K J ds1 ds2 m2)):QS X (.If c body xM pos) (tFS K J ds ds2 (sIf c1 m1 m2)):=⟨KB hc.h ha.h hb.h⟩
def da(hN:X.N.Nodup)(hi:X.N[i]?=some x)(hx:Loc X.env.scope x)(he:QE X e (tF K false ds ds1 d f))(hds:ds1.set i d=ds')(hl:i<ds1.length)(hk:i∉J.lk)(hs:swapsWith e (some (.Name x pos')) pos.line X.env=pure false)(hf:X.fn x=true\/X.env.scope.names.lookup x=some .local):QS X (.Assign [.Name x pos'] e pos) (tFS K J ds ds' (ao i f)):=⟨F8 hN hi hx he.h hds hl hk hs hf⟩
def ke(hN:X.N.Nodup)(hi':X.N[i]?=some x)(hx:X.env.scope.names.lookup x=some .local)(B:BlkOkC X scope ns js)(hc:X.calm=true)(hi:QI X tg iter (tFI K false ds ds1 fi))(hg:∀C cl s₀ H₀ fp,QG (au X scope ns C cl s₀ H₀ fp) tg (tFG K lk dsi dsi g))(ht:∀C cl s₀ H₀ fp,QTs (au X scope ns C cl s₀ H₀ fp) ifs (tFT K q dsi dsi c1))(he:∀C cl s₀ H₀ fp,QE (au X scope ns C cl s₀ H₀ fp) elt (tF K q dsi dsi cd f))(hds:ds1.set i d=ds')(hcap:eh ds1 js dsi=true)(hd:dn d=cd)(hz:d≠0)(hlk:lk=fT js 0)(hl:i<ds1.length)(hk:i∉J.lk)(hsw:swapsWith (.ListComp elt [⟨tg,iter,ifs,0⟩] scope pos) (some (.Name x pos')) ζ.line X.env=pure true)(hs:∀x,foldedSetIterable iter X.env x=pure x):QS X (.Assign [.Name x pos'] (.ListComp elt [⟨tg,iter,ifs,0⟩] scope pos) ζ) (tFS K J ds ds' (ao i (eLC q fi g c1 f js))):=⟨zw hN hi' hx B hc hi.h (fun C cl s₀ H₀ fp=>(hg C cl s₀ H₀ fp).h) (fun C cl s₀ H₀ fp=>(ht C cl s₀ H₀ fp).h) (fun C cl s₀ H₀ fp=>(he C cl s₀ H₀ fp).h) hds hcap hd hz hlk hl hk hsw hs⟩
def xF(hN:X.N.Nodup)(hi:X.N[i]?=some x)(hx:Loc X.env.scope x)(hds:ds.set i 0=ds')(hl:i<ds.length)(hk:i∉lk)(hf:X.fn x=true\/X.env.scope.names.lookup x=some .local):QG X (.Name x pos) (tFG K lk ds ds' (gN i)):=⟨Bj hN hi hx hds hl hk hf⟩
def xE: QGs X [] (ip K lk ds ds gs0):=⟨Bh⟩
def ou(h1:QG X e (tFG K lk ds ds1 g))(h2:QGs X es (ip K lk ds1 ds2 gs))(hs:(assignEach (e::es) X.env).map (·.2)=assign e X.env::(assignEach es X.env).map (·.2)):QGs X (e::es) (ip K lk ds ds2 (gsC g gs)):=⟨zG h1.h h2.h hs⟩
def zH(hK:X.K=K)(hc:X.calm=true)(h:QGs X es (ip K lk ds ds1 gs))(hl:∀ts en,(∃en',gs ts en=some en')->ts.length=n)(hn:(assignEach es X.env).length=n)(hst:(assignEach es X.env).findIdx? (·.1)=none):QG X (.Tuple es k pos) (tFG K lk ds ds1 (gT gs)):=⟨Gs hK hc h.h hl hn hst⟩
def dF(hc:X.calm=true)(hi:QI X tg iter (tFI K false ds ds1 fi))(hg:QG X tg (tFG K J.lk ds1 ds2 g))(hb:QSs X body (tFS K { J with dsl:=ds1 } ds2 ds1 m))(hp:PassesOwn (model X.prog X.w) X.A X.env X.xe)(hs:∀x,foldedSetIterable iter X.env x=pure x):QS X (.For tg iter body [] pos) (tFS K J ds ds1 (gK fi g m)):=⟨Ga hc hi.h hg.h hb.h hp hs⟩
def oq(hc:QT X c (tFT K false ds ds1 c1))(hb:QSs X body (tFS K { J with dsl:=ds } ds1 ds m))(hp:PassesOwn (model X.prog X.w) X.A X.env X.xe):QS X (.While c body [] pos) (tFS K J ds ds1 (c9 c1 m)):=⟨zv hc.h hb.h hp⟩
end
def aY(hK:X.K=K)(hl:QE X l (tF K p ds ds1 d f)):QI X tg l (tFI K p ds ds1 (bO f)):=⟨KM hK hl.h⟩
def dG(hg:Gl X "range")(hm:X.mg "range"=none)(ha:QA X [a] (tFA K p ds ds1 sh fa))(hs:av a=true):QI X tg (.Call (.Name "range" px) [a] [] pos) (tFI K p ds ds1 (dP fa)):=⟨Gq hg hm ha.h hs⟩
def ci{T:Str}{n:String}{pt:Pos}(hK:X.K=K)(hg:Gl X "isinstance")(hm:X.mg "isinstance"=none)(hgT:Gl X T)(hmT:X.mg T=none)(hbT:bootBuiltins T=some (.type n))(hT:n∈["int","bool","str","list","tuple","dict"])(he:QE X e (tF K p ds ds1 d1 f))(hnT:T≠"__name__")(hdT:(T==("__debug__":Str))=false)(hs1:starEach [e,.Name T pt] X.env=(false,eval e X.env)::starEach [.Name T pt] X.env)(hs2:starEach [.Name T pt] X.env=(false,eval (.Name T pt) X.env)::starEach [] X.env)(hpl:(backTo pos (starEach [.Name T pt] X.env)).any (·.1)=false):QE X (.Call (.Name "isinstance" px) [e,.Name T pt] [] pos) (tF K p ds ds1 3 (e1 (bw n) f)):=⟨K2 hK hg hm hgT hmT hbT hT he.h hnT hdT hs1 hs2 hpl⟩
section
variable{ds3:List Nat}{d3:Nat}{f3:ME}{m:MS}{p2:Pos}
def jN(h:QS X st (tFS K J ds ds2 m))(hd:leD ds1 ds2=true):QS X st (tFS K J ds ds1 m):=⟨F7 h.h hd⟩
def xI(ho:OpR X (compareOp op) (rF2 K g 3))(ho':OpR X (compareOp op') (rF2 K g' 3))(ha:QE X a (tF K p ds ds0 d1 f1))(hb:QE X b (tF K p ds0 ds1 d2 f2))(hc:QE X c (tF K p ds1 ds1 d3 f3))(hm:lastMarks [op,op'] [b,c]=false):QE X (.Compare a [op,op'] [b,c] pos) (tF K p ds ds1 3 (fE g g' f1 f2 f3)):=⟨Bv ho ho' ha.h hb.h hc.h hm⟩
def qf(ho:OpR X (compareOp op) (rF2 K g 3))(ho':OpR X (compareOp op') (rF2 K g' 3))(ha:QE X a (tF K p ds ds0 d1 f1))(hb:QE X b (tF K p ds0 ds1 d2 f2))(hc:QE X c (tF K p ds1 ds1 d3 f3))(hm:lastMarks [op,op'] [b,c]=false):QT X (.Compare a [op,op'] [b,c] pos) (tFT K p ds ds1 (tV (fE g g' f1 f2 f3))):=⟨A7 ho ho' ha.h hb.h hc.h hm⟩
def aU: QO X none (tFO K p ds ds bx):=⟨Gg⟩
def aT(h:QE X e (tF K p ds ds1 d f)):QO X (some e) (tFO K p ds ds1 (bt f)):=⟨Ge h.h⟩
variable{lo hi:MO}
def aR{g:D->Option Int->Option Int->Option D}{elo ehi:Option Expr}(hr:SlR X (rFs K g d))(he:QE X e (tF K p ds ds1 d1 f))(hl:QO X elo (tFO K p ds1 ds2 lo))(hu:QO X ehi (tFO K p ds2 ds3 hi)):QE X (.Subscript e (.Slice elo ehi none p2) pos) (tF K p ds ds3 d (eSl g f lo hi)):=⟨Bm hr he.h hl.h hu.h⟩
end
section
variable{k:Expr}{Q:VK} 
def zJ: QE X (.Dict [] [] pos) (tF K p ds ds 3 qr):=⟨GC⟩
def gn(hu:X.A.units+1<cLine)(hN:X.N[i]?=some x)(hv:Vis X.env.scope x)(h1:ds1[i]?=some 1)(hi:QE X k (tF K p ds ds1 d1 f))(hs:xX k)(hd:(x==("__debug__":Str))=false)(hcd:(x==("__classdict__":Str))=false):QE X (.Subscript (.Name x px) k pos) (tF K p ds ds1 0 (b7 i f)):=⟨Bu hu hN hv h1 hi.h hs hd hcd⟩
def lC(hu:X.A.units+1<cLine)(hN:X.N[i]?=some x)(hv:Vis X.env.scope x)(he:QE X e (tF K false ds ds1 0 fe))(hk:QE X k (tF K false ds1 ds2 d2 fk))(h1:ds2[i]?=some 1)(hdb:(x==("__debug__":Str))=false)(hcd:(x==("__classdict__":Str))=false)(hs:swapsWith e (some (.Subscript (.Name x px) k ζ)) pos.line X.env=pure false):QS X (.Assign [.Subscript (.Name x px) k ζ] e pos) (tFS K J ds ds2 (eA i fk fe)):=⟨Bd hu hN hv he.h hk.h h1 hdb hcd hs⟩
end
section
variable{k:Expr}{j:Nat}{Q:VK} 
def zK{keys:List (Option Expr)}{values:List Expr}(h:QPs X pos keys values (trs K p ds fs))(hall:keys.all (·.isSome)=true)(hl:keys.length=values.length)(h0:keys≠[])(h15:keys.length<=15):QE X (.Dict keys values pos) (tF K p ds ds 1 (nU fs)):=⟨GD h.h hall hl h0 h15⟩
def Be: QPs X pos [] [] (trs K p ds []):=⟨KC⟩
def mO{k v:Expr}{ks:List (Option Expr)}{vs:List Expr}{fv:ME}(hk:QE X k (tF K p ds ds 3 fk))(hv:QE X v (tF K p ds ds 0 fv))(hr:QPs X pos ks vs (trs K p ds fs)):QPs X pos (some k::ks) (v::vs) (trs K p ds ((fk,fv)::fs)):=⟨Gc hk.h hv.h hr.h⟩
end
def mQ{T1 T2:Str}{n1 n2:String}{p1 p2:Pos}{kk:Nat}(hK:X.K=K)(hg:Gl X "isinstance")(hm:X.mg "isinstance"=none)(hg1:Gl X T1)(hm1:X.mg T1=none)(hb1:bootBuiltins T1=some (.type n1))(hg2:Gl X T2)(hm2:X.mg T2=none)(hb2:bootBuiltins T2=some (.type n2))(hT:∀T∈[n1,n2],T∈wJ)(he:QE X e (tF K p ds ds1 d1 f))(hn1:T1≠"__name__")(hd1:(T1==("__debug__":Str))=false)(hn2:T2≠"__name__")(hd2:(T2==("__debug__":Str))=false)(hs:av e=true):QE X (.Call (.Name "isinstance" px) [e,.Tuple [.Name T1 p1,.Name T2 p2] kk tp] [] pos) (tF K p ds ds1 3 (e1 (lA [n1,n2]) f)):=⟨Gz hK hg hm hg1 hm1 hb1 hg2 hm2 hb2 hT he.h hn1 hd1 hn2 hd2 hs⟩
section
variable{Q:VK}
def bn{name:Str}{id:String}{r:V->List V->Hp->VK->Prop}{g:Str->List D->Option D}(hK:X.K=K)(slot:Slot "str" name id)(hty:typeOf (.builtin id)=pure (.type "method_descriptor"))(hm:MtR X id r)(hr:MtF K r g)(ho:QE X o (tF K p ds ds1 d1 f))(ha:QA X (e::es) (tFA K p ds1 ds2 sh fa))(hsh:b9 0 sh=true)(η:attributeBase o name X.env (eval o X.env)=eval o X.env)(hfew:((backTo ω (starEach (e::es) X.env)).all (fun x=>!x.1)&&(backToKw ω (keywordEach [] X.env)).all (fun x=>x.1.isSome)
  &&decide ((e::es).length+([]:List Keyword).length+(if([]:List Keyword).isEmpty then 0 else 1)<30))=true)(θ:(μ.endLine==ω.line)=true)(hs:starEach (e::es) X.env=(false,eval e X.env)::starEach es X.env)(ι:(backTo ω (starEach es X.env)).any (·.1)=false):QE X (.Call (.Attribute o name μ) (e::es) [] ω) (tF K p ds ds2 3 (eM g f fa)):=⟨Gw hK slot hty hm hr ho.h ha.h hsh η hfew θ hs ι⟩
end
section
variable{k:Expr}{Q:VK}{pos2 py:Pos}
def uV(hK:X.K=K)(hc:X.calm=true)(hg:Gl X "len")(hm:X.mg "len"=none)(hg2:Gl X "set")(hm2:X.mg "set"=none)(hb:bootBuiltins "len"=some (.builtin "len"))(hb2:bootBuiltins "set"=some (.type "set"))(he:QE X e (tF K p ds ds1 0 f))(hs:av e=true):QE X (.Call (.Name "len" px) [.Call (.Name "set" py) [e] [] pos2] [] pos) (tF K p ds ds1 3 (e1 nO f)):=⟨xG hK hc hg hm hg2 hm2 hb hb2 he.h hs⟩
end
section
variable{Q:VK} 
def zI(hK:X.K=K)(hN:X.N[i]?=some x)(hv:Vis X.env.scope x)(h1:ds1[i]?=some 1)(he:QE X e (tF K false ds ds1 0 f))(hd:(x==("__debug__":Str))=false)(hcd:(x==("__classdict__":Str))=false)(η:attributeBase (.Name x px) "extend" X.env (eval (.Name x px) X.env)=eval (.Name x px) X.env)(hfew:((backTo ω (starEach [e] X.env)).all (fun x=>!x.1)&&(backToKw ω (keywordEach [] X.env)).all (fun x=>x.1.isSome)&&decide (([e]:List Expr).length+([]:List Keyword).length+(if([]:List Keyword).isEmpty then 0 else 1)<30))=true)(θ:(μ.endLine==ω.line)=true)(hs:starEach [e] X.env=[(false,eval e X.env)])(ι:(backTo ω (starEach [] X.env)).any (·.1)=false):QE X (.Call (.Attribute (.Name x px) "extend" μ) [e] [] ω) (tF K false ds ds1 3 (nS i f)):=⟨GB hK hN hv h1 he.h hd hcd η hfew θ hs ι⟩
def Gx(he:QE X e (tF K p ds ds1 d f)):QE X e (tF K p ds ds1 3 (eSc f)):=⟨Me he.h⟩
end
section
variable{rest:List Stmt}{m m1:MS}{g:MG}  
def uR(hN:X.N.Nodup)(hi':X.N[i]?=some x)(hx:X.env.scope.names.lookup x=some .local)(B:BlkOkC X scope ns js)(hc:X.calm=true)(hi:QI X tg iter (tFI K true ds0 ds0 fi))(hg:∀C cl s₀ H₀ fp,QG (au X scope ns C cl s₀ H₀ fp) tg (tFG K lk dsi dsi g))(ht:∀C cl s₀ H₀ fp,QTs (au X scope ns C cl s₀ H₀ fp) ifs (tFT K true dsi dsi c1))(he:∀C cl s₀ H₀ fp,QE (au X scope ns C cl s₀ H₀ fp) elt (tF K true dsi dsi 3 f))(hle:leD ds0 ds=true)(hds:ds.set i 3=ds')(hcap:eh ds0 js dsi=true)(hlk:lk=fT js 0)(hl:i<ds.length)(hk:i∉J.lk)(hsw:swapsWith (.ListComp elt [⟨tg,iter,ifs,0⟩] scope pos) (some (.Name x pos')) ζ.line X.env=pure true)(hs:∀x,foldedSetIterable iter X.env x=pure x):QS X (.Assign [.Name x pos'] (.ListComp elt [⟨tg,iter,ifs,0⟩] scope pos) ζ) (tFS K J ds ds' (ao i (eLC true fi g c1 f js))):=⟨xB hN hi' hx B hc hi.h (fun C cl s₀ H₀ fp=>(hg C cl s₀ H₀ fp).h) (fun C cl s₀ H₀ fp=>(ht C cl s₀ H₀ fp).h) (fun C cl s₀ H₀ fp=>(he C cl s₀ H₀ fp).h) hle hds hcap hlk hl hk hsw hs⟩
end
section
variable{ws:List V}{a b:Addr}
def zF(hK:X.K=K)(hg:Gl X "zip")(hm:X.mg "zip"=none)(ha:QA X [l,m] (tFA K p ds ds1 sh fa))(hs:av l=true)(hs2:av m=true):QI X (.Tuple elts k tp) (.Call (.Name "zip" px) [l,m] [] pos) (tFI K p ds ds1 (mM fa)):=⟨Gp hK hg hm ha.h hs hs2⟩
end
def Fun.okQ{mg:Str->Option Value}{base:Heap}{qual:Str}{f:Addr}{fd:FuncData}{N:List Str}{b:MS}
  (F:Fun K x qual st f fd) (S:FnScope N ps (ak st)) (hl:dps.length=ps.length) (hn:N.length-dps.length=n) (hJ:J=⟨ro dps,dps++List.replicate n 0,dr,[]⟩) (hd:ds0=dps++List.replicate n 0)
  (hb:∀(cdv:Value) (A:Around) (outer:List Env) (s:Shared) (H:Hp) (E:XK),Room k (A.deeper (envOfC qual (ak st) s.heap.objs.size f cdv)) ->
   QSs (iw CX0 P w K mg base N qual (ak st) f cdv A outer s H E).nox (bW st) (tFS K J ds0 ds0 b)):FnOk P w K mg base CX0 (k+1) f fd ps (spF K dps dr (fnF n dps b)):=by
 subst hJ hd;exact F.ok S (fun vs H Q E h=>vW hl h) fun cdv A outer s H vs Q E hr h=>⟨_,(hb cdv A outer s H E hr).h,Gn hn h⟩
def J2(F:List D->Option (D×En)):Prop:=∀ns:List Int,ns.length<=63->∃ψ,F [.list (ns.map .int)]=some (.bool true,ψ)
def pJ(K:zbS):Sp:=fun vs H Q _=>∃(a:Addr) (ns:List Int),vs=[.ref a]/\SqL K H a (ns.map V.int)/\(∀b,H b=none\/∃o xs,H b=some (.frz o (.lst xs)))/\ns.length<=63/\∀H':Hp,Q (.bl true) H'
theorem oo{K:zbS}{O:AS}{H:Hp}:∀ns:List Int,Ows K O H (ns.map .int) 0 (ns.map V.int) NoA
 |[]=>rfl
 |n::r=>⟨.int n,r.map V.int,NoA,NoA,rfl,fun _ z=>z,fun _ z=>z,fun _ z=>z.elim,rfl,oo r⟩
def J1{F:List D->Option (D×En)}(h:J2 F){Q:VK}{E:XK}(q:pJ K vs H Q E):spF K [0] dr F vs H Q E:=by
 obtain⟨a,ns,rfl,hs,_,hl,q⟩:=q;obtain⟨ψ,e⟩:=h ns hl;have fz:FzL K (fun _=>False) H a (ns.map V.int):=by
  rcases hs with hs|hs
  ·exact .inl ⟨hs,fun z=>z⟩
  ·exact .inr fun H'=>.inr hs
 have eO:Own (fun _=>NoA) NoA=(fun _=>False):=gY fun b=>⟨fun z=>z.elim (fun⟨_,z⟩=>z) fun z=>z,fun z=>z.elim⟩;refine⟨NoA,[.list (ns.map .int)],fun _=>NoA,.bool true,ψ,⟨fun i t hi=>?_,fun _ _ _ z=>z.elim,fun _ _ z=>z.elim,fun b z=>?_,rfl,rfl⟩,e,fun v H' R' Fr _ o=>?_⟩
 ·cases i with
  |zero=>
   have:t=.list (ns.map .int):=by
    have h2:some (some (PyData.list (ns.map .int)))=some (some t):=hi;injection h2 with h3
    injection h3 with h4
    exact h4.symm
   subst this;refine⟨.ref a,0,rfl,rfl,?_⟩;rw[eO];exact⟨a,ns.map V.int,rfl,.inl ⟨rfl,fz,oo ns⟩⟩
  |succ i=>simp at hi
 ·rw[eO]at z;exact z.elim
 ·rw[show v=.bl true from o];exact q H'
section
variable{c:MT}{b:MS}{t:D}
theorem kQ:∀{n m:Nat} {en:En} {fl:Fl},whN c b n en=some fl->n<=m->whN c b m en=some fl
 |0,_,_,_,h,_=>by cases h
 |n+1,0,_,_,_,h=>by omega
 |n+1,m+1,en,fl,h,hm=>by
  unfold whN at h ⊢;obtain⟨r,h1,h⟩:=zaa.mp h;rw[h1];show(if r.1=true then _ else _)=_;by_cases hr:r.1=true
  ·rw[if_pos hr]at h ⊢;obtain⟨f1,h2,h⟩:=zaa.mp h;rw[h2];cases f1 with
   |nx e=>exact kQ (n:=n) (m:=m) h (by omega)
   |ct e=>exact kQ (n:=n) (m:=m) h (by omega)
   |rt t e=>exact h
  ·rw[if_neg hr]at h ⊢;exact h
def jG(h:whN c b n en=some fl):c9 c b en=some fl:=by
 have q:∃n fl,whN c b n en=some fl:=⟨n,fl,h⟩;unfold c9;rw[dif_pos q];have h2:=q.choose_spec.choose_spec;have h3:=kQ h (Nat.le_max_left n q.choose);have h4:=kQ h2 (Nat.le_max_right n q.choose);rw[h3]at h4;exact h4.symm
def vt(h:c en=some (false,en1)):c9 c b en=some (.nx en1):=by
 refine jG (n:=1) ?_;unfold whN;rw[h];rfl
def vv(h:c en=some (true,en1))(h1:b en1=some (.nx en2))(h2:c9 c b en2=some fl):c9 c b en=some fl:=by
 obtain⟨n,h3⟩:=j4 h2;refine jG (n:=n+1) ?_;unfold whN;rw[h];show(b en1).bind _=_;rw[h1];exact h3
theorem iS{c:MT}{f:ME}{p:D->Bool}{F:D->D}{rest:En}:∀(ts acc:List D) (o:Option D),(∀t∈ts,c (some t::rest)=some (p t,some t::rest))->(∀t∈ts,p t=true->f (some t::rest)=some (F t,some t::rest))->acc.length+ts.length<=sizeLine ->
  ∃o',lcF (gN 0) c f ts acc (o::rest)=some (acc++(ts.filter p).map F,o'::rest)
 |[],acc,o,_,_,_=>⟨o,by simp[lcF]⟩
 |t::ts,acc,o,hc,hf,hl=>by
  have hl':acc.length+(ts.length+1)<=sizeLine:=hl;cases hp:p t with
  |true=>
   obtain⟨o',h⟩:=iS (c:=c) (f:=f) (p:=p) (F:=F) ts (acc++[F t]) (some t) (fun x hx=>hc x (zaj _ hx)) (fun x hx=>hf x (zaj _ hx)) (by rw[zae];show acc.length+1+_<=_;omega);refine⟨o',?_⟩;unfold lcF;show((c (some t::rest)).bind _)=_;rw[hc t zaq,hp];show((f (some t::rest)).bind _)=_;rw[hf t zaq hp];show(if acc.length<sizeLine then _ else _)=_;rw[if_pos (by omega)]
   dsimp only
   rw[h,List.filter_cons_of_pos hp];simp
  |false=>
   obtain⟨o',h⟩:=iS (c:=c) (f:=f) (p:=p) (F:=F) ts acc (some t) (fun x hx=>hc x (zaj _ hx)) (fun x hx=>hf x (zaj _ hx)) (by omega);refine⟨o',?_⟩;unfold lcF;show((c (some t::rest)).bind _)=_;rw[hc t zaq,hp];show lcF (gN 0) c f ts acc (some t::rest)=_;rw[h,List.filter_cons_of_neg (by rw[hp];decide)]
def FC{F:D->D}{rest:En}(ts acc:List D)(o:Option D)(hf:∀t∈ts,f (some t::rest)=some (F t,some t::rest))(hl:acc.length+ts.length<=sizeLine):
  ∃o',lcF (gN 0) cY f ts acc (o::rest)=some (acc++ts.map F,o'::rest):=by
 obtain⟨o',h⟩:=iS (c:=cY) (f:=f) (p:=fun _=>true) (F:=F) ts acc o (fun _ _=>rfl) (fun t ht _=>hf t ht) hl;rw[List.filter_eq_self.mpr (fun _ _=>rfl)]at h;exact⟨o',h⟩
end
section
variable{c:MT}{m1 b:MS}{t t1 t2 u:D}{x y:Bool}{F:List D->Option (D×En)}{as:List (D ⊕ Nat)}{ψ:En} 
def aV(h1:m1 en=some (.nx en1))(h2:m2 en1=some fl):al m1 m2 en=some fl:=by unfold al;rw[h1];exact h2
def kF(h1:m1 en=some (.rt t en1)):al m1 m2 en=some (.rt t en1):=by unfold al;rw[h1];rfl
def gq{b:Bool}(h1:c en=some (b,en1))(hb:b=true)(h2:m1 en1=some fl):sIf c m1 m2 en=some fl:=by unfold sIf;rw[h1,hb];exact h2
def mT{b:Bool}(h1:c en=some (b,en1))(hb:b=false)(h2:m2 en1=some fl):sIf c m1 m2 en=some fl:=by unfold sIf;rw[h1,hb];exact h2
def kE(h:f en=some (t,en1))(he:en1.set i (some t)=en2):ao i f en=some (.nx en2):=by unfold ao;rw[h,<-he];rfl
def qp(h:f en=some (t,en1)):aB f en=some (.rt t en1):=by unfold aB;rw[h];rfl
def bg(h1:f1 en=some (t1,en1))(h2:f2 en1=some (t2,en2))(h:g t1 t2=some u):e2 g f1 f2 en=some (u,en2):=by
 unfold e2;rw[h1];show(f2 en1).bind _=_;rw[h2];show(g t1 t2).map _=_;rw[h];rfl
def zT{b:Bool}(h1:c1 en=some (b,en1))(hb:b=true):bOr c1 c2 en=some (true,en1):=by unfold bOr;rw[h1,hb];rfl
def zU{b:Bool}{r:Bool×En}(h1:c1 en=some (b,en1))(hb:b=false)(h2:c2 en1=some r):bOr c1 c2 en=some r:=by unfold bOr;rw[h1,hb];exact h2
def e7{b:Bool}(h:f en=some (.bool b,en1)):tV f en=some (b,en1):=by unfold tV;rw[h];rfl
def wx(h1:fa en=some (as,en1))(h2:eo as en1=some ts)(h:F ts=some (t,ψ))(hw:wb as ψ en1=en2):aq F fa en=some (t,en2):=by
 subst hw;unfold aq;rw[h1];show(eo as en1).bind _=_;rw[h2];show(F ts).map _=_;rw[h];rfl
def mS{g:List D->Option D}(h1:fa en=some (as,en1))(h2:vals as=some ts)(h:g ts=some t):eN g fa en=some (t,en1):=by
 unfold eN;rw[h1];show(vals as).bind _=_;rw[h2];show(g ts).map _=_;rw[h];rfl
def gi:100<=sizeLine:=by rw[sizeLine_eq];decide
def ic(h:b (ts.map some++List.replicate n none)=some (.rt t en)):fnF n dps b ts=some (t,msk dps en):=by
 unfold fnF;rw[h];rfl
end
namespace Pen2
def eS:MS:=(aB (nU [((eC (.str "script")),(ae 0)),((eC (.str "at")),(ae 1)),((eC (.str "left")),(eC (.int 0)))]))
def F_law_pen:List D->Option (D×En):=fnF 0 [0,0] eS
def hV:MS:=(al (ao 2 (e2 bB (e2 bS (e2 ar (e2 ar (e2 bB (ae 0) (eC (.int 2147483629))) (e2 bS (eC (.int 40503)) (ae 1))) (eC (.int 24691))) (eC (.int 48271))) (eC (.int 2147483647))))
 (al (ao 3 (e2 bB (e2 ar (e2 ar (e2 bS (ae 2) (ae 2)) (e2 bS (eC (.int 69621)) (ae 2))) (ae 1)) (eC (.int 2147483629))))
 (aB (e2 eB (e2 bB (e2 ar (e2 ar (e2 bS (ae 3) (ae 3)) (e2 bS (eC (.int 16807)) (ae 3))) (e2 bS (eC (.int 31)) (ae 1))) (eC (.int 1073741789))) (eC (.int 64))))))
def dw:List D->Option (D×En):=fnF 2 [0,0] hV
def l7:MS:=(al (ao 2 (b7 0 (eC (.str "at"))))
 (al (ao 3 (b7 0 (eC (.str "script"))))
 (al (sIf (tV (e2 eqD (b7 0 (eC (.str "left"))) (eC (.int 0)))) (al (eA 0 (eC (.str "at")) (e2 ar (ae 2) (eC (.int 1))))
 (al (ao 4 (eC (.int 0)))
 (al (sIf (tV (e2 gtI (eN aQ (ac (ae 3) af)) (eC (.int 0)))) (ao 4 (e2 ixA (ae 3) (e2 bB (ae 2) (eN aQ (ac (ae 3) af))))) bc)
 (al (sIf (bOr (tV (e2 geI (ae 2) (eN aQ (ac (ae 3) af)))) (tV (e2 ltI (eN lK (ac (ae 4) af)) (e2 qY (eC (.int 10)) (eC (.int 18)))))) (aB (e2 bB (aq dw (ac (ae 4) (ac (ae 2) af))) (ae 1))) bc)
 (eA 0 (eC (.str "left")) (eN lK (ac (ae 4) af))))))) bc)
 (al (ao 5 (e2 bB (b7 0 (eC (.str "left"))) (ae 1)))
 (al (eA 0 (eC (.str "left")) (e2 eB (b7 0 (eC (.str "left"))) (ae 1)))
 (aB (ae 5)))))))
def aO:List D->Option (D×En):=fnF 4 [1,0] l7
def penD(ns:List Int)(k l:Int):D:=.dict [(.str "script",.list (ns.map .int)),(.str "at",.int k),(.str "left",.int l)]
def ul{c k:Int}(h0:0<=k)(h1:k<=1000000000):∃r,dw [.int c,.int k]=some (.int r,[none,none])/\0<=r:=by
 have a0:0<=c % 2147483629:=by omega
 have a1:c % 2147483629<2147483629:=by omega
 generalize g1:(c % 2147483629+40503*k+24691)*48271 % 2147483647=x;have x0:0<=x:=by omega
 have x1:x<2147483647:=by omega
 generalize g2:(x*x+69621*x+k) % 2147483629=y;have y0:0<=y:=by omega
 have y1:y<2147483629:=by omega
 refine⟨(y*y+16807*y+31*k) % 1073741789 / 64,?_,by omega⟩;have c1:CMul 40503 k:=.inl (by decide);have c2:CMul (c % 2147483629+40503*k+24691) 48271:=.inr (by decide);have c3:CMul x x:=.inl (by constructor<;>omega);have c4:CMul 69621 x:=.inl (by decide);have c5:CMul y y:=.inl (by constructor<;>omega);have c6:CMul 16807 y:=.inl (by decide);have c7:CMul 31 k:=.inl (by decide);have c8:∀z,jx z 64:=fun z=>by unfold jx;decide
 simp[dw,fnF,hV,al,ao,aB,e2,ae,eC,bB,bS,ar,eB,jc,c1,c2,c3,c4,c5,c6,c7,c8,g1,g2,msk]
def take_ok{ns:List Int}{k l m:Int}(h0:0<=k)(h1:k<=1000000000)(h2:0<=l)(h3:0<m)(h4:m<1073741824):
  ∃r k' l',aO [penD ns k l,.int m]=some (.int r,[some (penD ns k' l'),none])/\0<=r/\r<m/\k<=k'/\k'<=k+1/\0<=l':=by
 have cd:∀z,jx z m:=fun z=>⟨h3,h4⟩;have cp:ko 10 18:=by unfold ko;decide
 have md:∀z,bB (.int z) (.int m)=some (.int (z % m)):=fun z=>if_pos h3;have dv:∀z,eB (.int z) (.int m)=some (.int (z / m)):=fun z=>if_pos (cd z);have last:∀(k' b:Int) (x y z:Option D),(al (ao 5 (e2 bB (b7 0 (eC (.str "left"))) (ae 1)))
   (al (eA 0 (eC (.str "left")) (e2 eB (b7 0 (eC (.str "left"))) (ae 1)))
   (aB (ae 5)))) [some (penD ns k' b),some (.int m),x,y,z,none]=some (.rt (.int (b % m)) [some (penD ns k' (b / m)),some (.int m),x,y,z,some (.int (b % m))]):=by
  intro k' b x y z;refine aV (en1:=[some (penD ns k' b),some (.int m),x,y,z,some (.int (b % m))]) (kE (bg (t1:=.int b) (t2:=.int m) rfl rfl (md b)) rfl) (aV (en1:=[some (penD ns k' (b / m)),some (.int m),x,y,z,some (.int (b % m))]) ?_ rfl);unfold eA;rw[bg (t1:=.int b) (t2:=.int m) (f1:=b7 0 (eC (.str "left"))) (f2:=ae 1) (g:=eB) (en:=[some (penD ns k' b),some (.int m),x,y,z,some (.int (b % m))]) (en1:=[some (penD ns k' b),some (.int m),x,y,z,some (.int (b % m))]) (en2:=[some (penD ns k' b),some (.int m),x,y,z,some (.int (b % m))]) rfl rfl (dv b)];rfl
 by_cases hl:l=0
 ·subst hl;by_cases hn:ns.length=0
  ·have hns:ns=[]:=za6.mp hn;subst hns;obtain⟨r,e,hr⟩:=ul (c:=0) h0 h1;refine⟨r % m,k+1,0,?_,za9 _ (by omega),zba _ h3,by omega,by omega,by omega⟩;refine ic (en:=[some (penD [] (k+1) 0),some (.int m),some (.int k),some (.list []),some (.int 0),none]) (aV rfl (aV rfl (kF (gq (b:=true) rfl rfl (aV (en1:=[some (penD [] (k+1) 0),some (.int m),some (.int k),some (.list []),none,none]) rfl (aV rfl (aV rfl (kF (gq (b:=true) (zT (b:=decide ((0:Int)<=k)) rfl (zaB h0)) rfl (qp (bg (en1:=[some (penD [] (k+1) 0),some (.int m),some (.int k),some (.list []),some (.int 0),none]) (t2:=.int m) (wx (as:=[.inl (.int 0),.inl (.int k)]) (en1:=[some (penD [] (k+1) 0),some (.int m),some (.int k),some (.list []),some (.int 0),none]) rfl rfl e rfl) rfl (md r))))))))))))
  ·obtain⟨j,ej⟩:∃j:Nat,ixN ns.length (k % ns.length)=some j/\j<ns.length:=by
    have q1:0<=k % (ns.length:Int):=za9 _ (by omega);have q2:k % (ns.length:Int)<ns.length:=zba _ (by omega);exact⟨(k % (ns.length:Int)).toNat,by unfold ixN;rw[if_pos q1,if_pos q2],by omega⟩
   obtain⟨c,ec⟩:∃c,ns[j]?=some c:=⟨_,zak ej.2⟩;have at1:ixA (.list (ns.map .int)) (.int (k % ns.length))=some (.int c):=by
    show atI _ _=_;unfold atI;rw[zad,ej.1];show(ns.map PyData.int)[j]?=_;rw[zao,ec];rfl
   have hn1:(0:Int)<ns.length:=by omega
   have len:aQ [.list (ns.map .int)]=some (.int ns.length):=by show some (PyData.int (ns.map PyData.int).length)=_;rw[zad]
   have ml:bB (.int k) (.int ns.length)=some (.int (k % ns.length)):=if_pos hn1;obtain⟨r,e,hr⟩:=ul (c:=c) h0 h1;obtain⟨b,ab,b0⟩:∃b,lK [.int c]=some (.int b)/\0<=b:=⟨if c<0 then -c else c,rfl,by split<;>omega⟩;have pw:qY (.int 10) (.int 18)=some (.int 1000000000000000000):=by
    show(if ko 10 18 then some (PyData.int (10 ^ Int.toNat 18))else none)=_;rw[if_pos cp];rfl
   have ln:∀(x y:Option D) (p:D),(eN aQ (ac (ae 3) af)) [some p,some (.int m),x,some (.list (ns.map .int)),y,none]=some (.int ns.length,[some p,some (.int m),x,some (.list (ns.map .int)),y,none]):=fun x y p=>mS rfl rfl len;have pre:∀(x y:Option D) {m2:MS} {fl:Fl},m2 [some (penD ns (k+1) 0),some (.int m),some (.int k),some (.list (ns.map .int)),some (.int c),none]=some fl->(al (eA 0 (eC (.str "at")) (e2 ar (ae 2) (eC (.int 1))))
 (al (ao 4 (eC (.int 0)))
 (al (sIf (tV (e2 gtI (eN aQ (ac (ae 3) af)) (eC (.int 0)))) (ao 4 (e2 ixA (ae 3) (e2 bB (ae 2) (eN aQ (ac (ae 3) af))))) bc) m2))) [some (penD ns k 0),some (.int m),some (.int k),some (.list (ns.map .int)),none,none]=some fl:=by
    intro x y m2 fl h;refine aV (en1:=[some (penD ns (k+1) 0),some (.int m),some (.int k),some (.list (ns.map .int)),none,none]) rfl (aV (en1:=[some (penD ns (k+1) 0),some (.int m),some (.int k),some (.list (ns.map .int)),some (.int 0),none]) rfl (aV ?_ h));exact gq (e7 (bg (ln _ _ _) rfl rfl)) (zaB hn1) (kE (bg rfl (bg rfl (ln _ _ _) ml) at1) rfl)
   by_cases hq:(ns.length:Int)<=k\/b<1000000000000000000
   ·refine⟨r % m,k+1,0,?_,za9 _ (by omega),zba _ h3,by omega,by omega,by omega⟩;refine ic (en:=[some (penD ns (k+1) 0),some (.int m),some (.int k),some (.list (ns.map .int)),some (.int c),none]) (aV rfl (aV rfl (kF (gq (b:=true) rfl rfl (pre none none (kF (gq (en1:=[some (penD ns (k+1) 0),some (.int m),some (.int k),some (.list (ns.map .int)),some (.int c),none]) (b:=true) ?_ rfl (qp (bg (en1:=[some (penD ns (k+1) 0),some (.int m),some (.int k),some (.list (ns.map .int)),some (.int c),none]) (t2:=.int m) (wx (as:=[.inl (.int c),.inl (.int k)]) (en1:=[some (penD ns (k+1) 0),some (.int m),some (.int k),some (.list (ns.map .int)),some (.int c),none]) rfl rfl e rfl) rfl (md r))))))))));by_cases hq2:(ns.length:Int)<=k
    ·exact zT (e7 (bg rfl (ln _ _ _) rfl)) (zaB hq2)
    ·have hq3:=hq.resolve_left hq2;exact zU (e7 (bg rfl (ln _ _ _) rfl)) (zaA hq2) (e7 (bg (mS rfl rfl ab) (bg rfl rfl pw) (congrArg (fun q=>some (PyData.bool q)) (zaB hq3))))
   ·have hq1:¬(ns.length:Int)<=k:=fun z=>hq (.inl z);have hq2:¬b<1000000000000000000:=fun z=>hq (.inr z);refine⟨b % m,k+1,b / m,?_,za9 _ (by omega),zba _ h3,by omega,by omega,Int.ediv_nonneg b0 (by omega)⟩;refine ic (aV rfl (aV rfl (aV (en1:=[some (penD ns (k+1) b),some (.int m),some (.int k),some (.list (ns.map .int)),some (.int c),none]) (gq (b:=true) rfl rfl (pre none none (aV (mT (zU (e7 (bg rfl (ln _ _ _) rfl)) (zaA hq1) (e7 (bg (mS rfl rfl ab) (bg rfl rfl pw) rfl))) (zaA hq2) rfl) ?_))) (last _ _ _ _ _))));unfold eA;rw[mS (fa:=ac (ae 4) af) (en:=[some (penD ns (k+1) 0),some (.int m),some (.int k),some (.list (ns.map .int)),some (.int c),none]) (en1:=[some (penD ns (k+1) 0),some (.int m),some (.int k),some (.list (ns.map .int)),some (.int c),none]) rfl rfl ab];rfl
 ·refine⟨l % m,k,l / m,?_,za9 _ (by omega),zba _ h3,Int.le_refl _,by omega,Int.ediv_nonneg h2 (by omega)⟩;exact ic (aV rfl (aV rfl (aV (mT (b:=l==0) rfl (zbK.mpr hl) rfl) (last k l _ _ _))))
end Pen2
end L2
namespace L2
variable{P:Program}{w:World}{K:zbS}{mg:Str->Option Value}{base h h' h1 h2:Heap}{k dr j n t i:Nat}{x q nm y qual fx:Str}{ps N sn:List Str}{dps ds ds1 ds' lk ds0 kp:List Nat}{f a b C C':Addr}{st b₀:Stmt}{cd v:Value}{X:Cx}{p hdct ab:Bool}{e c:Expr}{es:List Expr}{fa:MA}{sh:Sh}{pos np ω yp hp p2 xp fp cp ap:Pos}{J:Jd}{F:List D->Option (D×En)}{fd:FuncData}{l fs:List Addr}{o:Obj}{H H1 H' H'':Hp}{ρ:List (Addr×Obj)}{σ σ':St}{s s':Shared}{E:Value->Shared->Prop}{bmB bm sub:List Value}{newId B initId newId':String}{M:Model}{A:Around}{col:Option Bool}{dd:Option Addr}{k0 k3 k5:Option Value}{g:Array GenState}{d:Drawn}{os:OsState}{Q:Bool->Shared->Prop}{tb:TS}{Dn:Ends}{R R':Nat->AS}{Ox:AS}{en en':En}{cm:MT}{sts body els:List Stmt}{cl:Str->Addr}{Rz:List D->Option Str}
open PySem PySem.Spec PyProof.Rows
def Lk(a b:Int):eqD (.int a) (.int b)=some (.bool (a==b)):=by
 show grd _ _=_;unfold grd;rw[if_pos ⟨rfl,rfl,zbh _⟩];simp only[peq]
structure Df(K:zbS)(x:Str)(st:Stmt)(f:Addr):Prop where
 a:PySem.W.nsIn K mainGlobals x=some (some (.ref f))
 l:∃oc od kV dc pm an cd ct sl,K.lookup f=some ⟨oc,od,.func (PySem.W.fnOf x x (dB st) (bW st) (ak st) .none kV dc pm an cd ct),sl⟩/\PySem.W.codeIn K cd x=true
 k:PySem.W.keepIn K (.ref f)=true
section
variable{sp:Sp}
def Df.mk'{oc:Value}{od an:Option Addr}{sl:Array (Option Value)}{kV dc pm ct:Value}(a:PySem.W.nsIn K mainGlobals x=some (some (.ref f)))(l:K.lookup f=some ⟨oc,od,.func (PySem.W.fnOf x x (dB st) (bW st) (ak st) .none kV dc pm an cd ct),sl⟩)(c:PySem.W.codeIn K cd x=true)(k:PySem.W.keepIn K (.ref f)=true):Df K x st f:=
 ⟨a,⟨oc,od,kV,dc,pm,an,cd,ct,sl,l,c⟩,k⟩
def Df.kn(d:Df K x st f)(X:K.In h)(G:h.Ns mainGlobals mg)(b:∀(kV doc pm:Value) (an:Option Addr) (cdv ct:Value) (us:List Value),us.length=ps.length->bindArgs (PySem.W.fnOf x x (dB st) (bW st) (ak st) .none kV doc pm an cdv ct) ⟨us,[]⟩=pure (ps.zip us))
  (ok:∀fd,Fun K x x st f fd->FnOk P w K mg base CX0 k f fd ps sp):Kn P w K mg base k x ps sp:=by
 obtain⟨_,_,_,_,_,_,_,_,_,l,c⟩:=d.l;have F:=qc (st:=st) l c d.k;exact⟨_,_,ok _ F,za8 X G d.a,d.k,F.binds b⟩
def Df.none(d:Df K x st f)(X:K.In h)(G:h.Ns mainGlobals mg)(b:∀(kV doc pm:Value) (an:Option Addr) (cdv ct:Value) (us:List Value),us.length=ps.length->bindArgs (PySem.W.fnOf x x (dB st) (bW st) (ak st) .none kV doc pm an cdv ct) ⟨us,[]⟩=pure (ps.zip us)):
  Kn P w K mg base k x ps (spF K dps dr fun _=>Option.none):=by
 obtain⟨_,_,_,_,_,_,_,_,_,l,c⟩:=d.l;have F:=qc (st:=st) l c d.k;exact FD (za8 X G d.a) d.k (F.binds b)
end
section
variable{ds2:List Nat}{d d1 d2:Nat}{a b:Expr}{f f1 f2:ME}{px:Pos}{g:List D->Option D}
abbrev vck(X:Cx)(x:Str)(i:Nat)(n:NameKind):Prop:=(X.N[i]?,X.env.scope.names.lookup x,x==("__debug__":Str),x==("__classdict__":Str))=(some x,some n,false,false)
def fv(i:Nat)(h:vck X x i .local:=by rfl)(h0:ds[i]?=some 0:=by rfl):QE X (.Name x pos) (tF K p ds ds 0 (ae i)):=by
 simp only[vck,za1]at h;exact fP h.1 (.inl h.2.1) h0 h.2.2.1 h.2.2.2
def fvc(i:Nat)(h:vck X x i .cell:=by rfl)(h0:ds[i]?=some 0:=by rfl):QE X (.Name x pos) (tF K p ds ds 0 (ae i)):=by
 simp only[vck,za1]at h;exact fP h.1 (.inr (.inl h.2.1)) h0 h.2.2.1 h.2.2.2
def fsl(i:Nat)(hr:QA X es (tFA K p ds ds2 sh fa))(h:vck X x i .local:=by rfl):QA X (.Name x pos::es) (tFA K p ds ds2 (.inr i::sh) (aL i fa)):=by
 simp only[vck,za1]at h;exact qo h.1 (.inl h.2.1) hr h.2.2.1 h.2.2.2
def ir(i:Nat)(hr:QA X es (tFA K p ds ds2 sh fa))(h:vck X x i .cell:=by rfl):QA X (.Name x pos::es) (tFA K p ds ds2 (.inr i::sh) (aL i fa)):=by
 simp only[vck,za1]at h;exact qo h.1 (.inr (.inl h.2.1)) hr h.2.2.1 h.2.2.2
def fs0(h:QE X e (tF K p ds ds' d f)):QE X e (tF K p ds ds' 0 f):=cJ h (.zero _)
def frt(he:QE X e (tF K false ds ds1 J.dr f))(hd:leD J.dsr ds1=true:=by rfl):QSs X [.Return (some e) pos] (tFS K J ds ds' (aB f)):=aE (zx he hd)
abbrev cck(X:Cx)(x:Str)(e:Expr)(es:List Expr):Prop:=(X.env.kindOf x,x==("__debug__":Str),av e,es.all av)=(some .globalImplicit,false,true,true)
def fnn(G:Kn X.prog X.w X.K X.mg X.base k x ps (spF K dps dr F))(hr:Room k X.A)(ha:QA X (e::es) (tFA K p ds ds1 sh fa))(h:cck X x e es:=by rfl)(h2:(gl sh,cO ds1 sh dps)=(true,true):=by rfl):QE X (.Call (.Name x px) (e::es) [] pos) (tF K p ds ds1 dr (aq F fa)):=by
 simp only[cck,za1]at h h2;exact GA G hr h.1 ha h2.1 h2.2 h.2.1 h.2.2.1 h.2.2.2
def fns(G:Kn X.prog X.w X.K X.mg X.base k x ps (spF K dps dr F))(hr:Room k X.A)(ha:QA X (e::es) (tFA K false ds ds1 sh fa))(h:cck X x e es:=by rfl)(h2:cO ds1 sh dps=true:=by rfl):QE X (.Call (.Name x px) (e::es) [] pos) (tF K false ds ds1 dr (aq F fa)):=by
 simp only[cck,za1]at h;exact Bt G hr h.1 ha h2 h.2.1 h.2.2.1 h.2.2.2
def fcb{id:String}(hc:CallR X (.builtin id) (rFn K g d))(hm:X.mg x=none)(hv:bootBuiltins x=some (.builtin id))(ha:QA X (e::es) (tFA K p ds ds1 sh fa))(h:cck X x e es:=by rfl)(h2:(b9 0 sh,x==("__name__":Str))=(true,false):=by rfl):QE X (.Call (.Name x px) (e::es) [] pos) (tF K p ds ds1 d (eN g fa)):=by
 simp only[cck,za1]at h h2;exact qm hc h.1 hm hv ha h2.1 (by simpa using h2.2) h.2.1 h.2.2.1 h.2.2.2
def fct{id:String}(hc:CallR X (.type id) (rFn K g d))(hm:X.mg x=none)(hv:bootBuiltins x=some (.type id))(ha:QA X (e::es) (tFA K p ds ds1 sh fa))(h:cck X x e es:=by rfl)(h2:(b9 0 sh,x==("__name__":Str))=(true,false):=by rfl):QE X (.Call (.Name x px) (e::es) [] pos) (tF K p ds ds1 d (eN g fa)):=by
 simp only[cck,za1]at h h2;exact vH hc h.1 hm hv ha h2.1 (by simpa using h2.2) h.2.1 h.2.2.1 h.2.2.2
def fln(hK:X.K=K)(hm:X.mg "len"=none)(ha:QA X (e::es) (tFA K p ds ds1 sh fa))(h:cck X "len" e es:=by rfl)(h2:b9 0 sh=true:=by rfl):QE X (.Call (.Name "len" px) (e::es) [] pos) (tF K p ds ds1 3 (eN aQ fa)):=by
 simp only[cck,za1]at h;exact qm (KH hK) h.1 hm (by decide +kernel) ha h2 (by decide) h.2.1 h.2.2.1 h.2.2.2
def fte(hK:X.K=K)(hu:X.A.units+64<cLine)(ha:QE X a (tF K p ds ds1 d1 f1))(hb:QE X b (tF K p ds1 ds2 d2 f2)):QT X (.Compare a [.Eq] [b] pos) (tFT K p ds ds2 (tV (e2 eqD f1 f2))):=bj (iT hK hu) ha hb (bp _)
def ftn(hK:X.K=K)(hu:X.A.units+64<cLine)(ha:QE X a (tF K p ds ds1 d1 f1))(hb:QE X b (tF K p ds1 ds2 d2 f2)):QT X (.Compare a [.NotEq] [b] pos) (tFT K p ds ds2 (tV (e2 neD f1 f2))):=bj (Mb hK hu) ha hb (bp _)
def fxi{n:Int}{q:Pos}(hK:X.K=K)(ha:QE X a (tF K p ds ds1 d1 f1)):QE X (.Subscript a (.Constant (.int n) j q) pos) (tF K p ds ds1 0 (e2 ixA f1 (eC (.int n)))):=eY (qh hK) ha aj fun _ _=>rfl
def aP(i:Nat)(ds':List Nat){pos':Pos}(hN:X.N.Nodup)(he:QE X e (tF K false ds ds1 d f))(h:(X.N[i]?,X.env.scope.names.lookup x,X.fn x)=(some x,some .local,true):=by rfl)(h2:(ds1.set i d,decide (i<ds1.length),J.lk.contains i)=(ds',true,false):=by rfl)(hs:swapsWith e (some (.Name x pos')) pos.line X.env=pure false:=by rfl):QS X (.Assign [.Name x pos'] e pos) (tFS K J ds ds' (ao i f)):=by
 simp only[za1,decide_eq_true_eq]at h h2;exact da hN h.1 (.inl h.2.1) he h2.1 h2.2.1 (by simpa using h2.2.2) hs (.inl h.2.2)
def fsc{P:List Str}{sc:Scope}(a:sc.kind=.function:=by rfl)(b:sc.isCoroutine=false:=by rfl)(c:sc.isGenerator=false:=by rfl)(d:N.Nodup:=by decide +kernel)(e:N.take P.length=P:=by rfl)(f:∀x∈P,sc.names.lookup x=some .local\/sc.names.lookup x=some .cell:=by decide +kernel)(g:∀y∈sc.names,y.2≠.free:=by decide +kernel):FnScope N P sc:=⟨a,b,c,d,e,f,g⟩
def Fun.okR{fa:Addr}{b:MS}(F:Fun K x q st fa fd)(S:FnScope N ps (ak st))(J:Jd)(ds0:List Nat)
  (hb:N.Nodup->∀(cdv:Value) (A:Around) (outer:List Env) (s:Shared) (H:Hp) (E:XK),Room k (A.deeper (envOfC q (ak st) s.heap.objs.size fa cdv))->QSs (iw CX0 P w K mg base N q (ak st) fa cdv A outer s H E).nox (bW st) (tFS K J ds0 ds0 b)) (hl:dps.length=ps.length:=by rfl) (hn:N.length-dps.length=n:=by rfl) (hJ:J=⟨ro dps,dps++List.replicate n 0,dr,[]⟩:=by rfl) (hd:ds0=dps++List.replicate n 0:=by rfl):FnOk P w K mg base CX0 (k+1) fa fd ps (spF K dps dr (fnF n dps b)):=F.okQ S hl hn hJ hd (hb S.nd)
def ndk(l:List Str)(h:l.Nodup:=by decide +kernel):l.Nodup:=h
def fgn(i:Nat)(ds':List Nat)(hN:X.N.Nodup)(hi:X.N[i]?=some x:=by rfl)(hx:Loc X.env.scope x:=by exact .inl rfl)(hds:ds.set i 0=ds':=by rfl)(hl:i<ds.length:=by decide)(hk:i∉lk:=by decide)(hf:X.fn x=true\/X.env.scope.names.lookup x=some .local:=by first|exact .inl rfl|exact .inr rfl):QG X (.Name x pos) (tFG K lk ds ds' (gN i)):=xF hN hi hx hds hl hk hf
def fac(ha:QE X e (tF K p ds ds1 d f))(hr:QA X es (tFA K p ds1 ds2 sh fa))(hs:av e=true:=by rfl):QA X (e::es) (tFA K p ds ds2 (.inl d::sh) (ac f fa)):=xJ ha hr hs
end
structure Fly(h:Heap)(a T C:Addr):Prop where
 x:∃oe vs a0,h.get? a=some oe/\oe.cls=.ref C/\oe.data=.fields vs/\vs[0]?=some a0/\vs[1]?=some (.ref T)
 t:∃oT ts,h.get? T=some oT/\oT.data=.fields ts/\ts[3]?=some .none
 ne:T≠a
def CXr(P:Program)(w:World):CXT:=fun outer H s E e s'=>∃(a T C:Addr) (H':Hp),e=.ref a/\E (.ref C) none H'/\s'.os=s.os/\AllBare s'.gens/\Un (frs outer) [] H H' s.heap s'.heap/\HOk P w H' s'.heap /\
 H' a=none/\H' T=none/\s.heap.get? a=none/\s.heap.get? T=none/\Fly s'.heap a T C
def cG(h:Heap)(l:List Addr):Heap:=ka h fun b=>if b∈l then some (.own 0)else none
def cB(e:h.get? b=some o)(n:b∉l):(cG h l).get? b=some o:=uI e (if_neg n)
def cT(e:(cG h l).get? b=some o):h.get? b=some o/\b∉l:=by
 obtain⟨e1,e2⟩:=wc e;refine⟨e1,fun z=>?_⟩;rw[if_pos z]at e2;cases e2
def bi(hb:b∈l):(cG h l).get? b=none:=by
 cases q:(cG h l).get? b with
 |none=>rfl
 |some o=>exact absurd hb (cT q).2
theorem gf{h base base':Heap}:∀{l:List Env},h.FunFrames base l->(∀b∈frs l,base'.get? b=none)->h.FunFrames base' l
 |[],_,_=>trivial
 |env::r,hl,hb=>by
  obtain⟨hk,⟨L,o,hf,hn,ho,hd⟩,hr⟩:=hl;refine⟨hk,⟨L,o,hf,hb L ?_,ho,hd⟩,gf hr fun b z=>hb b ?_⟩
  ·unfold frs;rw[List.filterMap_cons,hf];exact zaq
  ·unfold frs;rw[List.filterMap_cons,hf];exact zaj _ z
theorem bF{h base:Heap}:∀{l:List Env},h.FunFrames base l->∀b∈frs l,∃o,h.get? b=some o/\∀vs,o.data≠.fields vs
 |[],_,b,hb=>by cases hb
 |env::r,hl,b,hb=>by
  obtain⟨hk,⟨L,o,hf,hn,ho,hd⟩,hr⟩:=hl;unfold frs at hb;rw[List.filterMap_cons,hf]at hb;rcases zay.mp hb with rfl|hb
  ·exact⟨o,ho,hd⟩
  ·exact bF hr b hb
theorem r9{h h' base:Heap}(k:∀b o,h.get? b=some o->(∀vs,o.data≠.fields vs)->∃sl,h'.get? b=some { o with slots:=sl }):∀{l:List Env},h.FunFrames base l->h'.FunFrames base l
 |[],_=>trivial
 |env::r,hl=>by
  obtain⟨hk,⟨L,o,hf,hn,ho,hd⟩,hr⟩:=hl;obtain⟨sl,e⟩:=k L o ho hd;exact⟨hk,⟨L,_,hf,hn,e,hd⟩,r9 k hr⟩
def HOk.tracked(x:HOk P w H h)(k:∀b u,H b≠none->h.get? b=some u->h'.get? b=some u):HOk P w H h':=fun a o e=>
 (x a o e).stay (fun b u hb q=>k b u (by
  rcases hb with rfl|hb
  ·rw[e];simp
  ·rw[hb];simp) q) (fun _ q=>q) fun _ _ q=>q
def Un.behind(u:Un fs [] H H1 h h1)(k:∀b o',h.get? b=some o'->∀o,h1.get? b=some o->b∉fs->h2.get? b=some o)
  (sl:∀b o',h.get? b=some o'->∀o,h1.get? b=some o->b∈fs->∃sl,h2.get? b=some { o with slots:=sl }):Un fs [] H H1 h h2 where
 keep:=fun b o q n hb hx=>k b o q o (u.keep b o q n hb hx) hb
 slot:=fun b o q n hb hx=>by
  obtain⟨s1,e1⟩:=u.slot b o q n hb hx;obtain⟨s2,e2⟩:=sl b o q _ e1 hb;exact⟨s2,e2⟩
 free:=u.free
 there:=fun b o q hx=>by
  obtain⟨o',e⟩:=u.there b o q hx;by_cases hb:b∈fs
  ·obtain⟨s2,e2⟩:=sl b o q _ e hb;exact⟨_,e2⟩
  ·exact⟨_,k b o q _ e hb⟩
 tups:=u.tups
 frzs:=u.frzs
 tbls:=u.tbls
theorem ObjOk.get{P:Program}{w:World}{H:Hp}{h:Heap}{a:Addr}{o:HO}(x:ObjOk P w H h a o):∃ob,h.get? a=some ob:=by
 cases o with
 |lst xs=>obtain⟨_,_,_,_,e⟩:=x;exact⟨_,e⟩
 |tup xs=>obtain⟨_,_,_,o,e,_⟩:=x;exact⟨_,e⟩
 |dK kvs=>obtain⟨_,_,_,_,o,_,_,e,_⟩:=x;exact⟨_,e⟩
 |dT kvs=>obtain⟨_,_,_,_,o,_,_,e,_⟩:=x;exact⟨_,e⟩
 |set S n=>obtain⟨o,_,_,_,e,_⟩:=x;exact⟨_,e⟩
 |ins C dx fs=>obtain⟨_,_,_,e,_⟩:=x;exact⟨_,e⟩
 |own y=>exact x
 |xd fs=>obtain⟨_,⟨_,_,_,e,_⟩,_⟩:=x;exact⟨_,e⟩
 |rng lo hi=>obtain⟨_,_,_,e⟩:=x;exact⟨_,e⟩
 |frz ob u=>obtain⟨e,_⟩:=x;exact⟨_,e⟩
 |tbl ps=>exact⟨_,(show h.get? a=some _ from x)⟩
 |met f y=>exact⟨_,(show h.get? a=some _ from x)⟩
 |ext φ=>obtain⟨_,e,_⟩:=x;exact e
theorem HOk.none{P:Program}{w:World}{H:Hp}{h:Heap}{a:Addr}(x:HOk P w H h)(e:h.get? a=none):H a=none:=by
 cases q:H a with
 |none=>rfl
 |some o=>
  obtain⟨ob,z⟩:=(x a o q).get;rw[e]at z;cases z
section
variable{E:XK}
def Inv.frn(I:Inv X ρ σ H s)(hx:X.ex=[]):∀b∈frs X.stack,H b=none:=fun b hb=>by
 rcases zay.mp (I.stkSub b hb)with rfl|hb
 ·exact I.free
 ·obtain⟨o,ho,_⟩:=bF I.ok.funs b hb;exact I.base.free b o ho (I.ok.frf b hb) (by rw[hx];simp)
structure Rsx(X:Cx)(E:XK):Prop where
 xe:X.xe=fun e s'=>wpAny (model X.prog X.w) X.A (leaving X.env e) (fun _ s''=>CXr X.prog X.w X.outer X.H₀ X.s₀ E e s'') (fun e' s''=>CXr X.prog X.w X.outer X.H₀ X.s₀ E e' s'') s'
 stk:X.stack=X.env::X.outer
 fr:X.env.frame=some X.env.locals
 ex:X.ex=[]
 calm:X.calm=true
def tY(R:Rsx X E)(I:Inv X ρ σ H s){e:Addr}{args:List Value}(m:s.heap.MadeExcOf h' e (.ref C) args)(hE:E (.ref C) none H):
  X.xe (.ref e) { heap:=h',gens:=s.gens,drawn:=s.drawn,toks:=s.toks,os:=s.os }:=by
 rw[R.xe];obtain⟨t,he,ht1,ht2⟩:=m.there;have fs:=I.stack;have fh:h'.FunFrames X.base X.stack:=r9 (fun b o q _=>⟨o.slots,m.keeps b o q⟩) fs;have fB:h'.FunFrames (cG h' (frs X.stack++[e])) X.stack:=gf fh fun b hb=>bi (zbe _ hb);have un:=I.base;rw[R.ex]at un;refine wpAny_leaving_firstW (base:=cG h' (frs X.stack++[e])) (env:=X.env) (outer:=X.outer) (by rw[<-R.stk];exact I.ok.frames) (by rw[<-R.stk];exact fB) R.fr he (fun b o q=>(cT q).1) (bi (by simp)) rfl rfl rfl fun h2 ⟨stays,f2,⟨oe,vs,T,oT,ts,q1,⟨q2,q3⟩,q4,q5,q6,q7,q8,q9,q10⟩,nonf⟩=>?_;have tn:h'.get? T=none:=by
  cases q:h'.get? T with
  |none=>rfl
  |some o=>
   have hT:T∈frs X.stack++[e]:=Decidable.byContradiction fun hn=>by
    rw[cB q hn]at q6;cases q6
   rcases zax.mp hT with hT|hT
   ·obtain⟨o2,g1,g2⟩:=bF fh T hT;obtain⟨sl,g3⟩:=nonf T o2 g1 g2;rw[q8]at g3;cases g3;exact absurd q9 (g2 ts)
   ·exact absurd (by simpa using hT) q7
 have sn:s.heap.get? T=none:=by
  cases q:s.heap.get? T with
  |none=>rfl
  |some o=>rw[m.keeps T o q]at tn;cases tn
 have old:∀b o,s.heap.get? b=some o->b∉frs X.stack->h2.get? b=some o:=fun b o q hb=>stays b o (cB (m.keeps b o q) fun z=>by
  rcases zax.mp z with z|z
  ·exact hb z
  ·have z':b=e:=by simpa using z
   subst z';rw[m.new]at q;cases q)
 have nos:∀b,s.heap.get? b=none->X.s₀.heap.get? b=none:=fun b q=>by
  cases q2:X.s₀.heap.get? b with
  |none=>rfl
  |some o=>
   obtain⟨o',z⟩:=un.there b o q2 (by simp);rw[q]at z;cases z
 refine⟨e,T,C,H,rfl,hE,I.os,I.bare,un.behind (fun b o' q0 o q hb=>old b o q fun z=>?_) (fun b o' q0 o q hb=>?_),I.hok.tracked fun b u hb q=>old b u q fun z=>hb (I.frn R.ex b z),I.hok.none m.new,I.hok.none sn,nos e m.new,nos T sn,⟨⟨oe,vs,_,q1,q2,q4,q3,q5⟩,⟨oT,ts,q8,q9,q10⟩,q7⟩⟩
 ·rcases zay.mp (I.stkSub b z)with rfl|z
  ·exact absurd (zal q0) (Nat.not_lt_of_le I.ok.above)
  ·exact hb z
 ·obtain⟨o2,g1,g2⟩:=bF fs b (by rw[R.stk];unfold frs;rw[List.filterMap_cons,R.fr];exact zaj _ hb);rw[q]at g1;cases g1;exact nonf b o (m.keeps b o q) g2
end
def jf(hx:PySem.W.excIn K C bmB newId=true):
  ∃nm q N bs bm hdct sn sub ab col dd k0 k1 k2 k3 k5,K.lookup C=some (excClassObj nm q C N bs bm hdct sn sub ab col dd k0 k1 k2 k3 k5 newId)/\PySem.W.tailIn K bmB bm=true/\PySem.W.nsOkIn K N=true/\PySem.W.nsIn K N (Str.ofString "__init__")=some none:=by
 unfold PySem.W.excIn at hx;split at hx
 ·next dict cd sl hl=>
  split at hx
  ·next C' bm h0 h1 h2 h3 n h5 e1 e2=>
   simp only[zbk,beq_iff_eq,Bool.not_eq_true']at hx;obtain⟨⟨⟨⟨⟨a1,a2⟩,a3⟩,a4⟩,a5⟩,a6⟩:=hx;subst a1 a2;obtain⟨nm,bases,mro,ns,qn,hd,sn,sub,ab,col,hdel⟩:=cd;simp only at e1 a3 a5 a6;subst e1 a3;have e3:sl=#[h0,h1,h2,h3,some (Value.builtin n),h5]:=Array.toList_inj.mp e2;subst e3;exact⟨nm,qn,ns,bases,bm,hd,sn,sub,ab,col,dict,h0,h1,h2,h3,h5,hl,a4,a5,a6⟩
  ·cases hx
 ·cases hx
def oO(t:OwnTail h bmB bm)(c:bmB.contains v=true):bm.contains v=true:=by
 induction t with
 |base=>exact c
 |own _ _ _ _ ih=>
  rw[List.contains_cons,ih];simp
section
variable{E:XK}{a:Expr}{t:TA}
def IU(E:XK)(C:Addr)(t:TA):TS:=fun _ σ H=>t σ H fun vs H1=>vs.length<=sizeLine/\E (.ref C) none H1
def AC(R:Rsx X E)(hb:ExcBaseFacts B newId initId bmB)(hx:PySem.W.excIn X.K C bmB newId=true)(hg:Gl X x)(hm:X.mg x=some (.ref C))(ha:PA X [a] t)
  (hdb:(x==("__debug__":Str))=false:=by decide) (hst:starEach [a] X.env=(false,eval a X.env)::starEach [] X.env:=by rfl):
  PS X (.Raise (some (.Call (.Name x np) [a] [] ω)) none pos) (IU E C t):=by
 intro ρ s σ H D I h;obtain⟨nm,q,N,bs,bm,hdct,sn,sub,ab,col,dd,k0,k1,k2,k3,k5,l1,l2,l3,l4⟩:=jf hx;have kb:=I.mod.kin;have tb:=PySem.W.tail_of_in kb l2;refine wpAny_Raise_call_subT (nm:=nm) (q:=q) (C:=C) (N:=N) (bs:=bs) (bm:=bm) (hdct:=hdct) (sn:=sn) (sub:=sub) (ab:=ab) (col:=col) (dd:=dd) (k0:=k0) (k1:=k1) (k2:=k2) (k3:=k3) (k5:=k5) (mN:=X.base.nsMap N) hb (oO tb hb.hasBase) (I.ok.hd R.calm) ?_ (PySem.W.nsMap_none_of_in kb l3 l4) (i6 I hg hm ⟨rfl,?_⟩ hdb)
 ·rw[hst];rfl
 ·refine evalArgs_kw2 (kws:=[]) rfl (thn (ha ω ρ s σ H _ I h) fun us s2 ⟨vs,H2,I2,rv,hl,hE⟩=>?_) hst;refine zaT ⟨rfl,by show us.length<=sizeLine;rw[<-rv.length];exact hl,I2.kIn C _ l1,(Heap.Ns.of_isNs (PySem.W.isNs_of_in kb l3)).keeps I2.bk,PySem.W.tail_of_in I2.kIn l2,fun h' e m=>tY R I2 m hE⟩
end
def vU{N:Addr}{bs:List Value}{k1 k2:Option Value}
        
  (h1:h.get? C=some (excClassObj nm q C N bs bm hdct sn sub ab col dd k0 k1 k2 k3 k5 newId)) (h6:(Value.ref C::bm).contains v=true)
  (k:Q true { heap:=h,gens:=g,drawn:=d,toks:=t,os:=os }):wpAny M A (isSubtype (.ref C) v) Q E { heap:=h,gens:=g,drawn:=d,toks:=t,os:=os }:=by
 unfold isSubtype
 wp_walk using wpAny_load h1
 show Q ((Value.ref C::bm).contains v) _;rw[h6];exact k
def kC{nm' q':Str}{N N':Addr}{bs bs' bm':List Value}{hdct':Bool}{sn':List Str}{sub':List Value}{ab':Bool}{col':Option Bool}{dd':Option Addr}{k1 k2 j0 j1 j2 j3 j5:Option Value}
       {e:Addr} {oe:Obj} 
  (h1:h.get? C=some (excClassObj nm q C N bs bm hdct sn sub ab col dd k0 k1 k2 k3 k5 newId)) (h2:h.get? C'=some (excClassObj nm' q' C' N' bs' bm' hdct' sn' sub' ab' col' dd' j0 j1 j2 j3 j5 newId'))
  (h3:h.get? e=some oe) (h4:oe.cls=.ref C) (h5:bm'.contains (Value.type "BaseException")=true) (h6:(Value.ref C::bm).contains (Value.ref C')=true)
  (k:Q true { heap:=h,gens:=g,drawn:=d,toks:=t,os:=os }):wpAny M A (excMatches (.ref e) (.ref C')) Q E { heap:=h,gens:=g,drawn:=d,toks:=t,os:=os }:=by
 unfold excMatches;have f1:isSubtype (Value.type "type") (Value.type "tuple")=pure false:=by unfold isSubtype;kernel_rfl
 wp_walk using wpAny_load h1,wpAny_load h2,wpAny_load h3
 refine vU h2 (by rw[List.contains_cons,h5];simp) ?_
 wp_walk using wpAny_load h1,wpAny_load h2,wpAny_load h3
 rw[h4];refine vU h1 h6 ?_
 wp_walk
 exact k
section
variable{s1:Shared}{E:XK}{D:Ends}
structure Dfx(X:Cx):Prop where
 stk:X.stack=X.env::X.outer
 fr:X.env.frame=some X.env.locals
 ex:X.ex=[]
theorem dW{h h' base:Heap}:∀{l:List Env},(∀b∈frs l,∀o,h.get? b=some o->∃sl,h'.get? b=some { o with slots:=sl })->h.FunFrames base l->h'.FunFrames base l
 |[],_,_=>trivial
 |env::r,k,hl=>by
  obtain⟨hk,⟨L,o,hf,hn,ho,hd⟩,hr⟩:=hl;obtain⟨sl,e⟩:=k L (by unfold frs;rw[List.filterMap_cons,hf];exact zaq) o ho;exact⟨hk,⟨L,_,hf,hn,e,hd⟩,dW (fun b hb=>k b (by unfold frs;rw[List.filterMap_cons,hf];exact zaj _ hb)) hr⟩
def gm(I:Inv X ρ σ H1 s1)(ex:X.ex=[])(os:s'.os=s1.os)(bare:AllBare s'.gens)(un:Un (frs X.stack) [] H1 H' s1.heap s'.heap)(hok:HOk X.prog X.w H' s'.heap){T:Addr}(ha:H' a=none)(hT:H' T=none)(na:s1.heap.get? a=none)(nT:s1.heap.get? T=none)
  {tk:Nat} (hk:∀b o,s'.heap.get? b=some o->b∉frs X.stack->b≠a->b≠T->h.get? b=some o) (hf:∀b∈frs X.stack,∀o,s'.heap.get? b=some o->∃sl,h.get? b=some { o with slots:=sl }):
  Inv X ρ σ H' { heap:=h,gens:=s'.gens,drawn:=s'.drawn,toks:=tk,os:=s'.os }:=by
 have fn:∀b∈frs X.stack,H' b=none:=fun b hb=>by
  obtain⟨o,ho,_⟩:=bF I.stack b hb;exact un.free b o ho (I.frn ex b hb) (by simp)
 have ne:∀b o,s1.heap.get? b=some o->b≠a/\b≠T:=fun b o q=>⟨fun z=>(by rw[z,na]at q;cases q),fun z=>(by rw[z,nT]at q;cases q)⟩;have u2:Un (frs X.stack) [] H1 H' s1.heap h:=un.behind (fun b o' q0 o q hb=>hk b o q hb (ne b o' q0).1 (ne b o' q0).2) fun b o' q0 o q hb=>hf b hb o q;have ho:HOk X.prog X.w H' h:=hok.tracked fun b u hb q=>hk b u q (fun z=>hb (fn b z)) (fun z=>hb (by rw[z];exact ha)) fun z=>hb (by rw[z];exact hT);rw[os];exact I.call (ch:=[]) u2 ho bare fun _ z=>by cases z
abbrev Cx.suite(X:Cx)(v:Value)(xe:Value->Shared->Prop):Cx:={ X with A:=X.A.mark (some v),calm:=false,xe:=xe }
def Inv.suite(I:Inv X ρ σ H s)(v:Value)(xe:Value->Shared->Prop):Inv (X.suite v xe) ρ σ H s:=
 ⟨⟨I.ok.mod,I.ok.kind,I.ok.glob,I.ok.blt,I.ok.above,I.ok.inj,I.ok.has,I.ok.cab,fun z=>(nomatch z),I.ok.frames,I.ok.stk,I.ok.exf,I.ok.bs,I.ok.bsz,I.ok.noex,I.ok.exfs,I.ok.funs,I.ok.frf⟩,I.os,I.bare,I.base,I.loc,I.cell,I.free,I.freeC,I.pin,I.hok,I.len⟩
def Inv.unsuite{xe:Value->Shared->Prop}(hd:X.calm=true->X.A.handled=none)(I:Inv (X.suite v xe) ρ σ H s):Inv X ρ σ H s:=
 ⟨⟨I.ok.mod,I.ok.kind,I.ok.glob,I.ok.blt,I.ok.above,I.ok.inj,I.ok.has,I.ok.cab,hd,I.ok.frames,I.ok.stk,I.ok.exf,I.ok.bs,I.ok.bsz,I.ok.noex,I.ok.exfs,I.ok.funs,I.ok.frf⟩,I.os,I.bare,I.base,I.loc,I.cell,I.free,I.freeC,I.pin,I.hok,I.len⟩
end
def iM(K:zbS)(C C':Addr):Bool:=match K.lookup C with
 |some o=>match o.data with
  |.cls cd=>cd.mro.contains (.ref C')
  |_=>false
 |none=>false
section
variable{s1:Shared}{E:XK}{D:Ends}
theorem SP.unsuite{v:Value}{xe:Value->Shared->Prop}(hd:X.calm=true->X.A.handled=none){f:Flow}(h:SP (X.suite v xe) ρ D f s):SP X ρ D f s:=by
 cases f with
 |next=>obtain⟨σ',H',I,q⟩:=h;exact⟨σ',H',I.unsuite hd,q⟩
 |brk=>obtain⟨σ',H',I,q⟩:=h;exact⟨σ',H',I.unsuite hd,q⟩
 |cont=>obtain⟨σ',H',I,q⟩:=h;exact⟨σ',H',I.unsuite hd,q⟩
 |ret u=>obtain⟨v,σ',H',I,r,q⟩:=h;exact⟨v,σ',H',I.unsuite hd,r,q⟩
def BB{G:Hp->Prop}{suite:List Stmt}{ev:Value}(Df:Dfx X)(I:Inv X ρ σ H1 s1)
  (hc:CXr X.prog X.w X.stack H1 s1 (fun c _ H'=>c=.ref C/\G H') ev s') (hx:PySem.W.excIn X.K C bmB newId=true) (hx':PySem.W.excIn X.K C' bmB newId'=true) (η:bmB.contains (Value.type "BaseException")=true) (hs:iM X.K C C'=true)
  (hg:Gl X y) (hm:X.mg y=some (.ref C')) (hdb:(y==("__debug__":Str))=false) (hb:∀v xe,PSs (X.suite v xe) (b₀::suite) tb) (k:∀H',G H'->tb D σ H'):
  wpAny (model X.prog X.w) X.A (noteFrame ev X.env) (fun _ s2=>wpAny (model X.prog X.w) X.A (setFlight ev none) (fun _ s3=>wpAny (model X.prog X.w) X.A (handleBy ev X.env [.ExceptHandler (some (.Name y yp)) none (b₀::suite) hp]) (SP X ρ D) X.xe s3) X.xe s2) X.xe s':=by
 obtain⟨a,T,C0,H',rfl,⟨eC,hG⟩,os,bare,un,hok,ha,hT,na,nT,⟨oe,vs,a0,q1,q2,q3,q4,q5⟩,⟨oT,ts,q6,q7,q8⟩,hne⟩:=hc;have eC':C0=C:=by injection eC
 subst eC';have fh:s'.heap.FunFrames X.base X.stack:=dW (fun b hb o ho=>un.any ho (I.frn Df.ex b hb) (by simp)) I.stack;have fB:s'.heap.FunFrames (cG s'.heap (frs X.stack++[a,T])) X.stack:=gf fh fun b hb=>bi (zbe _ hb);have frames:X.A.frames=some (X.env::X.outer):=by rw[<-Df.stk];exact I.ok.frames
 refine wpAny_noteFrame_onW (base:=cG s'.heap (frs X.stack++[a,T])) (cls:=.ref C0) (a0:=a0) frames (by rw[<-Df.stk];exact fB) Df.fr ⟨oe,vs,T,oT,ts,q1,⟨q2,q4⟩,q3,q5,bi (by simp),hne,q6,q7,q8⟩ (fun b o q=>(cT q).1) (bi (by simp)) fun h2 ⟨st2,f2,tr2,nf2⟩=>?_;refine wpAny_setFlight_noneW (base:=cG s'.heap (frs X.stack++[a,T])) (l:=X.env::X.outer) st2 f2 tr2 fun h3 st3 f3 ⟨oe3,vs3,T3,oT3,ts3,g1,⟨g2,g3⟩,g4,g5,g6,g7,g8,g9,g10⟩ nf3=>?_;have nf4:∀b∈frs X.stack,∀o,s'.heap.get? b=some o->∃sl,h3.get? b=some { o with slots:=sl }/\∀vs,o.data≠.fields vs:=fun b hb o q=>by
  obtain⟨o2,z1,z2⟩:=bF fh b hb;rw[q]at z1;cases z1;obtain⟨sl,z3⟩:=nf2 b o q z2;exact⟨sl,nf3 b _ z3 z2,z2⟩
 have old:∀b o,s'.heap.get? b=some o->b∉frs X.stack->b≠a->b≠T->h3.get? b=some o:=fun b o q z1 z2 z3=>st3 b o (cB q fun z=>by
  rcases zax.mp z with z|z
  ·exact z1 z
  ·have z':b=a\/b=T:=by simpa using z
   exact z'.elim z2 z3)
 have I3:Inv X ρ σ H' { heap:=h3,gens:=s'.gens,drawn:=s'.drawn,toks:=s'.toks,os:=s'.os }:=gm I Df.ex os bare un hok ha hT na nT old fun b hb o q=>let⟨sl,z,_⟩:=nf4 b hb o q;⟨sl,z⟩;obtain⟨nm,q,N,bs,bm,hdct,sn,sub,ab,col,dd,k0,k1,k2,k3,k5,l1,l2,_,_⟩:=jf hx;obtain⟨nm',q',N',bs',bm',hdct',sn',sub',ab',col',dd',j0,j1,j2,j3,j5,m1,m2,_,_⟩:=jf hx';have hsub:(Value.ref C0::bm).contains (Value.ref C')=true:=by
  unfold iM at hs;rw[l1]at hs;exact hs
 refine wpAny_handleBy_cons (codeAny_handlers_test (i6 (X:=X.suite (.ref a) fun _ _=>False) (I3.suite _ _) hg hm ?_ hdb)) (fun z=>nomatch z);refine kC (I3.kIn C0 _ l1) (I3.kIn C' _ m1) g1 g2 (oO (PySem.W.tail_of_in I3.mod.kin m2) η) hsub ?_;have sz3:3<ts3.size:=by
  rw[Array.getElem?_eq_some_iff]at g10;exact g10.1
 refine codeAny_handlers_suite (wpAny_setFlight_none g1 g4 g5 g8 g9 sz3 ?_);have I4:Inv X ρ σ H' { heap:=h3.update T3 (Obj.mapFields fun x=>x.setIfInBounds 3 Value.none),gens:=s'.gens,drawn:=s'.drawn,toks:=s'.toks,os:=s'.os }:=gm I Df.ex os bare un hok ha hT na nT (fun b o q z1 z2 z3=>?_) fun b hb o q=>?_
 ·exact wpAny_mono (hb (.ref a) _ ρ _ σ H' D (I4.suite _ _) (k H' hG)) (fun f s4 z=>z.unsuite I.ok.hd) fun e s4 z=>z
 ·rw[Heap.get?_update_ne]
  ·exact old b o q z1 z2 z3
  ·rintro rfl
   have:b∈frs X.stack++[a,T]:=Decidable.byContradiction fun hn=>by
    rw[cB q hn]at g6;cases g6
   rcases zax.mp this with z|z
   ·exact z1 z
   ·have z':b=a\/b=T:=by simpa using z
    exact z'.elim z2 z3
 ·obtain⟨sl,z,z2⟩:=nf4 b hb o q;refine⟨sl,?_⟩;rw[Heap.get?_update_ne]
  ·exact z
  ·rintro rfl;rw[g8]at z;cases z;exact z2 ts3 g9
end
abbrev MX:=En->Option Unit
structure Reach(H:Hp)(R:Nat->AS)(H':Hp):Prop where
 keep:∀a o,H a=some o->(∀i,¬R i a)->H' a=some o
 dom:∀a o,H a=some o->∃o',H' a=some o'
section
variable{F:AS}{m:MX}{Z:Hp->Prop}{f:MS}{E:XK}
def Reach.post(P:Post K p ds' Ox σ H en R en' H' R' F)(r:Reach H' R' H''):Reach H R H'':=
 ⟨fun a o q n=>r.keep a o (P.keep a o q n) fun i z=>(P.own a (.inr ⟨i,z⟩)).elim (fun⟨j,w⟩=>n j w) fun w=>(by rw[q]at w;cases w),fun a o q=>let⟨o',q'⟩:=P.dom a o q;r.dom a o' q'⟩
def Reach.postS(P:PostS K lk ds' Ox σ H R σ' en' H' R' F)(r:Reach H' R' H''):Reach H R H'':=
 ⟨fun a o q n=>r.keep a o (P.keep a o q n) fun i z=>(P.own a (.inr ⟨i,z⟩)).elim (fun⟨j,w⟩=>n j w) fun w=>(by rw[q]at w;cases w),fun a o q=>let⟨o',q'⟩:=P.dom a o q;r.dom a o' q'⟩
def PS.nox{t:TS}(h:PS X.nox st t):PS X st t:=fun ρ s σ H D I hw=>
 wpAny_mono (h ρ s σ H D (I.wish _) hw) (fun _ _ q=>q.unwish) fun _ _ z=>False.elim z
end
def KnX(P:Program)(w:World)(K:zbS)(mg:Str->Option Value)(base:Heap)(k:Nat)(x:Str)(ps:List Str)(sp:Sp):Prop:=
 ∃f fd,FnOk P w K mg base (CXr P w) k f fd ps sp/\mg x=some (.ref f)/\PySem.W.keepIn K (.ref f)=true/\Binds K fd ps []
def KnX.mono{j k:Nat}{x:Str}{ps:List Str}{sp:Sp}(G:KnX P w K mg base j x ps sp)(h:j<=k):KnX P w K mg base k x ps sp:=
 let⟨f,fd,a,b,c,d⟩:=G
 ⟨f,fd,a.mono h,b,c,d⟩
def yx{scope:Scope}{outer:List Env}{E:XK}:Rsx (iw (CXr P w) P w K mg base N qual scope f cd A outer s H E) E:=⟨rfl,rfl,rfl,rfl,rfl⟩
section
variable{Rz:List D->Option Unit}{np2 xp2 ap2:Pos} 
def Mz{Q:VK}{E:XK}{sp:Sp}{t:TA}(GX:KnX X.prog X.w X.K X.mg X.base k fx ps sp)(hr:Room k X.A)(hg:Gl X fx)(ha:PA X (e::es) t)(hdb:(fx==("__debug__":Str))=false)(he:av e=true)(hpl:es.all av=true)
  (I:Inv X ρ σ H s) (h:t σ H fun vs H1=>sp (vs++[]) H1 Q E) (hx:∀H1 s1 ev s',Inv X ρ σ H1 s1->CXr X.prog X.w X.stack H1 s1 E ev s'->X.xe ev s'):
  wpAny (model X.prog X.w) X.A (eval (.Call (.Name fx fp) (e::es) [] cp) X.env) (EP X ρ σ Q) X.xe s:=by
 obtain⟨f,fd,Ff,hm,hk,hb⟩:=GX;refine wpAny_Call_Name_kw (i6 I hg hm ?_ hdb);refine PySem.W.callWith_K (h₀:=X.base) I.ok.mod.kin hk (thn (ha cp ρ s σ H _ I h) fun us s1 ⟨vs,H1,I1,r,q⟩=>⟨I1.kIn,?_⟩) (aD he) (cf hpl);have r2:Vals (vs++[]) (us++[]):=r.append .nil;have hl:(us++[]).length=ps.length:=by rw[<-r2.length];exact Ff.len _ _ _ _ q
 refine wpAny_call (codeAny_mono (Ff.run X.A X.stack s1 H1 ⟨us,[]⟩ (us++[]) (vs++[]) Q E hr I1.env0 (hb s1 us I1.kIn hl) r2 q) fun r s' hq=>?_);cases r with
 |error ev=>exact hx H1 s1 ev s' I1 hq
 |ok fl=>
  cases fl with
  |ret u=>exact I1.after hq
  |next=>exact False.elim hq
  |brk=>exact False.elim hq
  |cont=>exact False.elim hq
def mq(X:Cx)(ρ:List (Addr×Obj))(Dn:Ends)(hs:List ExceptHandler):Value->Shared->Prop:=fun ev s'=>
 wpAny (model X.prog X.w) X.A (noteFrame ev X.env) (fun _ s2=>wpAny (model X.prog X.w) X.A (setFlight ev none) (fun _ s3=>wpAny (model X.prog X.w) X.A (handleBy ev X.env hs) (SP X ρ Dn) X.xe s3) X.xe s2) X.xe s'
end
def vE:List Value:=[.type "ValueError",.type "Exception",.type "BaseException",.type "object"]
def qR:vE.contains (Value.type "BaseException")=true:=by decide
section
variable{sp:Sp}
def Df.knX(d:Df K x st f)(X:K.In h)(G:h.Ns mainGlobals mg)(b:∀(kV doc pm:Value) (an:Option Addr) (cdv ct:Value) (us:List Value),us.length=ps.length->bindArgs (PySem.W.fnOf x x (dB st) (bW st) (ak st) .none kV doc pm an cdv ct) ⟨us,[]⟩=pure (ps.zip us))
  (ok:∀fd,Fun K x x st f fd->FnOk P w K mg base (CXr P w) k f fd ps sp):KnX P w K mg base k x ps sp:=by
 obtain⟨_,_,_,_,_,_,_,_,_,l,c⟩:=d.l;have F:=qc (st:=st) l c d.k;exact⟨_,_,ok _ F,za8 X G d.a,d.k,F.binds b⟩
end
def xC{es:Array DictEntry}(hi:i<es.size)(x:Str)(hx:(es[i]).key.isStr x=false):((es.eraseIdx i hi).find? fun e=>e.key.isStr x)=es.find? fun e=>e.key.isStr x:=by
 obtain⟨l⟩:=es;have key:∀(l:List DictEntry) (i:Nat) (h:i<l.length),(l[i]).key.isStr x=false->((l.eraseIdx i).find? fun e=>e.key.isStr x)=l.find? fun e=>e.key.isStr x:=by
  intro l
  induction l with
  |nil=>intro i h;simp at h
  |cons a l ih=>
   intro i h hx;cases i with
   |zero=>
    have hx':a.key.isStr x=false:=hx;rw[List.eraseIdx_zero,List.tail_cons,zbm,hx']
   |succ i=>
    rw[List.eraseIdx_cons_succ,zbm,zbm,ih i (by simpa using h) hx]
 have:=key l i (by simpa using hi) (by simpa using hx);simpa using this
def yP{m:Str->Option Value}{name:Str}(hn:s.heap.Ns a m)(hs:(m name).isSome=true)
  (hQ:∀h' m',h'.Ns a m'->(∀x,x≠name->m' x=m x)->Heap.SameBut a s.heap h'->Q true { s with heap:=h' }):wpAny M A (nsDel a name) Q E s:=by
 obtain⟨o,es,ep,ho,hd,hk,hm⟩:=id hn;have hany:es.any (·.refKey)=false:=by
  rw[Array.any_eq_false'];intro e he;obtain⟨n,t,h⟩:=hk e he;simp[DictEntry.refKey,h]
 have hf:(es.any fun e=>e.key.isStr name)=true:=by
  rw[<-hm name]at hs;simp only[nsFind,findBy,Option.isSome_map]at hs;rw[Array.find?_isSome]at hs;obtain⟨x,hx,hp⟩:=hs;obtain⟨i,hi,rfl⟩:=Array.mem_iff_getElem.mp hx;exact Array.any_eq_true.mpr ⟨i,hi,hp⟩
 have hhas:nsHas name o=pure true:=by
  rw[nsHas_eq];unfold nsHasByArray;rw[hd];show(if(es.any fun x=>x.key.isStr name)=true then _ else _)=_;rw[if_pos hf]
 unfold nsDel;refine zam (wpAny_loadPart ho ?_);rw[hhas];refine zam (zaT ?_);refine zam (wpAny_updatePart ho (zaT ?_));obtain⟨cl,d,dt,sl⟩:=o;subst hd;cases hi:es.findIdx? (·.key.isStr name)with
 |none=>
  exfalso;rw[Array.findIdx?_eq_none_iff]at hi;obtain⟨i,h,hp⟩:=Array.any_eq_true.mp hf
  have:=hi _ (Array.getElem_mem h);rw[hp]at this;cases this
 |some i=>
  obtain⟨hlt,hp,_⟩:=Array.findIdx?_eq_some_iff_getElem.mp hi;refine hQ _ (fun x=>findBy (fun k v=>v.isStr k) (es.eraseIdxIfInBounds i) x) ⟨_,es.eraseIdxIfInBounds i,ep+1,Heap.get?_update_self _ ho (by simp only[Obj.dropName_eq,Obj.dropNameByArray,hi]<;>rfl),(by simp only[Obj.dropName_eq,Obj.dropNameByArray,hi]<;>rfl),hk.erase i,fun _=>rfl⟩ (fun x hx=>?_) (Heap.SameBut.update ..);rw[<-hm x];show _=findBy (fun k v=>v.isStr k) es x;unfold findBy;have hne:(es[i]).key.isStr x=false:=by
   obtain⟨n,t,hkey⟩:=hk _ (Array.getElem_mem hlt);rw[hkey]at hp ⊢;have e1:n=name:=by simpa[Value.isStr]using hp
   have:n≠x:=fun z=>hx (by rw[<-z,e1]);simpa[Value.isStr]using this
  have e2:es.eraseIdxIfInBounds i=es.eraseIdx i hlt:=by
   unfold Array.eraseIdxIfInBounds;rw[dif_pos hlt]
  rw[e2,xC hlt x hne]
def FG{m':Str->Option Value}(I:Inv X ρ σ H s)(hs:Heap.SameBut X.env.locals s.heap h')(hn:h'.Ns X.env.locals m')(hl:σ'.length=X.N.length)
  (k:∀(j:Nat) (y:Str) (v:V),X.N[j]?=some y->σ'[j]?=some (some v)->Vis X.env.scope y->∃u,RelV v u/\Lp X.env h' m' y u):Inv X ρ σ' H { s with heap:=h',toks:=t }:=by
 obtain⟨m,hn0,hl0⟩:=id I.loc;obtain⟨oL,_,_,hoL,_⟩:=id hn0;have hok:HOk X.prog X.w H h':=fun b ob e=>by
  refine(I.hok b ob e).stay (fun c w' hc q=>(hs.2 c ?_).trans q) (fun _ q=>q) fun _ _ q=>q;rintro rfl;rcases hc with z|hc
  ·subst z;rw[I.free]at e;cases e
  ·rw[I.free]at hc;cases hc
 refine⟨I.ok,I.os,I.bare,⟨fun b o e n hb hx=>?_,fun b o e n hb hx=>?_,I.base.free,fun b o e hx=>?_,I.base.tups,I.base.frzs,I.base.tbls⟩,⟨_,hn,k⟩,fun y c e=>?_,I.free,I.freeC,fun p hp=>?_,hok,hl⟩
 ·exact(hs.2 b (zaw (zag (zal e) I.ok.above))).trans (I.base.keep b o e n hb hx)
 ·obtain⟨sl,e1⟩:=I.base.slot b o e n hb hx;exact⟨sl,(hs.2 b (zaw (zag (zal e) I.ok.above))).trans e1⟩
 ·obtain⟨o',e1⟩:=I.base.there b o e hx;exact⟨o',(hs.2 b (zaw (zag (zal e) I.ok.above))).trans e1⟩
 ·obtain⟨w',z⟩:=I.cell y c e;exact⟨w',z.sameBut hs (I.cne y c e)⟩
 ·obtain⟨e,n,ne,nf,d⟩:=I.pin p hp;exact⟨(hs.2 p.1 ne).trans e,n,ne,nf,d⟩
def yR{n:Str}{Q:Unit->Shared->Prop}(I:Inv X ρ σ H s)(hN:X.N.Nodup)(hi:X.N[i]?=some n)(hk:X.env.kindOf n=some .local)
  (h:∀s',Inv X ρ (σ.set i none) H s'->Q () s'):wpAny M A (do bindName X.env n .none;unbindBehindTheSuite X.env n pos) Q E s:=by
 obtain⟨m,hn,hl⟩:=id I.loc;have hp:(X.env.scope.kind==.class || (X.env.scope.kind==.module&&X.env.locals != X.env.globals))=false:=by rw[I.ok.kind];rfl
 refine zam (wpAny_bindName (wpAny_storeName_local hk hn (fun h₁ hn₁ hs₁=>?_) hp));unfold unbindBehindTheSuite;refine wpAny_onRaise ?_;unfold unbindName;refine zam (wpAny_point (zam ?_));unfold deleteName;simp only[hk,hp];rw[if_neg (by decide)];refine zam (yP hn₁ (by simp) fun h₂ m₂ hn₂ hm₂ hs₂=>?_);simp only[if_true,Bool.not_true,Bool.false_eq_true,if_false];refine zaT (wpAny_point (h _ ?_));refine FG I (hs₁.trans hs₂) hn₂ (by rw[zaV];exact I.len) fun j y v e1 e2 e3=>?_;have hiσ:i<σ.length:=by rw[I.len];exact(zah.mp hi).1
 by_cases hj:j=i
 ·subst hj;rw[zaP hiσ]at e2;cases e2
 ·rw[zaO (Ne.symm hj)]at e2;obtain⟨u',r',q⟩:=hl j y v e1 e2 e3;refine⟨u',r',?_⟩;rcases q with⟨kk,e⟩|⟨kk,c,e,z⟩
  ·refine .inl ⟨kk,?_⟩;have ne:y≠n:=fun e=>hj (pf hN e1 (e▸hi));rw[hm₂ y ne];simp[ne,e]
  ·exact .inr ⟨kk,c,e,(z.sameBut hs₁ (I.cne y c e)).sameBut hs₂ (I.cne y c e)⟩
section
variable{s1:Shared}{E:XK}
structure XOut(X:Cx)(E:XK):Prop where
 out:∀{ρ σ H1 s1 ev s'},Inv X ρ σ H1 s1->CXr X.prog X.w X.stack H1 s1 E ev s'->X.xe ev s'
def iX(X:Cx)(ρ:List (Addr×Obj))(σ:St)(E:XK):Prop:=∀H1 s1 ev s',Inv X ρ σ H1 s1->CXr X.prog X.w X.stack H1 s1 E ev s'->X.xe ev s'
def XOut.at(O:XOut X E):iX X ρ σ E:=fun _ _ _ _ I hc=>O.out I hc
def XOut.of(R:Rsx X E)(hfs:X.fs=frs X.outer):XOut X E:=⟨fun {ρ σ H1 s1 ev s'} I hc=>by
 obtain⟨a,T,C,H',rfl,hE,os,bare,un,hok,ha,hT,na,nT,⟨oe,vs,a0,q1,q2,q3,q4,q5⟩,⟨oT,ts,q6,q7,q8⟩,hne⟩:=hc;rw[R.xe];have fh:s'.heap.FunFrames X.base X.stack:=dW (fun b hb o ho=>un.any ho (I.frn R.ex b hb) (by simp)) I.stack;have fB:s'.heap.FunFrames (cG s'.heap (frs X.stack++[a,T])) X.stack:=gf fh fun b hb=>bi (zbe _ hb);have frames:X.A.frames=some (X.env::X.outer):=by rw[<-R.stk];exact I.ok.frames
 refine wpAny_leaving_nextW (base:=cG s'.heap (frs X.stack++[a,T])) (cls:=.ref C) (a0:=a0) frames (by rw[<-R.stk];exact fB) R.fr ⟨oe,vs,T,oT,ts,q1,⟨q2,q4⟩,q3,q5,bi (by simp),hne,q6,q7,q8⟩ (fun b o q=>(cT q).1) (bi (by simp)) fun h2 ⟨st2,f2,⟨oe3,vs3,T3,oT3,ts3,g1,⟨g2,g3⟩,g4,g5,g6,g7,g8,g9,g10⟩,nf2⟩=>?_;have old:∀b o,s'.heap.get? b=some o->b∉frs X.stack->b≠a->b≠T->h2.get? b=some o:=fun b o q z1 z2 z3=>st2 b o (cB q fun z=>by
  rcases zax.mp z with z|z
  ·exact z1 z
  ·have z':b=a\/b=T:=by simpa using z
   exact z'.elim z2 z3)
 have I2:Inv X ρ σ H' { heap:=h2,gens:=s'.gens,drawn:=s'.drawn,toks:=s'.toks,os:=s'.os }:=gm I R.ex os bare un hok ha hT na nT old fun b hb o q=>by
  obtain⟨o2,z1,z2⟩:=bF fh b hb;rw[q]at z1;cases z1;exact nf2 b o q z2
 have un2:=I2.base;rw[R.ex,hfs]at un2;have un1:=I.base;rw[R.ex]at un1;have back:∀b,s1.heap.get? b=none->X.s₀.heap.get? b=none:=fun b q=>by
  cases q2:X.s₀.heap.get? b with
  |none=>rfl
  |some o=>
   obtain⟨o',z⟩:=un1.there b o q2 (by simp);rw[q]at z;cases z
 have hT3:H' T3=none/\X.s₀.heap.get? T3=none:=by
  by_cases e:T3=T
  ·rw[e];exact⟨hT,back T nT⟩
  ·have n3:s'.heap.get? T3=none:=by
    cases q:s'.heap.get? T3 with
    |none=>rfl
    |some o=>
     have hm:T3∈frs X.stack++[a,T]:=Decidable.byContradiction fun hn=>by
      rw[cB q hn]at g6;cases g6
     rcases zax.mp hm with z|z
     ·obtain⟨o2,z1,z2⟩:=bF fh T3 z;rw[q]at z1;cases z1;obtain⟨sl,z3⟩:=nf2 T3 o q z2;rw[g8]at z3;cases z3;exact absurd g9 (z2 ts3)
     ·have z':T3=a\/T3=T:=by simpa using z
      exact absurd (z'.resolve_right e) g7
   refine⟨hok.none n3,back T3 ?_⟩;cases q:s1.heap.get? T3 with
   |none=>rfl
   |some o=>
    obtain⟨o',z⟩:=un.there T3 o q (by simp);rw[n3]at z;cases z
 exact⟨a,T3,C,H',rfl,hE,I2.os,bare,un2,I2.hok,ha,hT3.1,back a na,hT3.2,⟨⟨oe3,vs3,a0,g1,g2,g4,g3,g5⟩,⟨oT3,ts3,g8,g9,g10⟩,g7⟩⟩⟩
end
abbrev MN:=En->Option Str
variable{m m2:MN}
def tX(K:zbS)(ds:List Nat)(m:MN)(cl:Str->Addr)(E:XK):TS:=fun _ σ H=>∃Ox en R x,EnvOk K ds Ox H σ en R/\m en=some x/\∀H',Reach H R H'->E (.ref (cl x)) none H'
def lq(x:Str):MN:=fun _=>some x
def nNo:MN:=fun _=>none
def nIf(c:MT)(m1 m2:MN):MN:=fun en=>(c en).bind fun r=>if r.1 then m1 r.2 else m2 r.2
def dL(f:MS)(m:MN):MN:=fun en=>(f en).bind fun fl=>match fl with
 |.nx en1=>m en1
 |_=>none
def nOr(m1 m2:MN):MN:=fun en=>match m1 en with
 |some x=>some x
 |none=>m2 en
def bf(Rz:List D->Option Str)(fa:MA):MN:=fun en=>(fa en).bind fun r=>(eo r.1 r.2).bind Rz
def fnN(n:Nat)(b:MN):List D->Option Str:=fun ts=>b (ts.map some++List.replicate n none)
def rzN(dps:List Nat)(Rz:List D->Option Str):List D->Option (D×En):=fun ts=>(Rz ts).map fun x=>(.str x,dps.map fun _=>none)
def spN(K:zbS)(dps:List Nat)(cl:Str->Addr)(Rz:List D->Option Str):Sp:=fun vs H _ E=>spF K dps 3 (rzN dps Rz) vs H (fun v H'=>∃x,v=.str x/\E (.ref (cl x)) none H') E
section
variable{F:AS}{m1:MN}{f:MS}{E:XK}        
def je{z:Str}(R:Rsx X E)(hb:ExcBaseFacts B newId initId bmB)(hx:PySem.W.excIn X.K (cl x) bmB newId=true)(hg:Gl X x)(hm:X.mg x=some (.ref (cl x)))(hdb:(x==("__debug__":Str))=false):
  QS X (.Raise (some (.Call (.Name x np) [.Constant (.str z) j p2] [] ω)) none pos) (tX K ds (lq x) cl E):=
 ⟨fun ρ s σ H D I ⟨Ox,en,R0,y,e,hy,k⟩=>by
  cases hy;exact AC R hb hx hg hm (ba pe_str pa_nil) hdb rfl ρ s σ H D I ⟨by show 1<=sizeLine;decide,k H ⟨fun _ _ q _=>q,fun _ o q=>⟨o,q⟩⟩⟩⟩
def qi:QSs X sts (tX K ds nNo cl E):=⟨fun ρ s σ H D I ⟨Ox,en,R,y,e,hy,k⟩=>by cases hy⟩
def qj(hc:QT X.nox c (tFT K p ds ds1 cm))(ha:QSs X body (tX K ds1 m1 cl E))(hb:QSs X els (tX K ds1 m2 cl E)):QS X (.If c body els pos) (tX K ds (nIf cm m1 m2) cl E):=
 ⟨fun ρ s σ H D I ⟨Ox,en,R,y,e,hm,k⟩=>Ej hc.h.nox ha.h hb.h ρ s σ H D I (by
  unfold nIf at hm;obtain⟨⟨b,en1⟩,h1,h2⟩:=zaa.mp hm;cases b with
  |false=>exact⟨Ox,en,R,false,en1,e,h1,fun H' R' P=>⟨Ox,en1,R',y,P.env0,h2,fun H'' r=>k H'' (r.post P)⟩⟩
  |true=>exact⟨Ox,en,R,true,en1,e,h1,fun H' R' P=>⟨Ox,en1,R',y,P.env0,h2,fun H'' r=>k H'' (r.post P)⟩⟩)⟩
def cI(h:QS X st (tX K ds m cl E)):QSs X (st::sts) (tX K ds m cl E):=
 ⟨fun ρ s σ H D I q=>oY h.h yE ρ s σ H D I q⟩
def eX(h:QS X.nox st (tFS K J ds ds1 f))(hr:QSs X sts (tX K ds1 m cl E)):QSs X (st::sts) (tX K ds (dL f m) cl E):=
 ⟨fun ρ s σ H D I ⟨Ox,en,R,y,e,hm,k⟩=>oY h.h.nox hr.h ρ s σ H D I (by
  unfold dL at hm;obtain⟨fl,h1,h2⟩:=zaa.mp hm;cases fl with
  |nx en1=>exact⟨Ox,en,R,.nx en1,e,h1,fun σ' H' R' P=>⟨Ox,en1,R',y,P.env0,h2,fun H'' r=>k H'' (r.postS P)⟩⟩
  |rt t en1=>cases h2
  |ct en1=>cases h2)⟩
def tm(h1:QSs X sts (tX K ds m1 cl E))(h2:QSs X sts (tX K ds m2 cl E)):QSs X sts (tX K ds (nOr m1 m2) cl E):=
 ⟨fun ρ s σ H D I ⟨Ox,en,R,y,e,hm,k⟩=>by
  unfold nOr at hm;cases q:m1 en with
  |some z=>
   rw[q]at hm;exact h1.h ρ s σ H D I ⟨Ox,en,R,y,e,q.trans hm,k⟩
  |none=>
   rw[q]at hm;exact h2.h ρ s σ H D I ⟨Ox,en,R,y,e,hm,k⟩⟩
def gX(O:iX X ρ σ E)(GX:KnX X.prog X.w X.K X.mg X.base k fx ps (spN K dps cl Rz))(hr:Room k X.A)(hgf:Gl X fx)(ha:QA X (e::es) (tFA K true ds ds1 sh fa))(hcd:cO ds1 sh dps=true)(hdf:(fx==("__debug__":Str))=false)(he:av e=true)(hpl:es.all av=true)
  (I:Inv X ρ σ H s) (h:tX K ds (bf Rz fa) cl E Dn σ H):wpAny (model X.prog X.w) X.A (eval (.Call (.Name fx fp) (e::es) [] cp) X.env) (EP X ρ σ fun _ _=>False) X.xe s:=by
 obtain⟨Ox,en,R,y,ee,hm,kk⟩:=h;unfold bf at hm;obtain⟨⟨as,en1⟩,h1,hm⟩:=zaa.mp hm;obtain⟨ts,h2,hR⟩:=zaa.mp hm;have hz:aq (rzN dps Rz) fa en=some (.str y,wb as (dps.map fun _=>none) en1):=by
  unfold aq rzN;rw[h1];show(eo as en1).bind _=_;rw[h2];show((Rz ts).map _).map _=_;rw[hR];rfl
 have tf:tF K (true&&gl sh) ds ds1 3 (aq (rzN dps Rz) fa) σ H (fun v H'=>∃x,v=.str x/\E (.ref (cl x)) none H'):=⟨Ox,en,R,_,_,ee,hz,fun v H' R' Fz P o=>⟨y,o,kk H' ⟨P.keep,P.dom⟩⟩⟩;exact Mz (Q:=fun _ _=>False) (E:=E) GX hr hgf ha.h hdf he hpl I (Bz (E:=E) hcd tf) fun H1 s1 ev s' I1 hc=>O H1 s1 ev s' I1 hc
def uT(O:XOut X E)(GX:KnX X.prog X.w X.K X.mg X.base k fx ps (spN K dps cl Rz))(hr:Room k X.A)(hgf:Gl X fx)(ha:QA X (e::es) (tFA K true ds ds1 sh fa))(hcd:cO ds1 sh dps=true)(hdf:(fx==("__debug__":Str))=false)(he:av e=true)(hpl:es.all av=true)
  (hsw:swapsWith (.Call (.Name fx fp) (e::es) [] cp) (some (.Name x xp)) ap.line X.env=pure false):
  QS X (.Assign [.Name x xp] (.Call (.Name fx fp) (e::es) [] cp) ap) (tX K ds (bf Rz fa) cl E):=
 ⟨fun ρ s σ H D I h=>wpAny_Assign_Name (thn (gX O.at GX hr hgf ha hcd hdf he hpl I h) fun v s1 ⟨_,_,_,_,z⟩=>False.elim z) hsw⟩
end
section
variable{E:XK}   
def Fu{vs:List V}{b:MN}{Q:VK}(hn:N.length-dps.length=n)(h:spN K dps cl (fnN n b) vs H Q E):tX K (dps++List.replicate n 0) b cl E Dn (dy N vs) H:=by
 obtain⟨Ox,ts,R,r,ψ,e,hf,k⟩:=h;have lv:dps.length=vs.length:=by have:=e.l2;rw[zad]at this;exact this
 have lt:ts.length=vs.length:=by have:=e.l1;rw[zad,zad]at this;exact this
 have hs:dy N vs=vs.map some++List.replicate n none:=by unfold dy;rw[<-lv,hn]
 obtain⟨u,h1,hf⟩:=zab.mp hf;cases hf;have get0:∀{α:Type} (xs:List α) (i:Nat) (u:α),(xs.map some++List.replicate n none)[i]?=some (some u)->(xs.map some)[i]?=some (some u)/\i<xs.length:=fun xs i u z=>by
  by_cases hi:i<xs.length
  ·rw[zaS (by rw[zad];exact hi)]at z;exact⟨z,hi⟩
  ·rw[zbD (by rw[zad];omega),List.getElem?_replicate]at z;split at z
   ·cases z
   ·cases z
 have kk:∀H',Reach H R H'->E (.ref (cl u)) none H':=fun H' r=>by
  have w:∃x,V.str u=V.str x/\E (.ref (cl x)) none H':=by
   refine k (.str u) H' (fun _=>NoA) NoA ⟨⟨fun i u hu=>?_,fun _ _ _ z=>z.elim,fun _ _ z=>z.elim,fun a z=>?_,by simp[lv],by simp[lv]⟩,fun _ z=>z.elim,r.keep,fun a z=>?_,r.dom,fun z=>nomatch z⟩ rfl
   ·rw[zao]at hu;cases q:dps[i]? with
    |none=>rw[q]at hu;cases hu
    |some d=>rw[q]at hu;cases hu
   ·rcases z with⟨_,z⟩|z|z
    ·exact z.elim
    ·exact z.elim
    ·obtain⟨o,q⟩:=e.dom a (.inr z);exact r.dom a o q
   ·rcases z with z|⟨_,z⟩
    ·exact z.elim
    ·exact z.elim
  obtain⟨x,e1,e2⟩:=w;cases e1;exact e2
 refine⟨Ox,ts.map some++List.replicate n none,R,u,?_,h1,kk⟩;rw[hs];refine⟨fun i u hu=>?_,e.dj,e.dx,e.dom,by simp[lt],by simp[lv]⟩;obtain⟨hu',hi⟩:=get0 ts i u hu;obtain⟨v,d,g1,g2,g3⟩:=e.at_ i u hu';refine⟨v,d,?_,?_,g3⟩
 ·rw[zaS (by rw[zad];omega)];exact g1
 ·rw[zaS (by omega)];exact g2
def Fun.okN{b:MN}(F:Fun K x qual st f fd)(S:FnScope N ps (ak st))(hl:dps.length=ps.length)(hn:N.length-dps.length=n)(hd:ds0=dps++List.replicate n 0)
  (hb:∀(cdv:Value) (A:Around) (outer:List Env) (s:Shared) (H:Hp) (E:XK),Room k (A.deeper (envOfC qual (ak st) s.heap.objs.size f cdv))->Rsx (iw (CXr P w) P w K mg base N qual (ak st) f cdv A outer s H E) E->XOut (iw (CXr P w) P w K mg base N qual (ak st) f cdv A outer s H E) E ->
   QSs (iw (CXr P w) P w K mg base N qual (ak st) f cdv A outer s H E) (bW st) (tX K ds0 b cl E)):FnOk P w K mg base (CXr P w) (k+1) f fd ps (spN K dps cl (fnN n b)):=by
 subst hd;obtain⟨oc,od,kV,doc,pm,an,cdv,ct,osl,rfl,lk,hcd⟩:=F.ex;refine EE lk hcd S (fun vs H Q E h=>vW hl h) fun A outer s H vs Q E hr hsp=>?_;exact⟨_,(hb cdv A outer s H E hr yx (XOut.of yx rfl)).h,Fu hn hsp⟩
end
def mR(x:Str):D:=.dict [(.none,.str x)]
section
variable{ex:List Addr}{o:HO} 
def Un.more(u:Un fs ex H1 H' h1 h2)(na:h1.get? a=none)(ha:H' a=none):Un fs ex H1 (upd H' a o) h1 h2 where
 keep:=u.keep
 slot:=u.slot
 free:=fun b ob q n hx=>by
  rw[aG (fun z=>by rw[z,na]at q;cases q)];exact u.free b ob q n hx
 there:=u.there
 tups:=fun b xs q=>by
  have e:=u.tups b xs q;rw[aG (fun z=>by rw[z,ha]at e;cases e)];exact e
 frzs:=fun b ob y q=>by
  have e:=u.frzs b ob y q;rw[aG (fun z=>by rw[z,ha]at e;cases e)];exact e
 tbls:=fun b ps q=>by
  obtain⟨more,e⟩:=u.tbls b ps q;refine⟨more,?_⟩;rw[aG (fun z=>by rw[z,ha]at e;cases e)];exact e
def HOk.more(x:HOk P w H' h)(ha:H' a=Option.none)(hx:fS a C h):HOk P w (upd H' a (.ext (fS a C))) h:=fun b ob e=>by
 by_cases hb:b=a
 ·subst hb;rw[aC]at e;cases e;refine⟨hx,hx.elim fun o z=>⟨o,z.1⟩,fun g1 g2 hg k=>?_⟩;obtain⟨o,z1,z2⟩:=hg;exact⟨o,k o z1,z2⟩
 ·rw[aG hb]at e;refine(x b ob e).stay (fun _ _ _ q=>q) (fun c q=>?_) fun c xs q=>?_
  ·rw[aG (fun z=>by rw[z,ha]at q;cases q)];exact q
  ·rw[aG (fun z=>by rw[z,ha]at q;cases q)];exact q
end
section
variable{s1:Shared}{E:XK}{D:Ends}
def xR{G:Str->Hp->Prop}{kn:List Str}{n:Str}{suite:List Stmt}{ev:Value}(Df:Dfx X)(I:Inv X ρ σ H1 s1)
  (hc:CXr X.prog X.w X.stack H1 s1 (fun c _ H'=>∃x,c=.ref (cl x)/\x∈kn/\G x H') ev s') (hx:∀x∈kn,PySem.W.excIn X.K (cl x) bmB newId=true/\iM X.K (cl x) C'=true) (hx':PySem.W.excIn X.K C' bmB newId'=true) (η:bmB.contains (Value.type "BaseException")=true)
  (hg:Gl X y) (hm:X.mg y=some (.ref C')) (hdb:(y==("__debug__":Str))=false) (hN:X.N.Nodup) (hj:X.N[j]?=some n) (ln:Loc X.env.scope n) (kn0:X.env.scope.names.lookup n=some .local) (kn':X.env.kindOf n=some .local)
  (hsu:∀v xe,PSs (X.suite v xe) (b₀::suite) tb)
  (k:∀a x H',x∈kn->G x H'->H' a=none->tb ⟨fun σ' H2=>D.nx (σ'.set j none) H2,fun _ _=>False,fun _ _=>False,fun _ _=>False⟩ (σ.set j (some (.ref a))) (upd H' a (.ext (fS a (cl x))))):
  mq X ρ D [.ExceptHandler (some (.Name y yp)) (some n) (b₀::suite) hp] ev s':=by
 obtain⟨a,T,C0,H',rfl,⟨x,eC,hkn,hG⟩,os,bare,un,hok,ha,hT,na,nT,⟨oe,vs,a0,q1,q2,q3,q4,q5⟩,⟨oT,ts,q6,q7,q8⟩,hne⟩:=hc;have eC':C0=cl x:=by injection eC
 subst eC';obtain⟨hx,hs⟩:=hx x hkn;unfold mq;have fh:s'.heap.FunFrames X.base X.stack:=dW (fun b hb o ho=>un.any ho (I.frn Df.ex b hb) (by simp)) I.stack;have fB:s'.heap.FunFrames (cG s'.heap (frs X.stack++[a,T])) X.stack:=gf fh fun b hb=>bi (zbe _ hb);have frames:X.A.frames=some (X.env::X.outer):=by rw[<-Df.stk];exact I.ok.frames
 refine wpAny_noteFrame_onW (base:=cG s'.heap (frs X.stack++[a,T])) (cls:=.ref (cl x)) (a0:=a0) frames (by rw[<-Df.stk];exact fB) Df.fr ⟨oe,vs,T,oT,ts,q1,⟨q2,q4⟩,q3,q5,bi (by simp),hne,q6,q7,q8⟩ (fun b o q=>(cT q).1) (bi (by simp)) fun h2 ⟨st2,f2,tr2,nf2⟩=>?_;refine wpAny_setFlight_noneW (base:=cG s'.heap (frs X.stack++[a,T])) (l:=X.env::X.outer) st2 f2 tr2 fun h3 st3 f3 ⟨oe3,vs3,T3,oT3,ts3,g1,⟨g2,g3⟩,g4,g5,g6,g7,g8,g9,g10⟩ nf3=>?_;have nf4:∀b∈frs X.stack,∀o,s'.heap.get? b=some o->∃sl,h3.get? b=some { o with slots:=sl }/\∀vs,o.data≠.fields vs:=fun b hb o q=>by
  obtain⟨o2,z1,z2⟩:=bF fh b hb;rw[q]at z1;cases z1;obtain⟨sl,z3⟩:=nf2 b o q z2;exact⟨sl,nf3 b _ z3 z2,z2⟩
 have old:∀b o,s'.heap.get? b=some o->b∉frs X.stack->b≠a->b≠T->h3.get? b=some o:=fun b o q z1 z2 z3=>st3 b o (cB q fun z=>by
  rcases zax.mp z with z|z
  ·exact z1 z
  ·have z':b=a\/b=T:=by simpa using z
   exact z'.elim z2 z3)
 have I3:Inv X ρ σ H' { heap:=h3,gens:=s'.gens,drawn:=s'.drawn,toks:=s'.toks,os:=s'.os }:=gm I Df.ex os bare un hok ha hT na nT old fun b hb o q=>let⟨sl,z,_⟩:=nf4 b hb o q;⟨sl,z⟩;obtain⟨nm,q,N,bs,bm,hdct,sn,sub,ab,col,dd,k0,k1,k2,k3,k5,l1,l2,_,_⟩:=jf hx;obtain⟨nm',q',N',bs',bm',hdct',sn',sub',ab',col',dd',j0,j1,j2,j3,j5,m1,m2,_,_⟩:=jf hx';have hsub:(Value.ref (cl x)::bm).contains (Value.ref C')=true:=by
  unfold iM at hs;rw[l1]at hs;exact hs
 refine wpAny_handleBy_cons (codeAny_handlers_test (i6 (X:=X.suite (.ref a) fun _ _=>False) (I3.suite _ _) hg hm ?_ hdb)) (fun z=>nomatch z);refine kC (I3.kIn (cl x) _ l1) (I3.kIn C' _ m1) g1 g2 (oO (PySem.W.tail_of_in I3.mod.kin m2) η) hsub ?_;have sz3:3<ts3.size:=by
  rw[Array.getElem?_eq_some_iff]at g10;exact g10.1
 refine codeAny_handlers_suite_as (wpAny_setFlight_none g1 g4 g5 g8 g9 sz3 ?_);have hold:∀b o,s'.heap.get? b=some o->b∉frs X.stack->b≠a->b≠T->(h3.update T3 (Obj.mapFields fun x=>x.setIfInBounds 3 Value.none)).get? b=some o:=fun b o q z1 z2 z3=>by
  rw[Heap.get?_update_ne]
  ·exact old b o q z1 z2 z3
  ·rintro rfl
   have:b∈frs X.stack++[a,T]:=Decidable.byContradiction fun hn=>by
    rw[cB q hn]at g6;cases g6
   rcases zax.mp this with z|z
   ·exact z1 z
   ·have z':b=a\/b=T:=by simpa using z
    exact z'.elim z2 z3
 have hfr:∀b∈frs X.stack,∀o,s'.heap.get? b=some o->∃sl,(h3.update T3 (Obj.mapFields fun x=>x.setIfInBounds 3 Value.none)).get? b=some { o with slots:=sl }:=fun b hb o q=>by
  obtain⟨sl,z,z2⟩:=nf4 b hb o q;refine⟨sl,?_⟩;rw[Heap.get?_update_ne]
  ·exact z
  ·rintro rfl;rw[g8]at z;cases z;exact z2 ts3 g9
 have I4:Inv X ρ σ H' { heap:=h3.update T3 (Obj.mapFields fun x=>x.setIfInBounds 3 Value.none),gens:=s'.gens,drawn:=s'.drawn,toks:=s'.toks,os:=s'.os }:=gm I Df.ex os bare un hok ha hT na nT hold hfr;have hxa:fS a (cl x) (h3.update T3 (Obj.mapFields fun x=>x.setIfInBounds 3 Value.none)):=by
  refine⟨oe3,?_,g2,fun c z=>by rw[g4]at z;cases z⟩;rw[Heap.get?_update_ne]
  ·exact g1
  ·exact Ne.symm g7
 have hok2:=I4.hok.more ha hxa;have ne1:∀b o,s1.heap.get? b=some o->b≠a/\b≠T:=fun b o q=>⟨fun z=>(by rw[z,na]at q;cases q),fun z=>(by rw[z,nT]at q;cases q)⟩;have u2:Un (frs X.stack) [] H1 H' s1.heap (h3.update T3 (Obj.mapFields fun x=>x.setIfInBounds 3 Value.none)):=un.behind (fun b o' q0 o q hb=>hold b o q hb (ne1 b o' q0).1 (ne1 b o' q0).2) fun b o' q0 o q hb=>hfr b hb o q;have I5:Inv X ρ σ (upd H' a (.ext (fS a (cl x)))) { heap:=h3.update T3 (Obj.mapFields fun x=>x.setIfInBounds 3 Value.none),gens:=s'.gens,drawn:=s'.drawn,toks:=s'.toks,os:=s'.os }:=by
  rw[os];exact I.call (ch:=[]) (u2.more na ha) hok2 bare fun _ z=>by cases z
 refine ms (X:=X) I5 hN hj ln (v:=.ref a) rfl (fun s2 I6 _=>?_) (.inr kn0);refine wpAny_mono (hsu (.ref a) _ ρ s2 _ _ _ (I6.suite _ _) (k a x H' hkn hG ha)) (fun f s4 z=>?_) fun e s4 z=>z;cases f with
 |next=>
  obtain⟨σ',H2,I7,z⟩:=z;exact yR (I7.unsuite I.ok.hd) hN hj kn' fun s5 I8=>⟨_,_,I8,z⟩
 |ret u=>obtain⟨_,_,_,_,_,z⟩:=z;exact z.elim
 |brk=>obtain⟨_,_,_,z⟩:=z;exact z.elim
 |cont=>obtain⟨_,_,_,z⟩:=z;exact z.elim
end
def hidE(kp:List Nat)(en:En):En:=en.zipIdx.map fun p=>if p.2∈kp then none else p.1
def A6(kp:List Nat)(en:En)(i:Nat):(hidE kp en)[i]?=(en[i]?).map fun o=>if i∈kp then none else o:=by
 unfold hidE;rw[zao,List.getElem?_zipIdx];cases en[i]?<;>simp
def EnvOk.hidE(e:EnvOk K ds Ox H σ en R)(kp:List Nat):EnvOk K ds (fun a=>Ox a\/∃i∈kp,R i a) H σ (L2.hidE kp en) (fun i a=>i∉kp/\R i a):=by
 have eq:Own (fun i a=>i∉kp/\R i a) (fun a=>Ox a\/∃i∈kp,R i a)=Own R Ox:=gY fun a=>by
  constructor
  ·rintro (⟨i,_,z⟩|z|⟨i,_,z⟩)
   ·exact .inl ⟨i,z⟩
   ·exact .inr z
   ·exact .inl ⟨i,z⟩
  ·rintro (⟨i,z⟩|z)
   ·by_cases hi:i∈kp
    ·exact .inr (.inr ⟨i,hi,z⟩)
    ·exact .inl ⟨i,hi,z⟩
   ·exact .inr (.inl z)
 refine⟨fun i t q=>?_,fun i j a z1 z2=>e.dj i j a z1.2 z2.2,fun i a z z2=>?_,fun a z=>e.dom a (eq▸z),?_,e.l2⟩
 ·rw[A6]at q;obtain⟨o,q1,q2⟩:=zab.mp q;by_cases hi:i∈kp
  ·rw[if_pos hi]at q2;cases q2
  ·rw[if_neg hi]at q2;subst q2;obtain⟨v,d,h1,h2,h3⟩:=e.at_ i t q1;refine⟨v,d,h1,h2,?_⟩;rw[eq];exact Ow.grow (fun _ z=>z) t (fun b z=>⟨hi,z⟩) h3
 ·rcases z2 with z2|⟨j,hj,z2⟩
  ·exact e.dx i a z.2 z2
  ·have:=e.dj i j a z.2 z2;subst this;exact z.1 hj
 ·show(L2.hidE kp en).length=_;unfold L2.hidE;rw[zad,List.length_zipIdx];exact e.l1
def EnvOk.raised(e:EnvOk K ds Ox H σ en R)(r:Reach H (fun i a=>i∉kp/\R i a) H')(hd:∀(i:Nat) d,ds[i]?=some d->d=0\/i∈kp):EnvOk K ds Ox H' σ en (fun i a=>i∈kp/\R i a):=by
 refine⟨fun i t q=>?_,fun i j a z1 z2=>e.dj i j a z1.2 z2.2,fun i a z=>e.dx i a z.2,fun a z=>?_,e.l1,e.l2⟩
 ·obtain⟨v,d,h1,h2,h3⟩:=e.at_ i t q;refine⟨v,d,h1,h2,?_⟩;rcases hd i d h2 with h0|hi
  ·subst h0;refine Ow.mv (O:=Own R Ox) (H:=H) (G:=fun _=>False) ⟨fun a o q z=>r.keep a o q fun j zj=>(z.resolve_right id) (.inl ⟨j,zj.2⟩),fun a z=>.inl (z.imp (fun⟨j,z⟩=>⟨j,z.2⟩) id)⟩ t (F:=fun _=>False) (fun _ z=>z) (Ow.any0 t h3) |> Ow.any0 t
  ·refine Ow.mv (O:=Own R Ox) (H:=H) (G:=R i) ⟨fun a o q z=>r.keep a o q fun j zj=>?_,fun a z=>.inl (z.imp (fun⟨j,z⟩=>⟨j,z.2⟩) id)⟩ t (F:=fun a=>i∈kp/\R i a) (fun _ z=>z.2) (Ow.grow (fun _ z=>z) t (fun b z=>⟨hi,z⟩) h3);rcases z with z|z
   ·exact z (.inl ⟨j,zj.2⟩)
   ·have:=e.dj j i a zj.2 z;subst this;exact zj.1 hi
 ·obtain⟨o,q⟩:=e.dom a (z.imp (fun⟨i,z⟩=>⟨i,z.2⟩) id);exact r.dom a o q
def PXs(X:Cx)(ρ:List (Addr×Obj))(σ:St)(E:XK)(K:zbS)(ds:List Nat)(m:MN)(cl:Str->Addr)(sts:List Stmt):Prop:=
 ∀s H,Inv X ρ σ H s->(∀D,tX K ds m cl E D σ H)->wpAny (model X.prog X.w) X.A (execs sts X.env) (fun _ _=>False) X.xe s
section
variable{m1:MN}{E:XK}        
def LL:PXs X ρ σ E K ds nNo cl sts:=fun s H I h=>by
 obtain⟨_,_,_,_,_,z,_⟩:=h ⟨fun _ _=>True,fun _ _=>True,fun _ _=>True,fun _ _=>True⟩;cases z
def t7(O:iX X ρ σ E)(GX:KnX X.prog X.w X.K X.mg X.base k fx ps (spN K dps cl Rz))(hr:Room k X.A)(hgf:Gl X fx)(ha:QA X (e::es) (tFA K true ds ds1 sh fa))(hcd:cO ds1 sh dps=true)(hdf:(fx==("__debug__":Str))=false)(he:av e=true)(hpl:es.all av=true):
  PXs X ρ σ E K ds (bf Rz fa) cl [.Expr (.Call (.Name fx fp) (e::es) [] cp) ap]:=fun s H I h=>
 wpAny_execs_cons (wpAny_Expr (thn (gX O GX hr hgf ha hcd hdf he hpl I (h ⟨fun _ _=>True,fun _ _=>True,fun _ _=>True,fun _ _=>True⟩)) fun v s1 ⟨_,_,_,_,z⟩=>False.elim z) I.quiet)
def AA(O:iX X ρ σ E)(GX:KnX X.prog X.w X.K X.mg X.base k fx ps (spN K dps cl Rz))(hr:Room k X.A)(hgf:Gl X fx)(ha:QA X (e::es) (tFA K true ds ds1 sh fa))(hcd:cO ds1 sh dps=true)(hdf:(fx==("__debug__":Str))=false)(he:av e=true)(hpl:es.all av=true)
  (hsw:swapsWith (.Call (.Name fx fp) (e::es) [] cp) (some (.Name x xp)) ap.line X.env=pure false):
  PXs X ρ σ E K ds (bf Rz fa) cl [.Assign [.Name x xp] (.Call (.Name fx fp) (e::es) [] cp) ap]:=fun s H I h=>
 wpAny_execs_cons (wpAny_Assign_Name (thn (gX O GX hr hgf ha hcd hdf he hpl I (h ⟨fun _ _=>True,fun _ _=>True,fun _ _=>True,fun _ _=>True⟩)) fun v s1 ⟨_,_,_,_,z⟩=>False.elim z) hsw)
end
def pN(kn:List Str)(kp:List Nat)(j:Nat)(b:MS)(m:MN)(hs:MS):MS:=fun en=>match b en with
 |some (.nx e)=>some (.nx e)
 |some _=>none
 |none=>(m (hidE kp en)).bind fun x=>if x∈kn then(hs (en.set j (some (mR x)))).bind fun fl=>match fl with
  |.nx e=>some (.nx (e.set j none))
  |_=>none else none
def uw(ds kp:List Nat):Bool:=ds.zipIdx.all fun p=>p.1==0 || kp.contains p.2
def uv(h:uw ds kp=true)(i d:Nat)(q:ds[i]?=some d):d=0\/i∈kp:=by
 unfold uw at h
 have:=List.all_eq_true.mp h (d,i) (zaX (i:=i) (by rw[List.getElem?_zipIdx,q];simp));simpa using this
section
variable{b hs:MS}{kn:List Str}{n:Str}{suite:List Stmt}
def uP(hK:X.K=K)(Df:Dfx X)(hb:∀xe,QSs (X.wish xe) body (tFS K J ds ds' b))(hm:∀xe ρ σ E,iX (X.wish xe) ρ σ E->PXs (X.wish xe) ρ σ E K ds m cl body)(hsu:∀v xe,QSs (X.suite v xe) (b₀::suite) (tFS K J ds ds' hs))
  (hcl:∀x∈kn,PySem.W.nsIn K mainGlobals x=some (some (.ref (cl x)))) (hx:∀x∈kn,PySem.W.excIn X.K (cl x) bmB newId=true/\iM X.K (cl x) C'=true) (hx':PySem.W.excIn X.K C' bmB newId'=true) (η:bmB.contains (Value.type "BaseException")=true)
  (hg:Gl X y) (hmy:X.mg y=some (.ref C')) (hdb:(y==("__debug__":Str))=false) (hN:X.N.Nodup) (hj:X.N[j]?=some n) (ln:Loc X.env.scope n) (kn0:X.env.scope.names.lookup n=some .local) (kn':X.env.kindOf n=some .local)
  (hkp:uw ds kp=true) (hjl:j∉J.lk) (hjd:ds[j]?=some 0) (hjd':ds'[j]?=some 0) (hjk:j∉kp):
  QS X (.Try body [.ExceptHandler (some (.Name y yp)) (some n) (b₀::suite) hp] [] [] pos) (tFS K J ds ds' (pN kn kp j b m hs)):=by
 subst hK;refine⟨fun ρ s σ H Dn I h=>?_⟩;obtain⟨Ox,en,R,fl,env,hf,k⟩:=h;refine wpAny_Try_except ?_;show wpAny (model X.prog X.w) X.A (execs body X.env) _ (mq X ρ Dn [.ExceptHandler (some (.Name y yp)) (some n) (b₀::suite) hp]) s;unfold pN at hf;cases hB:b en with
 |some f1=>
  rw[hB]at hf;cases f1 with
  |nx e1=>
   cases hf;refine wpAny_mono ((hb (mq X ρ Dn [.ExceptHandler (some (.Name y yp)) (some n) (b₀::suite) hp])).h ρ s σ H Dn (I.wish _) ⟨Ox,en,R,_,env,hB,k⟩) (fun f s1 z=>?_) fun ev s1 z=>z;have z:=z.unwish;cases f with
   |next=>exact wpAny_execs_nil z
   |ret v=>exact z
   |brk=>exact z
   |cont=>exact z
  |rt t e1=>cases hf
  |ct e1=>cases hf
 |none=>
  rw[hB]at hf;obtain⟨x,hx1,hf⟩:=zaa.mp hf;by_cases hkn:x∈kn
  case neg=>rw[if_neg hkn]at hf;cases hf
  rw[if_pos hkn]at hf;obtain⟨fl2,hx2,hf⟩:=zaa.mp hf;cases fl2 with
  |rt t e1=>cases hf
  |ct e1=>cases hf
  |nx e2=>
  cases hf;have hjl2:j<σ.length:=by rw[<-env.l2];exact(zah.mp hjd).1
  have O:iX (X.wish (mq X ρ Dn [.ExceptHandler (some (.Name y yp)) (some n) (b₀::suite) hp])) ρ σ (fun c _ H'=>∃z,c=.ref (cl z)/\z∈kn/\(z=x/\Reach H (fun i a=>i∉kp/\R i a) H')):=fun H1 s1 ev s' I1 hc=>by
   refine xR (G:=fun z H'=>z=x/\Reach H (fun i a=>i∉kp/\R i a) H') Df I1.unwish hc hx hx' η hg hmy hdb hN hj ln kn0 kn' (fun v xe=>(hsu v xe).h) ?_;rintro a z H' _ ⟨ez,r⟩ ha;rw[ez];have e1:=env.raised r (uv hkp);have hnew:∀b o,H' b=some o->(upd H' a (.ext (fS a (cl x)))) b=some o:=fun b o q=>by rw[aG (fun z=>by rw[z,ha]at q;cases q)];exact q
   have na:¬Own (fun i a=>i∈kp/\R i a) Ox a:=fun z=>by
    obtain⟨o,q⟩:=e1.dom a z;rw[ha]at q;cases q
   have e2':EnvOk X.K ds Ox (upd H' a (.ext (fS a (cl x)))) (σ.set j (some (.ref a))) (en.set j (some (mR x))) (fun i a=>i∈kp/\R i a):=by
    refine⟨fun i t q=>?_,e1.dj,e1.dx,fun b z=>let⟨o,q⟩:=e1.dom b z;⟨o,hnew b o q⟩,by rw[zaV,zaV];exact e1.l1,by rw[zaV];exact e1.l2⟩;by_cases hij:i=j
    ·subst hij;have hl:i<en.length:=by rw[env.l1];exact hjl2
     rw[zaP hl]at q;cases q;exact⟨.ref a,0,by rw[zaP hjl2],hjd,a,[],rfl,.inr (.inr (.inl ⟨rfl,.inr ⟨x,cl x,rfl,hcl x hkn,aC,na⟩⟩))⟩
    ·rw[zaO (Ne.symm hij)]at q;obtain⟨v,d,g1,g2,g3⟩:=e1.at_ i t q;exact⟨v,d,by rw[zaO (Ne.symm hij)];exact g1,g2,Ow.mv (G:=fun a=>i∈kp/\R i a) ⟨fun b o q _=>hnew b o q,fun b z=>.inl z⟩ t (fun _ z=>z) g3⟩
   refine⟨Ox,en.set j (some (mR x)),_,_,e2',hx2,fun σ' H2 R2 P=>?_⟩;refine k (σ'.set j none) H2 R2 ⟨?_,P.fx,fun b o q nn=>?_,fun b z=>?_,fun b o q=>?_,fun i hi=>?_⟩
   ·refine⟨fun i t q=>?_,P.env.dj,P.env.dx,P.env.dom,by rw[zaV,zaV];exact P.env.l1,by rw[zaV];exact P.env.l2⟩;by_cases hij:i=j
    ·subst hij;by_cases hl:i<e2.length
     ·rw[zaP hl]at q;cases q
     ·rw[zbj (by rw[zaV];omega)]at q;cases q
    ·rw[zaO (Ne.symm hij)]at q;obtain⟨v,d,g1,g2,g3⟩:=P.env.at_ i t q;exact⟨v,d,by rw[zaO (Ne.symm hij)];exact g1,g2,g3⟩
   ·exact P.keep b o (hnew b o (r.keep b o q fun i z=>nn i z.2)) fun i z=>nn i z.2
   ·rcases P.own b z with⟨i,z⟩|z
    ·exact .inl ⟨i,z.2⟩
    ·by_cases q:∃i,R i b
     ·exact .inl q
     ·refine .inr ?_;cases qb:H b with
      |none=>rfl
      |some o=>
       have:=hnew b o (r.keep b o qb fun i z=>q ⟨i,z.2⟩);rw[z]at this;cases this
   ·obtain⟨o',q'⟩:=r.dom b o q;exact P.dom b o' (hnew b o' q')
   ·have:=P.lk i hi;have hij:j≠i:=fun z=>hjl (z▸hi);rw[zaO hij,this,zaO hij]
  exact wpAny_mono (hm _ ρ σ _ O s H (I.wish _) fun D=>⟨_,hidE kp en,_,x,env.hidE kp,hx1,fun H' r=>⟨x,rfl,hkn,rfl,r⟩⟩) (fun _ _ z=>z.elim) fun _ _ z=>z
end
end L2
namespace L2
variable{K:zbS}{M:Model}{H:Hp}{c:V}{T:Str}{px pt pos:Pos}
open PySem PySem.Spec PyProof.Rows Builtin Builtin.ObjectAttr Builtin.Getset_descriptor
def lB:Value:=.builtin "object.__class__"
def uL:Value:=.builtin "getset_descriptor.__get__"
def gGa:Value:=.builtin "BaseException.__getattribute__"
def okX(K:zbS)(C:Addr):Bool:=((PySem.W.findIn K (.ref C) "__getattribute__"==some (some gGa))&&(PySem.W.findIn K (.ref C) "__getattr__"==some none)&&(PySem.W.mroIn K C (.type "BaseException")==some true))&&(PySem.W.clsIn K C).isSome&&(PySem.W.findIn K (.ref C) "__class__"==some (some lB))&&(PySem.W.specialIn K lB "__get__"==some (some uL))&&(PySem.W.takesIn K lB==some true)&&(PySem.W.mroIn K C (.type "object")==some true)&&(PySem.W.kitCls K (.ref C) (.ref C)).isSome
section
variable{prog:Program}{w:World}{A:Around}{E:Value->Shared->Prop}{s:Shared}{a C:Addr}
def zR{h:Heap}(p:fS a C h):PySem.W.Looks M h (typeOf (.ref a)) (.ref C):=by
 obtain⟨o,h1,h2,_⟩:=p;exact h2▸(PySem.W.Looks.ld h1).andThen .now
def GJ{nv:Value}{Q:Unit->Shared->Prop}(t0:PySem.W.Looks M s.heap (typeOf (.ref a)) (.ref C))(t6:PySem.W.Looks M s.heap (isSubtype (.ref C) (.type "BaseException")) true)(hq:Q () s):wpAny M A (checkBuiltinCall "BaseException.__getattribute__" ⟨[.ref a,nv],[]⟩) Q E s:=by
 have hb:builtinKind "BaseException.__getattribute__"=some .slot:=by decide +kernel
 have hp:splitId "BaseException.__getattribute__"=some ("BaseException","__getattribute__"):=by decide +kernel
 have ha:=PySem.F.args_bexc_ga (.ref a) nv;obtain⟨hh,g,d,t,os⟩:=s;simp only[checkBuiltinCall,hb,hp];refine zam ?_;unfold isInstance;refine zam (t0.at (t6.at ?_));simp only[Bool.not_true,Bool.false_eq_true,if_false];cases hs:Manifest.signature? "BaseException.__getattribute__" with
 |none=>exact zaT hq
 |some sg=>
  simp only[argsOk,hs]at ha;have h2:Bind.checkArgs "BaseException.__getattribute__" sg ⟨[.ref a,nv],[]⟩=pure ():=ha;show wpAny M A (Bind.checkArgs "BaseException.__getattribute__" sg ⟨[.ref a,nv],[]⟩) Q E _;rw[h2];exact zaT hq
def zS{Q:Option Value->Shared->Prop}(hk:okX K C=true)(X:K.In s.heap)(p:fS a C s.heap)(h:Q (some (.ref C)) { s with toks:=s.toks+1 }):wpAny (model prog w) A (getAttr? (.ref a) "__class__") Q E s:=by
 unfold okX at hk;simp only[zbk,beq_iff_eq]at hk;obtain⟨⟨⟨⟨⟨⟨⟨⟨k0,k1⟩,k7⟩,k2⟩,k3⟩,k4⟩,k5⟩,k6⟩,_⟩:=hk;obtain⟨hh,g,d,t,os⟩:=s;have t0:=zR (M:=model prog w) p;have t1:=PySem.W.looks_findIn (M:=model prog w) X k0;have t2:=PySem.W.looks_findIn (M:=model prog w) X k1;have t6:=PySem.W.looks_mroIn (M:=model prog w) X k7;have bs:∀self,bindSpecial gGa self=pure (gGa,[self]):=PySem.F.attr_ValueError.ga.bind;have ng:(onTheHeap (Value.ref C)&&gGa==Value.builtin "object.__getattribute__")=false:=by rw[show(gGa==Value.builtin "object.__getattribute__")=false by decide +kernel];rfl
 have t3:PySem.W.Looks (model prog w) hh (Builtin.ObjectAttr.dataDescriptor? (some lB) (some uL)) (some (uL,lB)):=(PySem.W.looks_takesIn X k5).andThen .now;have t4:PySem.W.Looks (model prog w) hh (Builtin.ObjectAttr.find (.ref a) (.ref C) "__class__") (.bind uL lB):=(PySem.W.looks_findIn X k3).andThen ((PySem.W.looks_specialIn X k4).andThen (t3.andThen (PySem.W.Looks.tag .now)));have t5:=PySem.W.looks_mroIn (M:=model prog w) X k6;unfold getAttr? getAttrBy? getAttrBy;refine zam (wpAny_mkText (zam (wpAny_attempt (zbM (zam (t0.at (zam (t1.at ?_))))))))
 dsimp only
 rw[ng];show wpAny _ _ (getAttrByItsOwn _ _ _ _ _ _) _ _ _;unfold getAttrByItsOwn;refine zam (t2.at (zam (wpAny_attempt (zbM ?_))));show wpAny _ _ (boundAndCalled gGa _ _) _ _ _;unfold boundAndCalled;rw[bs];refine zam (zaT (wpAny_call ?_));refine codeAny_call_builtin PySem.F.attr_ValueError.ga.plain PySem.F.entry_bexc_ga (GJ t0 t6 ?_);unfold Builtin.«object.__getattribute__»;refine zam ?_;show wpAny _ _ (pure (Value.ref a,[Value.str "__class__" t])) _ _ _;refine zaT ?_;refine zam (zaT (zam (t0.at (zam (t4.at ?_)))));show wpAny _ _ (holding [lB] (call uL [lB,.ref a,.ref C]) >>= ret) _ _ _;refine zam (zbM (wpAny_call ?_));refine codeAny_call_builtin PySem.W.KF.slot_gs.plain PySem.W.KF.entry_gs (PySem.W.KF.slot_gs.check _ _ _ _ _ _ _ _ PySem.W.KF.type_class (PySem.W.KF.args_gs _ _ _) ?_);unfold Builtin.«getset_descriptor.__get__» descrGet;rw[show lB=Value.builtin "object.__class__" from rfl,PySem.W.dga_obj];refine zam (zaT ?_);unfold descrGetter descrCheckInstance;unfold descrNameAndClass;unfold isInstance;simp only[PySem.W.KF.owner_class]
 repeat lk
 refine⟨Code.quiet_builtin _ (by decide +kernel),codeAny_builtin PySem.W.KF.entry_class ?_⟩;unfold Builtin.«object.__class__»;unfold shownTypeOf
 repeat lk
 exact h
def ux(hk:okX K C=true):PySem.W.KitX K (.ref a) (.ref C) (fS a C) where
 ty:=fun _ _ _ p=>zR p
 it:=fun M h X _=>by
  unfold okX at hk;simp only[zbk]at hk;obtain⟨v,hv⟩:=Option.isSome_iff_exists.mp hk.2;exact(PySem.W.kit_cls X hv).2.1
 ne:=fun h tp dd its n sl X htp=>by
  unfold okX at hk;simp only[zbk]at hk;have k2:=hk.1.1.1.1.1.2;refine Bool.eq_false_iff.mpr fun q=>?_;have e:C=tp:=by simpa using q
  subst e;unfold PySem.W.clsIn at k2;split at k2
  ·next ho=>
   have z:=(X _ _ ho).symm.trans htp;cases z
  ·cases k2
 ca:=fun X p h=>zS hk X p h
end
def dh(kn xs:List Str):D->Option D
 |.dict [(.none,.str x)]=>if x∈kn then some (.bool (xs.contains x))else none
 |_=>none
def kT(K:zbS)(kn xs:List Str)(cv:Value):Bool:=kn.all fun x=>match PySem.W.nsIn K mainGlobals x with
 |some (some (.ref C))=>okX K C&&(PySem.W.kitOne K (.ref C) cv==some (xs.contains x))
 |_=>false
def oP(K:zbS)(kn xs:List Str)(cvs:List Value):Bool:=kn.all fun x=>match PySem.W.nsIn K mainGlobals x with
 |some (some (.ref C))=>okX K C&&(PySem.W.kitAny K (.ref C) cvs==some (xs.contains x))
 |_=>false
def Jw(K:zbS)(kn xs:List Str)(c:V):List V->Hp->VK->Prop:=fun vs H Q=>∃(x:V) (O:AS) (a:D) (b:Bool),vs=[x,c]/\Ow K O H a 0 x NoA/\dh kn xs a=some (.bool b)/\Q (.bl b) H
section
variable{X:Cx}{p:Bool}{ds ds1:List Nat}{d1:Nat}{e:Expr}{f:ME}{kn xs:List Str}
def uH{a:D}{b:Bool}{O:AS}{x:V}(h:dh kn xs a=some (.bool b))(o:Ow K O H a 0 x NoA):∃q y C,x=.ref q/\y∈kn/\b=xs.contains y/\PySem.W.nsIn K mainGlobals y=some (some (.ref C))/\H q=some (.ext (fS q C)):=by
 unfold dh at h;split at h
 case h_2=>cases h
 next y=>
 by_cases hy:y∈kn
 case neg=>rw[if_neg hy]at h;cases h
 rw[if_pos hy]at h;cases h;obtain⟨q,vs,rfl,⟨_,_,_,z⟩|⟨z,_⟩|⟨_,⟨z,_⟩|⟨y',C,z,h1,h2,_⟩⟩|⟨z,_⟩⟩:=o
 ·obtain⟨q',_,_,_,_,_,z,_⟩:=z;cases q'<;>cases z
 ·exact absurd rfl z
 ·obtain⟨kvs,_,_,g2,_⟩:=z;cases g2
 ·cases z;exact⟨q,y,C,rfl,hy,rfl,h1,h2⟩
 ·cases z
def u5{cv:Value}(hc:∀u,RelV c u->u=cv)(ht:kT X.K kn xs cv=true):CallR X (.builtin "isinstance") (Jw X.K kn xs c):=by
 intro ρ s σ H vs us Q I r h;obtain⟨x,O,a,b,rfl,oa,hb,q⟩:=h;obtain⟨u,u2,rfl,r1,r2⟩:=r.two;have e2:=hc u2 r2;subst e2;obtain⟨z,y,C,rfl,hy,rfl,h1,h2⟩:=uH hb oa;cases r1;have t:=List.all_eq_true.mp ht y hy;rw[h1]at t;simp only[zbk,beq_iff_eq]at t;obtain⟨hx,_⟩:=(show ObjOk X.prog X.w H s.heap z (.ext (fS z C))from I.hok z _ h2);exact PySem.W.kia_one (ux t.1) I.kIn hx t.2 (fun z=>nomatch z) fun tk=>⟨.bl _,H,I.tok tk,rfl,q⟩
def wq{σ:St}{Q:VK}(h:tF K p ds ds1 3 (e1 (dh kn xs) f) σ H Q):tCB (Jw K kn xs c) (iL (tF K p ds ds1 d1 f) (iL (tC c) oQ)) σ H Q:=by
 obtain⟨Ox,en,R,t,en',e,hf,k⟩:=h;unfold e1 at hf;obtain⟨⟨t1,en1⟩,h1,hf⟩:=zaa.mp hf;obtain⟨t',h3,hf⟩:=zab.mp hf;cases hf;obtain⟨b,rfl⟩:∃b,t=.bool b:=by
  unfold dh at h3;split at h3
  ·split at h3
   ·cases h3;exact⟨_,rfl⟩
   ·cases h3
  ·cases h3
 refine⟨Ox,en,R,t1,en1,e,h1,fun v H' R' F P o=>?_⟩;exact⟨v,Own R' Ox,t1,b,rfl,Ow.letgo P (fun _ z=>z) o,h3,k _ H' R' NoA (P.less fun _ z=>z.elim) rfl⟩
def K3{C':Addr}(hK:X.K=K)(hg:Gl X "isinstance")(hm:X.mg "isinstance"=none)(hgT:Gl X T)(hmT:X.mg T=some (.ref C'))(ht:kT K kn xs (.ref C')=true)(he:PE X e (tF K p ds ds1 d1 f))(hdT:(T==("__debug__":Str))=false)
  (hs1:starEach [e,.Name T pt] X.env=(false,eval e X.env)::starEach [.Name T pt] X.env) (hs2:starEach [.Name T pt] X.env=(false,eval (.Name T pt) X.env)::starEach [] X.env) (hpl:(backTo pos (starEach [.Name T pt] X.env)).any (·.1)=false):
  PE X (.Call (.Name "isinstance" px) [e,.Name T pt] [] pos) (tF K p ds ds1 3 (e1 (dh kn xs) f)):=by
 subst hK;exact(fN (u5 (c:=.ref C') (fun u z=>z) ht) hg hm boot_isinstance (ba he (ba (nK (v:=.ref C') hgT hmT rfl hdT) pa_nil hs2) hs1) (by decide) (by decide) hs1 hpl).imp fun σ H Q h=>wq h
def K5{n:String}(hK:X.K=K)(hg:Gl X "isinstance")(hm:X.mg "isinstance"=none)(hgT:Gl X T)(hmT:X.mg T=none)(hbT:bootBuiltins T=some (.type n))(ht:kT K kn xs (.type n)=true)(he:PE X e (tF K p ds ds1 d1 f))(hnT:T≠"__name__")(hdT:(T==("__debug__":Str))=false)
  (hs1:starEach [e,.Name T pt] X.env=(false,eval e X.env)::starEach [.Name T pt] X.env) (hs2:starEach [.Name T pt] X.env=(false,eval (.Name T pt) X.env)::starEach [] X.env) (hpl:(backTo pos (starEach [.Name T pt] X.env)).any (·.1)=false):
  PE X (.Call (.Name "isinstance" px) [e,.Name T pt] [] pos) (tF K p ds ds1 3 (e1 (dh kn xs) f)):=by
 subst hK;exact(fN (u5 (c:=.ty n) (fun u z=>z) ht) hg hm boot_isinstance (ba he (ba (nL (v:=.ty n) hgT hmT hbT rfl hnT hdT) pa_nil hs2) hs1) (by decide) (by decide) hs1 hpl).imp fun σ H Q h=>wq h
end
end L2
namespace L2
variable{K:zbS}{kn:List Str}{T:Str}{px pt pos:Pos}
open PySem PySem.Spec PyProof.Rows
section
variable{X:Cx}{p:Bool}{ds ds1:List Nat}{d1:Nat}{e:Expr}{f:ME}{xs:List Str}
def Bp{C':Addr}(hK:X.K=K)(hg:Gl X "isinstance")(hm:X.mg "isinstance"=none)(hgT:Gl X T)(hmT:X.mg T=some (.ref C'))(ht:kT K kn xs (.ref C')=true)(he:QE X e (tF K p ds ds1 d1 f))(hdT:(T==("__debug__":Str))=false)(hs:av e=true):
  QE X (.Call (.Name "isinstance" px) [e,.Name T pt] [] pos) (tF K p ds ds1 3 (e1 (dh kn xs) f)):=⟨K3 hK hg hm hgT hmT ht he.h hdT (aD hs) (aD rfl) (cf rfl)⟩
def Bq{n:String}(hK:X.K=K)(hg:Gl X "isinstance")(hm:X.mg "isinstance"=none)(hgT:Gl X T)(hmT:X.mg T=none)(hbT:bootBuiltins T=some (.type n))(ht:kT K kn xs (.type n)=true)(he:QE X e (tF K p ds ds1 d1 f))(hnT:T≠"__name__")(hdT:(T==("__debug__":Str))=false)(hs:av e=true):
  QE X (.Call (.Name "isinstance" px) [e,.Name T pt] [] pos) (tF K p ds ds1 3 (e1 (dh kn xs) f)):=⟨K5 hK hg hm hgT hmT hbT ht he.h hnT hdT (aD hs) (aD rfl) (cf rfl)⟩
end
def clK(K:zbS)(x:Str):Addr:=match PySem.W.nsIn K mainGlobals x with
 |some (some (.ref C))=>C
 |_=>0
def xL(K:zbS)(kn:List Str)(y:Str):Bool:=kn.all fun x=>(PySem.W.nsIn K mainGlobals x==some (some (.ref (clK K x))))&&PySem.W.excIn K (clK K x) vE "ValueError.__new__"&&iM K (clK K x) (clK K y)
structure ExcK(K:zbS)(mg:Str->Option Value)(kn:List Str)(y:Str):Prop where
 b:xL K kn y=true
 m:mg y=some (.ref (clK K y))
 h:PySem.W.excIn K (clK K y) vE "ValueError.__new__"=true
def ExcK.cl{mg:Str->Option Value}{y:Str}(E:ExcK K mg kn y):∀x∈kn,PySem.W.nsIn K mainGlobals x=some (some (.ref (clK K x))):=fun x hx=>by
 have:=List.all_eq_true.mp E.b x hx;simp only[zbk,beq_iff_eq]at this;exact this.1.1
def ExcK.hx{K:zbS}{mg:Str->Option Value}{kn:List Str}{y:Str}(E:ExcK K mg kn y):∀x∈kn,PySem.W.excIn K (clK K x) vE "ValueError.__new__"=true/\iM K (clK K x) (clK K y)=true:=fun x hx=>by
 have:=List.all_eq_true.mp E.b x hx;simp only[zbk,beq_iff_eq]at this;exact⟨this.1.2,this.2⟩
end L2
namespace L2
open PySem PySem.Spec PyProof.Rows Builtin
def MR:List Int->Bool
 |[]=>true
 |x::r=>go x r true || go x r false
where go (x:Int):List Int->Bool->Bool
 |[],_=>true
 |y::r,true=>decide (x<=y)&&go y r true
 |y::r,false=>decide (y<x)&&go y r false
def EL(ns:List Int):Prop:=ns.length<64\/(MR ns=true/\ns.length<=5000)
instance (ns:List Int):Decidable (EL ns):=by unfold EL;exact inferInstance
end L2
namespace PySem
end PySem
namespace L2
open PySem PySem.Spec PyProof.Rows
end L2
namespace L2
open PySem PySem.Spec PyProof.Rows Builtin
end L2
namespace L2
open PySem PySem.Spec PyProof.Rows PySem.Calls
end L2
namespace L2
open PySem PySem.Spec PyProof.Rows
section
variable{K:zbS}{O:AS}{H:Hp}{l:Addr}{w0:HO}{ob:Obj}
def Dty:HO->Prop
 |.dK _=>True
 |.dT _ _=>True
 |_=>False
end
def bs(val:Nat->Int):Nat->Int
 |0=>0
 |k+1=>if k=0\/val k>bs val k then val k else bs val k
end L2
namespace PySem
end PySem
namespace PySem
open PySem.SeqAt
end PySem
namespace L2
open PySem PySem.Spec PyProof.Rows
end L2
namespace L2
open PySem PySem.Spec PyProof.Rows Builtin
end L2
namespace L2
variable{X:Cx}{K:zbS}{p q:Bool}{ds ds1 lk dsi ds' kp:List Nat}{e elt tg iter:Expr}{es ifs:List Expr}{f:ME}{kn ns:List Str}{C:Addr}{px pos tp:Pos}{kk cd:Nat}{J:Jd}{H H1 H' H2:Hp}{σ:St}{m:MN}{b:MS}{body:List Stmt}{E:XK}{cl:Str->Addr}{ρ:List (Addr×Obj)}{h:Heap}{msg:String}{scope:Scope}{js:List (Option Nat)}{wi:TI}{R1 R:Nat->AS}{Ox:AS}{c:MT}{g:MG}{fi:MI}{y:Str}
open PySem PySem.Spec PyProof.Rows
def tCs:List Addr->TA
 |[]=>oQ
 |C::r=>iL (tC (.ref C)) (tCs r)
theorem vS:∀(Cs:List Addr) {σ:St} {H:Hp} {Q:List V->Hp->Prop},Q (Cs.map V.ref) H->tCs Cs σ H Q
 |[],_,_,_,h=>h
 |_::r,_,_,_,h=>vS r h
def MK(K:zbS)(kn xs:List Str)(Cs:List Addr):List V->Hp->VK->Prop:=fun vs H Q=>∃(x:V) (O:AS) (a:D) (b:Bool) (l:Addr),vs=[x,.ref l]/\Ow K O H a 0 x NoA/\dh kn xs a=some (.bool b)/\H l=some (.tup (Cs.map V.ref))/\Q (.bl b) H
theorem tJ:∀{Cs:List Addr} {us:List Value},Vals (Cs.map V.ref) us->us=Cs.map Value.ref
 |[],_,.nil=>rfl
 |C::Cs,_,.cons h t=>by
  rw[tJ t];exact congrArg (·::Cs.map Value.ref) h
section
variable{d1:Nat}{xs:List Str}{Cs:List Addr}
def yC:PA X [] (tCs []):=pa_nil
def cR{T:Str}{q:Pos}(hg:Gl X T)(hm:X.mg T=some (.ref C))(hd:(T==("__debug__":Str))=false)(hr:PA X es (tCs Cs)):PA X (.Name T q::es) (tCs (C::Cs)):=
 ba (nK (v:=.ref C) hg hm rfl hd) hr (aD rfl)
def BE(ht:oP X.K kn xs (Cs.map Value.ref)=true):CallR X (.builtin "isinstance") (MK X.K kn xs Cs):=by
 intro ρ s σ H vs us Q I r h;obtain⟨x,O,a,b,l,rfl,oa,hb,hl,q⟩:=h;obtain⟨u,u2,rfl,r1,r2⟩:=r.two;cases r2;obtain⟨zl,its,rv,o,h3,h4,n,h5,_⟩:=(show ObjOk X.prog X.w H s.heap l (.tup (Cs.map V.ref))from I.hok l _ hl);have ei:=tJ rv;subst ei;obtain⟨oc,od,oda,os⟩:=o;cases h4;cases h5;obtain⟨z,y,C,rfl,hy,rfl,h1,h2⟩:=uH hb oa;cases r1;have t:=List.all_eq_true.mp ht y hy;rw[h1]at t;simp only[zbk,beq_iff_eq]at t;obtain⟨hx,_⟩:=(show ObjOk X.prog X.w H s.heap z (.ext (fS z C))from I.hok z _ h2);exact PySem.W.kia_tup (ux t.1) I.kIn hx h3 t.2 (fun z=>nomatch z) fun tk=>⟨.bl _,H,I.tok tk,rfl,q⟩
def K4(hK:X.K=K)(hg:Gl X "isinstance")(hm:X.mg "isinstance"=none)(hes:PA X es (tCs Cs))(ht:oP K kn xs (Cs.map Value.ref)=true)(hl:Cs.length<=63)(he:PE X e (tF K p ds ds1 d1 f))(hs:av e=true):
  PE X (.Call (.Name "isinstance" px) [e,.Tuple es kk tp] [] pos) (tF K p ds ds1 3 (e1 (dh kn xs) f)):=by
 subst hK;refine(fN (BE ht) hg hm boot_isinstance (ba he (ba (ua hes) pa_nil (aD rfl)) (aD hs)) (by decide) (by decide) (aD hs) (cf rfl)).imp fun σ H Q h=>?_;obtain⟨Ox,en,R,t,en',e,hf,k⟩:=h;unfold e1 at hf;obtain⟨⟨t1,en1⟩,h1,hf⟩:=zaa.mp hf;obtain⟨t',h3,hf⟩:=zab.mp hf;cases hf;obtain⟨b,rfl⟩:∃b,t=.bool b:=by
  unfold dh at h3;split at h3
  ·split at h3
   ·cases h3;exact⟨_,rfl⟩
   ·cases h3
  ·cases h3
 refine⟨Ox,en,R,t1,en1,e,h1,fun v H' R' F P o=>?_⟩;refine vS Cs ⟨by rw[zad];exact zau hl (by rw[sizeLine_eq];decide),fun q hq=>?_⟩;have g:=(bu (o:=.tup (Cs.map V.ref)) hq).1;refine⟨v,Own R' Ox,t1,b,q,rfl,Ow.mv (G:=NoA) ⟨fun a o e _=>g a o e,fun a z=>.inl z⟩ t1 (fun _ z=>z) (Ow.letgo P (fun _ z=>z) o),h3,aC,?_⟩;exact k _ _ R' NoA ((P.less (F':=NoA) fun _ z=>z.elim).fin ⟨g,fun _ z=>z.elim⟩) rfl
def uW(hK:X.K=K)(hg:Gl X "isinstance")(hm:X.mg "isinstance"=none)(hes:PA X es (tCs Cs))(ht:oP K kn xs (Cs.map Value.ref)=true)(hl:Cs.length<=63)(he:QE X e (tF K p ds ds1 d1 f))(hs:av e=true):
  QE X (.Call (.Name "isinstance" px) [e,.Tuple es kk tp] [] pos) (tF K p ds ds1 3 (e1 (dh kn xs) f)):=⟨K4 hK hg hm hes ht hl he.h hs⟩
end
def tXe(K:zbS)(ds:List Nat)(m:MN)(cl:Str->Addr)(E:XK):TE:=fun σ H _=>∃Ox en R x,EnvOk K ds Ox H σ en R/\m en=some x/\∀H',Reach H R H'->E (.ref (cl x)) none H'
def ph(i:Nat)(m:MN):MN:=fun en=>match (en[i]?).join with
 |some (.list _)=>m en
 |_=>none
def nWh(c:MT)(b:MS)(m:MN):Nat->MN
 |0,_=>none
 |n+1,en=>(c en).bind fun r=>if r.1=true then match m r.2 with
   |some x=>some x
   |none=>match b r.2 with
    |some (.nx en2)=>nWh c b m n en2
    |_=>none
  else none
def uj(c:MT)(b:MS)(m:MN):MN:=nWh c b m 100000
section
variable{dps:List Nat}{D:Ends}{cm:MT}{c:Expr}{fp cp ap xp μ:Pos}{sh:Sh}{fa:MA}{Rz:List L2.D->Option Str}{fx x:Str}{ps:List Str}{i k n:Nat}{T:String}
def vO(O:XOut X E)(GX:KnX X.prog X.w X.K X.mg X.base k fx ps (spN K dps cl Rz))(hr:Room k X.A)(hgf:Gl X fx)(ha:QA X (e::es) (tFA K true ds ds1 sh fa))(hcd:cO ds1 sh dps=true)(hdf:(fx==("__debug__":Str))=false)(he:av e=true)(hpl:es.all av=true):
  QE X (.Call (.Name fx fp) (e::es) [] cp) (tXe K ds (bf Rz fa) cl E):=
 ⟨fun ρ s σ H Q I h=>thn (gX (Dn:=⟨fun _ _=>True,fun _ _=>True,fun _ _=>True,fun _ _=>True⟩) O.at GX hr hgf ha hcd hdf he hpl I h) fun v s1 ⟨_,_,_,_,z⟩=>False.elim z⟩
def Lv(he:QE X e (tXe K ds m cl E))(hg:Gl X x)(hm:X.mg x=none)(hv:bootBuiltins x=some (.type T))(hn:x≠"__name__")(hdb:(x==("__debug__":Str))=false)(hs:av e=true):
  QE X (.Call (.Name x px) [e] [] pos) (tXe K ds m cl E):=
 ⟨(mz (r:=fun _ _ _=>False) (fun _ _ _ _ _ _ _ _ _ z=>z.elim) hg hm hv (ba he.h pa_nil (aD hs)) hn hdb (aD hs) (cf rfl)).imp fun _ _ _ h=>h⟩
def GT(hK:X.K=K)(hN:X.N[i]?=some x)(hv:Vis X.env.scope x)(he:QE X e (tXe K ds m cl E))(hd:(x==("__debug__":Str))=false)(hcd:(x==("__classdict__":Str))=false)
  (η:attributeBase (.Name x px) "append" X.env (eval (.Name x px) X.env)=eval (.Name x px) X.env) (hs:av e=true)
  (θ:(μ.endLine==cp.line)=true):
  QE X (.Call (.Attribute (.Name x px) "append" μ) [e] [] cp) (tXe K ds (ph i m) cl E):=by
 subst hK;have h1:starEach [e] X.env=[(false,eval e X.env)]:=aD hs;refine⟨(pT (r:=fun _ _ _ _=>False) PySem.F.plainAttrs_list PySem.F.slot_list_append PySem.F.type_list_append (fun _ _ _ _ _ _ _ _ _ _ _ _ z=>z.elim) (gk hN hv hd hcd) (ba he.h pa_nil h1) η (by rw[h1];rfl) θ h1 (cf rfl)).imp fun σ H Q h=>?_⟩;obtain⟨Ox,en,R,y,ee,hm,kk⟩:=h;unfold ph at hm;split at hm
 case h_2=>cases hm
 next ts0 h0=>
 obtain⟨v,d0,a1,_,a3⟩:=ee.at_ i _ (bo h0);obtain⟨l0,vs0,e0,sq⟩:=a3.sqL;refine⟨v,a1,?_,Ox,en,R,y,ee,hm,kk⟩;rw[e0];exact .inl ⟨rfl,vs0,sq⟩
def Gk(he:QE X e (tXe K ds m cl E))(hsw:swapsWith e (some (.Name x xp)) ap.line X.env=pure false):QS X (.Assign [.Name x xp] e ap) (tX K ds m cl E):=
 ⟨fun ρ s σ H D I h=>wpAny_Assign_Name (thn (he.h ρ s σ H (fun _ _=>False) I h) fun v s1 ⟨_,_,_,_,z⟩=>False.elim z) hsw⟩
def Gm(he:QE X e (tXe K ds m cl E))(hs:swapsWith e none ap.line X.env=pure false):QS X (.Expr e ap) (tX K ds m cl E):=
 ⟨fun ρ s σ H D I h=>v9 he.h hs ρ s σ H D I h⟩
def Bg(R:Rsx X E)(hc:QT X.nox c (tFT K p ds ds1 cm))(hb:QSs X.nox body (tFS K J ds1 ds b))(hm:QSs X body (tX K ds1 m cl E)):QS X (.While c body [] pos) (tX K ds (uj cm b m) cl E):=by
 refine⟨fun ρ s σ H D I h=>t9 (tb:=fun D σ H=>tFS K J ds1 ds b D σ H\/tX K ds1 m cl E D σ H) (by rw[R.xe];exact PassesOwn.leaving) hc.h.nox (fun ρ s σ H D I q=>q.elim (fun q=>hb.h.nox ρ s σ H D I q) fun q=>hm.h ρ s σ H D I q) ρ s σ H D I ?_⟩;obtain⟨Ox,en,R0,y,e,hf,k⟩:=h;refine⟨fun n σ' H'=>∃Ox en' R',EnvOk K ds Ox H' σ' en' R'/\nWh cm b m n en'=some y/\∀H'',Reach H' R' H''->E (.ref (cl y)) none H'',⟨_,Ox,en,R0,e,hf,k⟩,?_⟩;rintro n σ2 H2 ⟨Ox,en2,R2,e2,hr,k2⟩;cases n with
 |zero=>cases hr
 |succ n=>
  unfold nWh at hr;obtain⟨⟨bb,en3⟩,h3,hr⟩:=zaa.mp hr;cases bb with
  |false=>cases hr
  |true=>
  rw[if_pos rfl]at hr;refine⟨Ox,en2,R2,true,en3,e2,h3,fun H3 R3 P3=>?_⟩;show if true=true then _ else _
  rw[if_pos rfl];refine⟨_,fun σ' H' q=>⟨n,Nat.lt_succ_self _,q⟩,?_⟩
  dsimp only at hr
  cases hq:m en3 with
  |some z=>
   rw[hq]at hr;cases hr;exact .inr ⟨Ox,en3,R3,_,P3.env0,hq,fun H'' r=>k2 H'' (r.post P3)⟩
  |none=>
   rw[hq]at hr;cases hq2:b en3 with
   |none=>rw[hq2]at hr;cases hr
   |some fl=>
    rw[hq2]at hr;cases fl with
    |ct en5=>cases hr
    |rt t en5=>cases hr
    |nx en5=>
     exact .inl ⟨Ox,en3,R3,.nx en5,P3.env0,hq2,fun σ5 H5 R5 P5=>⟨Ox,en5,R5,P5.env0,hr,fun H'' r=>k2 H'' ((r.postS P5).post P3)⟩⟩
end
section
variable{s1 s':Shared} 
def Un.hid{fs:List Addr}{h1:Heap}(u:Un fs [] H H1 h h1)(l:List Addr):Un fs [] H H1 (cG h l) h1 where
 keep:=fun b o q=>u.keep b o (cT q).1
 slot:=fun b o q=>u.slot b o (cT q).1
 free:=fun b o q=>u.free b o (cT q).1
 there:=fun b o q=>u.there b o (cT q).1
 tups:=u.tups
 frzs:=u.frzs
 tbls:=u.tbls
def vG(I:Inv X ρ σ H1 s1)(ex:X.ex=[])(os:s'.os=s1.os)(bare:AllBare s'.gens)(un:Un (frs X.stack) [] H1 H' s1.heap s'.heap)(hok:HOk X.prog X.w H' s'.heap){a T:Addr}(ha:H' a=none)(hT:H' T=none)(hC:H' C=none)(na:s1.heap.get? a=none)(nT:s1.heap.get? T=none)(nC:s1.heap.get? C=none)
  {tk:Nat} (hk:∀b o,s'.heap.get? b=some o->b∉frs X.stack->b≠a->b≠T->b≠C->h.get? b=some o) (hf:∀b∈frs X.stack,∀o,s'.heap.get? b=some o->∃sl,h.get? b=some { o with slots:=sl }):
  Inv X ρ σ H' { heap:=h,gens:=s'.gens,drawn:=s'.drawn,toks:=tk,os:=s'.os }:=by
 have fn:∀b∈frs X.stack,H' b=none:=fun b hb=>by
  obtain⟨o,ho,_⟩:=bF I.stack b hb;exact un.free b o ho (I.frn ex b hb) (by simp)
 have ne:∀b o c,s1.heap.get? b=some o->s1.heap.get? c=none->b≠c:=fun b o c q n z=>by rw[z,n]at q;cases q
 have u2:Un (frs X.stack) [] H1 H' s1.heap h:=un.behind (fun b o' q0 o q hb=>hk b o q hb (ne b o' a q0 na) (ne b o' T q0 nT) (ne b o' C q0 nC)) fun b o' q0 o q hb=>hf b hb o q;have ho:HOk X.prog X.w H' h:=hok.tracked fun b u hb q=>hk b u q (fun z=>hb (fn b z)) (fun z=>hb (by rw[z];exact ha)) (fun z=>hb (by rw[z];exact hT)) fun z=>hb (by rw[z];exact hC);rw[os];exact I.call (ch:=[]) u2 ho bare fun _ z=>by cases z
def yQ{ev:Value}(R:Rsx X E)(hfs:X.fs=frs X.outer)(I:Inv X ρ σ H1 s1)(hc:CXr X.prog X.w X.stack H1 s1 E ev s'){oC:Obj}(cC:s1.heap.get? C=some oC)(cD:∀vs,oC.data≠.fields vs)(cH:H1 C=none)(cF:C∉frs X.stack)
  (cL:C≠X.env.locals) (cA:X.s₀.heap.objs.size<=C) (cE:∀x c,X.env.cells.lookup x=some c->c≠C) (cP:∀p∈X.pn++ρ,p.1≠C) {E3:Value->Shared->Prop}:
  wpAny (model X.prog X.w) X.A (noteFrame ev X.env) (fun _ s2=>(∃sl,s2.heap.get? C=some { oC with slots:=sl })/\∀h3 m3,h3.Ns C m3->Heap.SameBut C s2.heap h3->∀cenv:Env,cenv.frame=X.env.frame ->
   wpAny (model X.prog X.w) X.A (PySem.passOn msg ev cenv:Sem Value) (fun _ _=>False) X.xe { s2 with heap:=h3 }) E3 s':=by
 obtain⟨a,T,C0,H',rfl,hE,os,bare,un,hok,ha,hT,na,nT,⟨oe,vs,a0,q1,q2,q3,q4,q5⟩,⟨oT,ts,q6,q7,q8⟩,hne⟩:=hc;have cH':H' C=none:=un.free C oC cC cH (by simp);have cS:s'.heap.get? C=some oC:=un.keep C oC cC cH cF (by simp);have ca:C≠a:=fun z=>by rw[z,na]at cC;cases cC
 have I':Inv X ρ σ H1 { s1 with heap:=cG s1.heap [C] }:=I.turned (t':=s1.toks) (fun b o hb q=>cB q (by simpa using hb)) cH cL (.inr cA) cE cP;have fh:s'.heap.FunFrames X.base X.stack:=dW (fun b hb o ho=>un.any ho (I.frn R.ex b hb) (by simp)) I.stack;have fB:s'.heap.FunFrames (cG s'.heap (frs X.stack++[a,T,C])) X.stack:=gf fh fun b hb=>bi (zbe _ hb);have frames:X.A.frames=some (X.env::X.outer):=by rw[<-R.stk];exact I.ok.frames
 refine wpAny_noteFrame_onW (base:=cG s'.heap (frs X.stack++[a,T,C])) (cls:=.ref C0) (a0:=a0) frames (by rw[<-R.stk];exact fB) R.fr ⟨oe,vs,T,oT,ts,q1,⟨q2,q4⟩,q3,q5,bi (by simp),hne,q6,q7,q8⟩ (fun b o q=>(cT q).1) (bi (by simp)) fun h2 ⟨st2,f2,⟨oe3,vs3,T3,oT3,ts3,g1,⟨g2,g3⟩,g4,g5,g6,g7,g8,g9,g10⟩,nf2⟩=>?_;obtain⟨slC,c2⟩:=nf2 C oC cS cD;refine⟨⟨slC,c2⟩,fun h3 m3 hn3 hs cenv hcf=>?_⟩;have st3:(cG s'.heap (frs X.stack++[a,T,C])).StaysIn h3:=fun b o q=>(hs.2 b fun z=>by rw[z,bi (by simp)]at q;cases q).trans (st2 b o q);have cT3:T3≠C:=fun z=>by
  rw[z,c2]at g8;cases g8;exact cD ts3 g9
 have e1:h3.get? a=some oe3:=(hs.2 a (Ne.symm ca)).trans g1;have e2:h3.get? T3=some oT3:=(hs.2 T3 cT3).trans g8;have tr3:h3.TracedAtW (cG s'.heap (frs X.stack++[a,T,C])) a (.ref C0) a0 (rawInt X.env.locals):=⟨oe3,vs3,T3,oT3,ts3,e1,⟨g2,g3⟩,g4,g5,g6,g7,e2,g9,g10⟩;have f3:h3.FunFrames (cG s'.heap (frs X.stack++[a,T,C])) (X.env::X.outer):=dW (fun b hb o ho=>⟨o.slots,(hs.2 b fun z=>cF (by rw[<-z,R.stk];exact hb)).trans ho⟩) f2;have sz3:3<ts3.size:=(Array.getElem?_eq_some_iff.mp g10).1;unfold PySem.passOn;refine zam (wpAny_field e1 g4 g5 ?_);rw[if_neg (show ¬((Value.ref T3==Value.none)=true)from by simp)];have step:wpAny (model X.prog X.w) X.A (setFlight (.ref a) cenv.frame >>= fun _=>(throw (.ref a):Sem Value)) (fun _ _=>False) X.xe { s' with heap:=h3 }:=by
  rw[hcf,R.fr];unfold setFlight;refine zam (zam (wpAny_field e1 g4 g5 ?_));rw[if_pos (show(Value.ref T3 != Value.none)=true from by simp)];show wpAny _ _ (setField (.ref T3) 3 (rawInt X.env.locals)) _ _ _;refine wpAny_setField e2 g9 sz3 ?_;rw[Heap.update_setField_same h3 T3 oT3 ts3 3 (rawInt X.env.locals) e2 g9 g10];refine wpAny_throw ?_;rw[R.xe];unfold leaving;refine zam (wpAny_noteFrame_againW R.fr tr3 ?_);refine wpAny_setFlight_noneW (l:=X.env::X.outer) st3 f3 tr3 fun h5 st5 f5 ⟨oe5,vs5,T5,oT5,ts5,k1,⟨k2,k3⟩,k4,k5,k6,k7,k8,k9,k10⟩ nf5=>?_;have old:∀b o,s'.heap.get? b=some o->b∉frs X.stack->b≠a->b≠T->b≠C->h5.get? b=some o:=fun b o q z1 z2 z3 z4=>st5 b o (cB q fun z=>by
   rcases zax.mp z with z|z
   ·exact z1 z
   ·have z':b=a\/b=T\/b=C:=by simpa using z
    exact z'.elim z2 fun z'=>z'.elim z3 z4)
  have nf:∀b o,s'.heap.get? b=some o->(∀vs,o.data≠.fields vs)->b≠C->∃sl,h5.get? b=some { o with slots:=sl }:=fun b o q z hb=>by
   obtain⟨sl,q2⟩:=nf2 b o q z;exact⟨sl,nf5 b _ ((hs.2 b hb).trans q2) z⟩
  have nfr:∀b∈frs X.stack,b≠C:=fun b hb z=>cF (z▸hb);have I5:Inv X ρ σ H' { heap:=h5,gens:=s'.gens,drawn:=s'.drawn,toks:=s'.toks,os:=s'.os }:=vG I' R.ex os bare (un.hid [C]) hok ha hT cH'
   (by cases q:(cG s1.heap [C]).get? a with|none=>rfl|some o=>rw[(cT q).1]at na;cases na)
   (by cases q:(cG s1.heap [C]).get? T with|none=>rfl|some o=>rw[(cT q).1]at nT;cases nT) (bi (by simp)) old fun b hb o q=>by
    obtain⟨o2,z1,z2⟩:=bF fh b hb;rw[q]at z1;cases z1;exact nf b o q z2 (nfr b hb)
  have un5:=I5.base;rw[R.ex,hfs]at un5;have un1:=I.base;rw[R.ex]at un1;have back:∀b,s1.heap.get? b=none->X.s₀.heap.get? b=none:=fun b q=>by
   cases q2:X.s₀.heap.get? b with
   |none=>rfl
   |some o=>
    obtain⟨o',z⟩:=un1.there b o q2 (by simp);rw[q]at z;cases z
  have hT5:H' T5=none/\X.s₀.heap.get? T5=none:=by
   by_cases e:T5=T
   ·rw[e];exact⟨hT,back T nT⟩
   ·have n5:s'.heap.get? T5=none:=by
     cases q:s'.heap.get? T5 with
     |none=>rfl
     |some o=>
      have hm:T5∈frs X.stack++[a,T,C]:=Decidable.byContradiction fun hn=>by
       rw[cB q hn]at k6;cases k6
      rcases zax.mp hm with z|z
      ·obtain⟨o2,z1,z2⟩:=bF fh T5 z;obtain⟨sl,z3⟩:=nf T5 o2 z1 z2 (nfr T5 z);rw[k8]at z3;cases z3;exact absurd k9 (z2 ts5)
      ·have z':T5=a\/T5=T\/T5=C:=by simpa using z
       rcases z' with z|z|z
       ·exact absurd z k7
       ·exact absurd z e
       ·obtain⟨o3,es3,ep3,z1,z2,_⟩:=hn3;have z3:=nf5 C o3 z1 fun vs zz=>by rw[z2]at zz;cases zz
        rw[z,z3]at k8;cases k8;rw[z2]at k9;cases k9
    refine⟨hok.none n5,back T5 ?_⟩;cases q:s1.heap.get? T5 with
    |none=>rfl
    |some o=>
     obtain⟨o',z⟩:=un.there T5 o q (by simp);rw[n5]at z;cases z
  exact⟨a,T5,C0,H',rfl,hE,I5.os,bare,un5,I5.hok,ha,hT5.1,back a na,hT5.2,⟨⟨oe5,vs5,a0,k1,k2,k4,k3,k5⟩,⟨oT5,ts5,k8,k9,k10⟩,k7⟩⟩
 first
  |exact zam (zaT step)
  |exact step
end
def cRX(X:Cx)(msg:String)(C:Addr)(r:Result)(s':Shared):Prop:=match r with
 |.ok _=>False
 |.error x=>∃m,s'.heap.Ns C m/\∀h3 m3,h3.Ns C m3->Heap.SameBut C s'.heap h3->∀cenv:Env,cenv.frame=X.env.frame->wpAny (model X.prog X.w) X.A (PySem.passOn msg x cenv:Sem Value) (fun _ _=>False) X.xe { s' with heap:=h3 }
section
variable{g:TG}{tt:TT}{te:TE} 
def AQ{s2:Shared}{J:It}{fp:List Addr}{it:Addr}{tn:Nat->Heap->Prop}
  (R:Rsx X E) (B:BlkOkC X scope ns js) (I2:Inv X ρ σ H2 s2) (T:Turn X.prog X.w X.K tg J fp it tn) (st2:tn 0 s2.heap) (f2:∀b∈fp,fW X ρ H2 b)
  (hg:∀C cl s₀ H₀ fp,PG (au X scope ns C cl s₀ H₀ fp) tg g) (ht:∀C cl s₀ H₀ fp,PTs (au X scope ns C cl s₀ H₀ fp) ifs tt) (he:∀C cl s₀ H₀ fp xb,XOut ((au X scope ns C cl s₀ H₀ fp).wish xb) E->PE ((au X scope ns C cl s₀ H₀ fp).wish xb) elt te)
  (hw:∀D,H2 D=none->nP J g tt te (ce js σ) H2 D fun _ _=>False):
  wpAny (model X.prog X.w) X.A (newList []) (fun acc s₃=>wpAny (model X.prog X.w) X.A (newFunctionEnv scope X.env.globals (bP X.env scope.names) [] X.env.qual none .none (some X.env)) (fun cenv s₄=>
   cenv.frame=X.env.frame/\codeAny (model X.prog X.w) X.A (.compStart (.ListComp elt [⟨tg,iter,ifs,0⟩] scope pos) 0 (.ref it) acc { cenv with scope:=relabel scope X.env }) (cRX X msg cenv.locals) s₄) X.xe s₃) X.xe s2:=by
 have hc:=R.calm;refine wpAny_newObj_type (fj ⟨rfl,?_⟩)
 dsimp only
 have I3:Inv X ρ σ (upd H2 s2.heap.objs.size (.lst [])) { s2 with heap:=s2.heap.push { cls:=.type "list",data:=.seq ([]:List Value).toArray },toks:=s2.toks }:=I2.lnew .nil (zbh _);generalize hs3:({ s2 with heap:=s2.heap.push { cls:=.type "list",data:=.seq ([]:List Value).toArray },toks:=s2.toks }:Shared)=s3 at I3;have e3:s3.heap=s2.heap.push { cls:=.type "list",data:=.seq ([]:List Value).toArray }:=by rw[<-hs3]
 have k3:∀b u,s2.heap.get? b=some u->s3.heap.get? b=some u:=fun b u e=>by rw[e3];exact zaf _ e
 have sz3:s3.heap.objs.size=s2.heap.objs.size+1:=by rw[e3,zbr]
 have hD:H2 s2.heap.objs.size=none:=I2.fresh;obtain⟨h₁,hh₁⟩:∃h₁,h₁=pushCells (s3.heap.push { cls:=.type "dict",data:=.dict #[] }) scope.names:=⟨_,rfl⟩;have old:∀b u,s3.heap.get? b=some u->h₁.get? b=some u:=fun b u e=>by
  rw[hh₁];exact pushCells_keeps _ _ b u (zaf _ e)
 have hns:h₁.Ns s3.heap.objs.size (fun _=>none):=by
  rw[hh₁];exact(Heap.Ns.new s3.heap (.type "dict")).keeps (pushCells_keeps _ _)
 have cok:CellsOk h₁ (s3.heap.objs.size+1) (cellsFrom (s3.heap.objs.size+1) scope.names []):=by
  have q:=cellsFrom_ok scope.names (s3.heap.push { cls:=.type "dict",data:=.dict #[] }) (s3.heap.objs.size+1) [] ⟨fun _ _ hm=>(nomatch hm),List.Pairwise.nil⟩ (by rw[zbr];exact zav _);rw[zbr,<-hh₁]at q;exact q
 have obj2:∀b∈fp,b<s2.heap.objs.size:=fun b hb=>let⟨o,e,_⟩:=T.obj 0 _ st2 b hb;zal e;have f3:∀b∈fp,fW X ρ (upd H2 s2.heap.objs.size (.lst [])) b:=fun b hb=>⟨by rw[aG (zaw (obj2 b hb))];exact(f2 b hb).1,(f2 b hb).2⟩;have lt3:∀b∈fp,b<s3.heap.objs.size:=fun b hb=>by rw[sz3];exact Nat.lt_succ_of_lt (obj2 b hb)
 obtain⟨W,⟨m0,w0⟩,turn⟩:=hw _ hD;have J0:=fun tk=>u6 (tk:=tk) B I3 f3 lt3 hns old cok;have has:∀y∈scope.names,y.2=.free->∃c,X.env.cells.lookup y.1=some c:=fun y hy hk=>I2.ok.has y.1 (B.free y hy hk);have stat:∀{H':Hp},(∀b∈fp,H' b=none)->∀b∈fp,fW (au X scope ns s3.heap.objs.size (cellsFrom (s3.heap.objs.size+1) scope.names (bP X.env scope.names)) s3 (upd H2 s2.heap.objs.size (.lst [])) fp) [] H' b:=fun hn b hb=>
  ⟨hn b hb,zaw (lt3 b hb),(J0 0).ok.exfs b hb,.inl hb,fun x c e=>(J0 0).ok.exf b hb |>.2 x c e,fun p hp=>absurd (show p∈([]:List (Addr×Obj))from hp) (by simp)⟩
 have fin:∀{pins':List (Addr×Obj)} {τ:St} {H':Hp} {s':Shared} {ev:Value} {s4:Shared},Inv (au X scope ns s3.heap.objs.size (cellsFrom (s3.heap.objs.size+1) scope.names (bP X.env scope.names)) s3 (upd H2 s2.heap.objs.size (.lst [])) fp) pins' τ H' s'->CXr X.prog X.w X.stack H' s' E ev s4->notedBy (model X.prog X.w) X.A (compEnvC scope (cellsFrom (s3.heap.objs.size+1) scope.names (bP X.env scope.names)) s3.heap.objs.size X.env) (fun e s'=>cRX X msg s3.heap.objs.size (.error e) s') ev s4:=fun {pins' τ H' s' ev s4} I6 hcx=>by
  have u1:Un (frs X.stack) fp H2 (upd H2 s2.heap.objs.size (.lst [])) s2.heap s3.heap:=Un.laid k3 (zav _) hD;have os3:s3.os=s2.os:=by rw[<-hs3]
  have I7:Inv X ρ σ H' s':=I2.call' (ch:=fp) (I6.os.trans os3) (u1.trans I6.base) I6.hok I6.bare fun b hb=>⟨(f2 b hb).2.2.2.1,(f2 b hb).2.1,(f2 b hb).2.2.2.2.1,(f2 b hb).2.2.2.2.2⟩;have le2:s2.heap.objs.size<=s3.heap.objs.size:=by rw[sz3];exact Nat.le_succ _
  obtain⟨m,⟨oC,es,ep,z1,z2,z3⟩,_⟩:=I6.loc;refine wpAny_mono (yQ (msg:=msg) R rfl I7 hcx (C:=s3.heap.objs.size) z1 (fun vs q=>by rw[z2]at q;cases q) I6.free (fun q=>?_) (Nat.ne_of_gt (zag I2.lt le2)) (zau I2.sz le2) (fun x c e z=>?_) (fun p hp z=>?_) (E3:=fun _ _=>False)) (fun _ s5 ⟨⟨sl,c2⟩,kk⟩=>⟨m,⟨_,es,ep,c2,z2,z3⟩,kk⟩) fun _ _ z=>z.elim
  ·obtain⟨o,q1,_⟩:=bF I2.stack _ q;exact absurd (zag (zal q1) le2) (zaI _)
  ·obtain⟨v,hv⟩:=I2.cell x c e;exact absurd (zag hv.lt (by rw[z];exact le2)) (zaI _)
  ·exact absurd (zag (zal (I2.pin p hp).1) (by rw[z];exact le2)) (zaI _)
 rw[<-e3,<-hh₁];have loop:∀tk,codeAny (model X.prog X.w) X.A (.compLoop (.ListComp elt [⟨tg,iter,ifs,0⟩] scope pos) 0 (.ref it) (.ref s2.heap.objs.size) (compEnvC scope (cellsFrom (s3.heap.objs.size+1) scope.names (bP X.env scope.names)) s3.heap.objs.size X.env))
   (cRX X msg s3.heap.objs.size) { s3 with heap:=h₁,toks:=tk }:=fun tk=>by
  refine codeAny_loop rfl (fun n s'=>∃i τ H',Inv (au X scope ns s3.heap.objs.size (cellsFrom (s3.heap.objs.size+1) scope.names (bP X.env scope.names)) s3 (upd H2 s2.heap.objs.size (.lst [])) fp) [] τ H' s'/\tn i s'.heap/\(∀b∈fp,H' b=none)/\W i n τ H') (fun n s5 hI=>?_) m0
   ⟨0,_,_,J0 tk,T.keep _ _ _ st2 fun b _ o e=>old b o (k3 b o e),fun b hb=>(f3 b hb).1,w0⟩
  obtain⟨i,τ,H5,I5,st5,fr5,w5⟩:=hI;show wpAny _ X.A ((compTurn (.ListComp elt [⟨tg,iter,ifs,0⟩] scope pos) 0 (.ref it) (.ref s2.heap.objs.size) (compEnvC scope (cellsFrom (s3.heap.objs.size+1) scope.names (bP X.env scope.names)) s3.heap.objs.size X.env)).onRaise (fun x=>do noteFrame x (compEnvC scope (cellsFrom (s3.heap.objs.size+1) scope.names (bP X.env scope.names)) s3.heap.objs.size X.env);theTreesLotGoes x)) _ _ s5;refine wpAny_noted ?_;rw[compTurn_list];refine zam (wpAny_standAt (zam ?_));rcases turn i n τ H5 w5 with⟨stop,qn⟩|⟨go,N,hN,step⟩
  ·exact qn.elim
  ·refine thn (T.item (au X scope ns s3.heap.objs.size (cellsFrom (s3.heap.objs.size+1) scope.names (bP X.env scope.names)) s3 (upd H2 s2.heap.objs.size (.lst [])) fp) rfl rfl rfl hc i [] s5 τ H5 _ I5 (stat fr5) st5 go) ?_;rintro r s6 ⟨u,hr,h6⟩;subst hr
   dsimp only
   refine zam (thn h6 fun _ s7 ⟨x,H7,I7,r7,y7,st7,fr7⟩=>?_);have I7':=I7.pinned (stat fr7) (T.obj _ _ st7);have back:∀{τ9:St} {H9:Hp} {s9:Shared},Inv (au X scope ns s3.heap.objs.size (cellsFrom (s3.heap.objs.size+1) scope.names (bP X.env scope.names)) s3 (upd H2 s2.heap.objs.size (.lst [])) fp) ([]++ku fp s7.heap) τ9 H9 s9 ->
     Inv (au X scope ns s3.heap.objs.size (cellsFrom (s3.heap.objs.size+1) scope.names (bP X.env scope.names)) s3 (upd H2 s2.heap.objs.size (.lst [])) fp) [] τ9 H9 s9/\tn (i+1) s9.heap/\∀b∈fp,H9 b=none:=fun {τ9 H9 s9} I9=>by
    refine⟨I9.unpinned,T.keep _ _ _ st7 fun b hb o e=>(I9.pin (b,o) (zbf _ (zbf _ (eV hb e)))).1,fun b hb=>?_⟩;obtain⟨o,e,d⟩:=T.obj _ _ st7 b hb;exact(I9.pin (b,o) (zbf _ (zbf _ (eV hb e)))).2.1
   refine zam (thF (hg _ _ _ _ _ _ s7 τ H7 x u _ I7' r7 (step x H7 y7)) fun _ s8 ⟨τ8,H8,I8,q8⟩=>?_);refine zam (thF (ht _ _ _ _ _ _ s8 τ8 H8 _ I8 q8) fun b s9 ⟨H9,I9,q9⟩=>?_);cases b with
   |false=>
    rw[if_neg zbl]at q9;obtain⟨m',hm,w9⟩:=hN _ _ q9;obtain⟨a1,a2,a3⟩:=back I9;exact zaT ⟨rfl,m',hm,i+1,τ8,H9,a1,a2,a3,w9⟩
   |true=>
    rw[if_pos rfl]at q9;refine zam (zam (thn (he _ _ _ _ _ _ ⟨fun I hcx=>fin I.unwish hcx⟩ _ s9 τ8 H9 _ (I9.wish _) q9) fun v s10 ⟨y,H10,I10,r10,q10⟩=>?_))
    replace I10:=I10.unwish
    obtain⟨xs,hx,hz,n10⟩:=q10;obtain⟨m',hm,w10⟩:=hN _ _ n10;refine zam (thF (mF _ s10 τ8 H10 (.ref s2.heap.objs.size) [y] (.ref s2.heap.objs.size) [v] (fun _ H11=>W (i+1) m' τ8 H11) I10 rfl (.cons r10 .nil) ⟨_,xs,y,rfl,rfl,hx,hz,w10⟩) fun _ s11 ⟨_,H11,I11,_,q11⟩=>?_);obtain⟨a1,a2,a3⟩:=back I11;exact zaT (zaT ⟨rfl,m',hm,i+1,τ8,H11,a1,a2,a3,q11⟩)
 have hst1:tn 0 h₁:=T.keep _ _ _ st2 fun b _ o e=>old b o (k3 b o e);subst hs3;exact codeAny_compStart_list (loop _) (T.self _ 0 _ _ _ hst1 (loop _))
def xP{first newAcc:Sem Value}{gg:Comprehension}{gs:List Comprehension}{cl:List (Str×Addr)}{s:Shared}{Q:Value->Shared->Prop}(hcl:clausesOf e=gg::gs)(hs:∀x,foldedSetIterable gg.iter X.env x=pure x)(hclos:closureFor scope X.env=pure cl)
  (hk:scope.kind=.function) (hnm:∀x∈scope.names,x.2=.local->scope.names.lookup x.1=some .local)
  (h:wpAny (model X.prog X.w) X.A first (fun x s1=>wpAny (model X.prog X.w) X.A (pyIter x) (fun it s2=>wpAny (model X.prog X.w) X.A newAcc (fun acc s3=>wpAny (model X.prog X.w) X.A (newFunctionEnv scope X.env.globals cl [] X.env.qual none .none (some X.env)) (fun cenv s4=>
   cenv.frame=X.env.frame/\codeAny (model X.prog X.w) X.A (.compStart e 0 it acc { cenv with scope:=relabel scope X.env }) (cRX X "comprehension.variables-let-go" cenv.locals) s4) X.xe s3) X.xe s2) X.xe s1) X.xe s):
  wpAny (model X.prog X.w) X.A (comprehension e scope X.env pos newAcc false first none) Q X.xe s:=by
 unfold comprehension;rw[hclos,hcl];refine zam (thn h fun x s1 h1=>?_);refine zam (wpAny_standAt (zam (wpAny_of_eq (hs x) ?_)));refine zam (zbM (thn h1 fun it s2 h2=>?_));refine wpAny_standIf (zam (thn h2 fun acc s3 h3=>?_));refine zam (zaT (zam (thn h3 fun cenv s4 h4=>?_)));obtain⟨hf,h4⟩:=h4
 dsimp only
 refine zbM (zam (wpAny_attempt (zbM (wpAny_run (codeAny_mono h4 fun r s5 hr=>?_)))));cases r with
 |ok f=>exact False.elim hr
 |error x=>
  obtain⟨m,hn,hr⟩:=hr;exact zam (zbM (wpAny_comp_letGo (cenv:={ cenv with scope:=relabel scope X.env }) hk _ s5 m (fun y hy hl=>lookup_relabel_local (hnm y (zby.mp (List.mem_reverse.mp hy)).1 hl)) hn fun h' m' hn' hs'=>wpAny_mono (hr h' m' hn' hs' _ hf) (fun _ _ z=>z.elim) fun _ _ y=>y))
def IY(wi:TI)(g:TG)(tt:TT)(te:TE)(js:List (Option Nat)):TE:=fun σ H _=>wi σ H fun J H1=>∀D,H1 D=none->nP J g tt te (ce js σ) H1 D fun _ _=>False
def JK(R:Rsx X E)(B:BlkOkC X scope ns js)(hi:PI X tg iter wi)
  (hg:∀C cl s₀ H₀ fp,PG (au X scope ns C cl s₀ H₀ fp) tg g) (ht:∀C cl s₀ H₀ fp,PTs (au X scope ns C cl s₀ H₀ fp) ifs tt) (he:∀C cl s₀ H₀ fp xb,XOut ((au X scope ns C cl s₀ H₀ fp).wish xb) E->PE ((au X scope ns C cl s₀ H₀ fp).wish xb) elt te)
  (hs:∀x,foldedSetIterable iter X.env x=pure x):PE X (.ListComp elt [⟨tg,iter,ifs,0⟩] scope pos) (IY wi g tt te js):=by
 intro ρ s σ H Q I h;rw[eval_ListComp];refine xP rfl hs (lH (scope:=scope) (env:=X.env) fun y hy hk=>I.ok.has y.1 (B.free y hy hk)) B.kind B.names (thn (hi ρ s σ H _ I h) fun v s1 h1=>thn h1 fun itv s2 h2=>?_);obtain⟨it,fp,tn,J,H2,e,I2,T,st2,f2,hw⟩:=h2;subst e;exact AQ R B I2 T st2 f2 hg ht he hw
end
def nLF(g:MG)(c:MT)(f:ME)(m:MN):List D->MN
 |[],_=>none
 |t::ts,en=>(g t en).bind fun en1=>(c en1).bind fun r=>if r.1=true then match m r.2 with
   |some x=>some x
   |none=>(f r.2).bind fun q=>nLF g c f m ts q.2
  else nLF g c f m ts r.2
def nLC(fi:MI)(g:MG)(c:MT)(f:ME)(m:MN)(js:List (Option Nat)):MN:=fun en=>(fi en).bind fun r=>if r.1.length<=sizeLine then nLF g c f m r.1 (bZ js r.2)else none
structure Bk(H1:Hp)(R1:Nat->AS)(H:Hp)(R:Nat->AS):Prop where
 kp:∀a o,H1 a=some o->(∀j,¬R1 j a)->H a=some o
 ow:∀i a,R i a->(∃j,R1 j a)\/H1 a=none
 dm:∀a o,H1 a=some o->∃o',H a=some o'
def Bk.step{R':Nat->AS}(b:Bk H1 R1 H R)(keep:∀a o,H a=some o->(∀i,¬R i a)->H' a=some o)(own:∀i a,R' i a->(∃i,R i a)\/H a=none)(dom:∀a o,H a=some o->∃o',H' a=some o'):Bk H1 R1 H' R' where
 kp:=fun a o q n=>keep a o (b.kp a o q n) fun i z=>(b.ow i a z).elim (fun⟨j,z⟩=>n j z) fun z=>by rw[q]at z;cases z
 ow:=fun i a z=>by
  rcases own i a z with⟨j,z⟩|z
  ·exact b.ow j a z
  ·cases q:H1 a with
   |none=>exact .inr rfl
   |some o=>
    obtain⟨o',q'⟩:=b.dm a o q;rw[z]at q';cases q'
 dm:=fun a o q=>let⟨o',q'⟩:=b.dm a o q;dom a o' q'
def Bk.reach(b:Bk H1 R1 H R)(r:Reach H R H'):Reach H1 R1 H':=
 ⟨fun a o q n=>r.keep a o (b.kp a o q n) fun i z=>(b.ow i a z).elim (fun⟨j,z⟩=>n j z) fun z=>(by rw[q]at z;cases z),fun a o q=>let⟨o',q'⟩:=b.dm a o q;r.dom a o' q'⟩
section
variable{en en1:En}{Q:VK} 
def FB{J:It}{ts:List L2.D}{D:Addr}(hc:eh ds1 js dsi=true)(P1:Post K p ds1 Ox σ H en R en1 H1 R1 NoA)(wk:mY K (Own R1 Ox) H1 J ts)(hD:H1 D=none)(hz:ts.length<=sizeLine)(h2:nLF g c f m ts (bZ js en1)=some y)
  (k:∀H',Reach H1 R1 H'->E (.ref (cl y)) none H'):nP J (tFG K lk dsi dsi g) (tFT K q dsi dsi c) (fun σ H Q=>tF K q dsi dsi cd f σ H Q\/tXe K dsi m cl E σ H Q) (ce js σ) H1 D fun _ _=>False:=by
 obtain⟨cl',c1,c2⟩:=lJ hc;have E1:=P1.env0;have ri1:∀k j:Nat,js[k]?=some (some j)->mV js R1 k=R1 j:=fun k j z=>wD z;have ric:∀(k:Nat) a,mV js R1 k a->∃j,js[k]?=some (some j)/\R1 j a:=fun k a z=>wC z;generalize mV js R1=RI at ri1 ric;let OxI:AS:=fun a=>Ox a\/a=D\/∃i,R1 i a/\∀k:Nat,js[k]?≠some (some i);have DO:OxI D:=.inr (.inl rfl);have u2:∀a o,H1 a=some o->upd H1 D (.lst []) a=some o:=fun a o q=>(bu (o:=.lst []) hD).1 a o q;have EI:EnvOk K dsi OxI (upd H1 D (.lst [])) (ce js σ) (bZ js en1) RI:=by
  refine⟨fun k t hk=>?_,fun k k' a z z'=>?_,fun k a z z2=>?_,fun a z=>?_,by unfold bZ ce;rw[zad,zad],by unfold ce;rw[cl',zad]⟩
  ·unfold bZ at hk;rw[zao]at hk;obtain⟨oj,hj,ht⟩:=zab.mp hk;cases oj with
   |none=>cases ht
   |some j=>
   obtain⟨v,d,g1,g2,g3⟩:=E1.at_ j t (bo ht);obtain⟨d',q1,q2⟩:=c1 k j hj;rw[g2]at q2;cases q2;refine⟨v,d,?_,q1,?_⟩
   ·unfold ce;rw[zao,hj];show some ((σ[j]?).join)=_;rw[g1];rfl
   rw[ri1 k j hj];refine Ow.mv (G:=R1 j) ⟨fun a o q _=>u2 a o q,fun a z=>?_⟩ t (fun _ z=>z) g3;rcases z with⟨k',z⟩|z|z|⟨i,z,_⟩
   ·obtain⟨j',_,z⟩:=ric k' a z;exact .inl (.inl ⟨j',z⟩)
   ·exact .inl (.inr z)
   ·exact .inr (z▸hD)
   ·exact .inl (.inl ⟨i,z⟩)
  ·obtain⟨j,hj,z⟩:=ric k a z;obtain⟨j',hj',z'⟩:=ric k' a z'
   have:=E1.dj j j' a z z';subst this;exact c2 k k' j hj hj'
  ·obtain⟨j,hj,z⟩:=ric k a z;rcases z2 with z2|z2|⟨i,z2,n⟩
   ·exact E1.dx j a z z2
   ·obtain⟨o,q⟩:=E1.dom a (.inl ⟨j,z⟩);rw[z2,hD]at q;cases q
   ·have:=E1.dj j i a z z2;subst this;exact n k hj
  ·rcases z with⟨k,z⟩|z|z|⟨i,z,_⟩
   ·obtain⟨j,hj,z⟩:=ric k a z;obtain⟨o,q⟩:=E1.dom a (.inl ⟨j,z⟩);exact⟨o,u2 a o q⟩
   ·obtain⟨o,q⟩:=E1.dom a (.inr z);exact⟨o,u2 a o q⟩
   ·subst z;exact⟨_,aC⟩
   ·obtain⟨o,q⟩:=E1.dom a (.inl ⟨i,z⟩);exact⟨o,u2 a o q⟩
 refine⟨fun i n τ H'=>∃eni RI' vs,n=ts.length-i/\i<=ts.length/\EnvOk K dsi OxI H' τ eni RI'/\H' D=some (.lst vs)/\vs.length<=i/\nLF g c f m (ts.drop i) eni=some y/\Bk H1 R1 H' RI',
  ⟨_,bZ js en1,RI,[],rfl,zbh _,EI,aC,zbh _,h2,⟨fun a o q _=>u2 a o q,fun i a z=>let⟨j,_,z⟩:=ric i a z;.inl ⟨j,z⟩,fun a o q=>⟨o,u2 a o q⟩⟩⟩,?_⟩
 rintro i n τ H2 ⟨eni,RI2,vs,rfl,hi,e2,hDl,hvl,hr,bk⟩;by_cases hlt:i<ts.length
 case neg=>
  rw[List.drop_eq_nil_of_le (by omega)]at hr;cases hr
 obtain⟨w1,-⟩:=wk i H2 (Own RI2 OxI) (fun a o q z=>bk.kp a o q fun j zj=>z (.inl ⟨j,zj⟩)) (fun a z=>by
  rcases z with⟨k,z⟩|z|z|⟨i,z,_⟩
  ·exact(bk.ow k a z).imp .inl id
  ·exact .inl (.inr z)
  ·exact .inr (z▸hD)
  ·exact .inl (.inl ⟨i,z⟩)) fun a z=>e2.dom a z
 obtain⟨go,yl⟩:=w1 ts[i] (zak hlt);rw[zbI hlt]at hr;obtain⟨en3,h3,hr⟩:=zaa.mp hr;obtain⟨⟨b,en4⟩,h4,hr⟩:=zaa.mp hr;refine .inr ⟨go,fun τ' H'=>∃eni RI' vs,EnvOk K dsi OxI H' τ' eni RI'/\H' D=some (.lst vs)/\vs.length<=i+1/\nLF g c f m (ts.drop (i+1)) eni=some y/\Bk H1 R1 H' RI',
  fun τ' H' ⟨eni,RI',vs,x1,x2,x3,x4,x5⟩=>⟨_,by omega,eni,RI',vs,rfl,hlt,x1,x2,x3,x4,x5⟩,fun x H3 yy=>?_⟩
 obtain⟨gr,ox⟩:=yl x H3 yy;have P3:Post K true dsi OxI τ H2 eni RI2 eni H3 RI2 NoA:=Post.new e2 gr fun _ z=>z.elim;have b3:Bk H1 R1 H3 RI2:=bk.step (fun a o q _=>gr a o q) (fun i a z=>.inl ⟨i,z⟩) fun a o q=>⟨o,gr a o q⟩;have d3:=gr D _ hDl;refine⟨OxI,eni,RI2,ts[i],en3,P3.env0,ox,h3,fun τ4 R4 P4 r4=>?_⟩;have b4:Bk H1 R1 H3 R4:=b3.step P4.keep (fun i a z=>P4.own a (.inr ⟨i,z⟩)) P4.dom;refine⟨OxI,en3,R4,b,en4,P4.env0,h4,fun H5 R5 P5=>?_⟩;have b5:Bk H1 R1 H5 R5:=b4.step P5.keep (fun i a z=>P5.own a (.inr ⟨i,z⟩)) P5.dom;have d5:=P5.keep D _ d3 fun i z=>P4.env0.dx i D z DO;cases b with
 |false=>
  dsimp only
  rw[if_neg zbl];exact⟨en4,R5,vs,P5.env0,d5,Nat.le_succ_of_le hvl,hr,b5⟩
 |true=>
  dsimp only
  rw[if_pos rfl];rw[if_pos rfl]at hr
  dsimp only at hr
  cases hq:m en4 with
  |some z=>
   rw[hq]at hr;cases hr;exact .inr ⟨OxI,en4,R5,_,P5.env0,hq,fun H'' r=>k H'' (b5.reach r)⟩
  |none=>
   rw[hq]at hr;obtain⟨⟨t6,en6⟩,h6,hr⟩:=zaa.mp hr;refine .inl ⟨OxI,en4,R5,t6,en6,P5.env0,h6,fun v H6 R6 F6 P6 o6=>?_⟩;have e6:=P6.env.fewer (Ox':=OxI) fun a z=>.inr z;have b6:Bk H1 R1 H6 R6:=b5.step P6.keep (fun i a z=>P6.own a (.inr ⟨i,z⟩)) P6.dom;have d6:=P6.keep D _ d5 fun i z=>P5.env0.dx i D z DO;have keepD:∀a o,H6 a=some o->a≠D->upd H6 D (.lst (vs++[v])) a=some o:=fun a o q n=>by rw[aG n];exact q
   refine⟨vs,d6,by omega,en6,R6,vs++[v],⟨fun k t hk=>?_,e6.dj,e6.dx,fun a z=>?_,e6.l1,e6.l2⟩,aC,by rw[zae];exact Nat.succ_le_succ hvl,hr,⟨fun a o q n=>?_,b6.ow,fun a o q=>?_⟩⟩
   ·obtain⟨v',d',g1,g2,g3⟩:=e6.at_ k t hk;refine⟨v',d',g1,g2,Ow.mv (G:=R6 k) ⟨fun a o q z=>keepD a o q fun zD=>?_,fun a z=>.inl z⟩ t (fun _ z=>z) g3⟩;subst zD;rcases z with z|z
    ·exact z (.inr DO)
    ·exact e6.dx k a z DO
   ·by_cases ha:a=D
    ·subst ha;exact⟨_,aC⟩
    ·obtain⟨o,q⟩:=e6.dom a z;exact⟨o,keepD a o q ha⟩
   ·refine keepD a o (b6.kp a o q n) fun zD=>?_;rw[zD,hD]at q;cases q
   ·obtain⟨o',q'⟩:=b6.dm a o q;refine⟨o',keepD a o' q' fun zD=>?_⟩;rw[zD,hD]at q;cases q
def Ms(hc:eh ds1 js dsi=true)(h:tXe K ds (nLC fi g c f m js) cl E σ H Q):
  IY (tFI K p ds ds1 fi) (tFG K lk dsi dsi g) (tFT K q dsi dsi c) (fun σ H Q=>tF K q dsi dsi cd f σ H Q\/tXe K dsi m cl E σ H Q) js σ H Q:=by
 obtain⟨Ox,en,R,y,e,hm,k⟩:=h;unfold nLC at hm;obtain⟨⟨ts,en1⟩,h1,hm⟩:=zaa.mp hm;by_cases hz:ts.length<=sizeLine
 case neg=>rw[if_neg hz]at hm;cases hm
 rw[if_pos hz]at hm;exact⟨Ox,en,R,ts,en1,e,h1,fun J H1 R1 P1 wk D hD=>FB hc P1 wk hD hz hm fun H' r=>k H' (r.post P1)⟩
end
def PI.nox(h:PI X.nox tg iter wi):PI X tg iter wi:=fun ρ s σ H R I hw=>
 wpAny_mono (h ρ s σ H R (I.wish _) hw) (fun v s1 h1=>wpAny_mono h1 (fun it s2 ⟨it',fp,tn,J,H2,e,I2,T,st2,f2,r⟩=>⟨it',fp,tn,J,H2,e,I2.unwish,T,st2,f2,r⟩) fun _ _ z=>z.elim) fun _ _ z=>z.elim
def Lw(Rs:Rsx X E)(B:BlkOkC X scope ns js)(hi:QI X.nox tg iter (tFI K p ds ds1 fi))(hg:∀C cl s₀ H₀ fp,QG (au X scope ns C cl s₀ H₀ fp) tg (tFG K lk dsi dsi g))(ht:∀C cl s₀ H₀ fp,QTs (au X scope ns C cl s₀ H₀ fp) ifs (tFT K q dsi dsi c))
  (he:∀C cl s₀ H₀ fp,QE (au X scope ns C cl s₀ H₀ fp) elt (tF K q dsi dsi cd f)) (hx:∀C cl' s₀ H₀ fp xb,XOut ((au X scope ns C cl' s₀ H₀ fp).wish xb) E->QE ((au X scope ns C cl' s₀ H₀ fp).wish xb) elt (tXe K dsi m cl E))
  (hcap:eh ds1 js dsi=true) (hs:∀x,foldedSetIterable iter X.env x=pure x):QE X (.ListComp elt [⟨tg,iter,ifs,0⟩] scope pos) (tXe K ds (nLC fi g c f m js) cl E):=
 ⟨(JK Rs B hi.h.nox (fun C cl s₀ H₀ fp=>(hg C cl s₀ H₀ fp).h) (fun C cl s₀ H₀ fp=>(ht C cl s₀ H₀ fp).h) (fun C cl' s₀ H₀ fp xb O ρ s σ H Q I z=>z.elim (fun z=>PE.nox (X:=(au X scope ns C cl' s₀ H₀ fp).wish xb) (he C cl' s₀ H₀ fp).h ρ s σ H Q I z) fun z=>(hx C cl' s₀ H₀ fp xb O).h ρ s σ H Q I z) hs).imp fun _ _ _ h=>Ms hcap h⟩
def nxO:Option Fl->Option Fl
 |some (.nx e)=>some (.nx e)
 |_=>none
def kW(kn:List Str)(kp:List Nat)(b:MS)(m:MN)(hs:MS):MS:=fun en=>match m (hidE kp en)with
 |some x=>if x∈kn then hs en else none
 |none=>nxO (b en)
def nH(kn:List Str)(kp:List Nat)(j:Nat)(b:MS)(m:MN)(hs:MS):MS:=fun en=>match m (hidE kp en)with
 |some x=>pN kn kp j (fun _=>none) m hs en
 |none=>pN kn kp j b nNo hs en
def PostS.caught{F:AS}{σ':St}{R2:Nat->AS}{e2:En}(r:Reach H (fun i a=>i∉kp/\R i a) H')(P:PostS K lk ds' Ox σ H' (fun i a=>i∈kp/\R i a) σ' e2 H2 R2 F):PostS K lk ds' Ox σ H R σ' e2 H2 R2 F:=by
 refine⟨P.env,P.fx,fun b o q nn=>P.keep b o (r.keep b o q fun i z=>nn i z.2) fun i z=>nn i z.2,fun b z=>?_,fun b o q=>let⟨o',q'⟩:=r.dom b o q;P.dom b o' q',P.lk⟩;rcases P.own b z with⟨i,z⟩|z
 ·exact .inl ⟨i,z.2⟩
 ·by_cases q:∃i,R i b
  ·exact .inl q
  ·refine .inr ?_;cases qb:H b with
   |none=>rfl
   |some o=>
    have:=r.keep b o qb fun i z=>q ⟨i,z.2⟩;rw[z]at this;cases this
section
variable{hs:MS}{C':Addr}{bmB:List Value}{newId newId':String}{yp hp:Pos}{b₀:Stmt}{suite:List Stmt}
def Bc(hK:X.K=K)(Df:Dfx X)(hb:∀xe,QSs (X.wish xe) body (tFS K J ds ds' b))(hm:∀xe ρ σ E,iX (X.wish xe) ρ σ E->PXs (X.wish xe) ρ σ E K ds m cl body)(hsu:∀v xe,QSs (X.suite v xe) (b₀::suite) (tFS K J ds ds' hs))
  (hx:∀x∈kn,PySem.W.excIn X.K (cl x) bmB newId=true/\iM X.K (cl x) C'=true) (hx':PySem.W.excIn X.K C' bmB newId'=true) (η:bmB.contains (Value.type "BaseException")=true)
  (hg:Gl X y) (hmy:X.mg y=some (.ref C')) (hdb:(y==("__debug__":Str))=false) (hkp:uw ds kp=true):
  QS X (.Try body [.ExceptHandler (some (.Name y yp)) none (b₀::suite) hp] [] [] pos) (tFS K J ds ds' (kW kn kp b m hs)):=by
 subst hK;refine⟨fun ρ s σ H Dn I h=>?_⟩;obtain⟨Ox,en,R,fl,env,hf,k⟩:=h;refine wpAny_Try_except ?_;show wpAny (model X.prog X.w) X.A (execs body X.env) _ (mq X ρ Dn [.ExceptHandler (some (.Name y yp)) none (b₀::suite) hp]) s;unfold kW at hf;cases hx1:m (hidE kp en)with
 |none=>
  rw[hx1]at hf;cases hB:b en with
  |none=>rw[hB]at hf;cases hf
  |some f1=>
  rw[hB]at hf;cases f1 with
  |nx e1=>
   cases hf;refine wpAny_mono ((hb (mq X ρ Dn [.ExceptHandler (some (.Name y yp)) none (b₀::suite) hp])).h ρ s σ H Dn (I.wish _) ⟨Ox,en,R,_,env,hB,k⟩) (fun f s1 z=>?_) fun ev s1 z=>z;have z:=z.unwish;cases f with
   |next=>exact wpAny_execs_nil z
   |ret v=>exact z
   |brk=>exact z
   |cont=>exact z
  |rt t e1=>cases hf
  |ct e1=>cases hf
 |some x=>
  rw[hx1]at hf
  dsimp only at hf
  by_cases hkn:x∈kn
  case neg=>rw[if_neg hkn]at hf;cases hf
  rw[if_pos hkn]at hf;have O:iX (X.wish (mq X ρ Dn [.ExceptHandler (some (.Name y yp)) none (b₀::suite) hp])) ρ σ (fun c _ H'=>c=.ref (cl x)/\Reach H (fun i a=>i∉kp/\R i a) H'):=fun H1 s1 ev s' I1 hc=>by
   refine BB (G:=fun H'=>Reach H (fun i a=>i∉kp/\R i a) H') Df I1.unwish hc (hx x hkn).1 hx' η (hx x hkn).2 hg hmy hdb (fun v xe=>(hsu v xe).h) fun H' r=>?_;refine⟨Ox,en,_,fl,env.raised r (uv hkp),hf,?_⟩;cases fl with
   |nx e2=>exact fun σ' H2 R2 P=>k σ' H2 R2 (P.caught r)
   |ct e2=>exact fun σ' H2 R2 P=>k σ' H2 R2 (P.caught r)
   |rt t e2=>exact fun v σ' H2 R2 F P o=>k v σ' H2 R2 F (P.caught r) o
  exact wpAny_mono (hm _ ρ σ _ O s H (I.wish _) fun D=>⟨_,hidE kp en,_,x,env.hidE kp,hx1,fun H' r=>⟨rfl,r⟩⟩) (fun _ _ z=>z.elim) fun _ _ z=>z
def uQ{n:Str}{j:Nat}(hK:X.K=K)(Df:Dfx X)(hb:∀xe,QSs (X.wish xe) body (tFS K J ds ds' b))(hm:∀xe ρ σ E,iX (X.wish xe) ρ σ E->PXs (X.wish xe) ρ σ E K ds m cl body)(hsu:∀v xe,QSs (X.suite v xe) (b₀::suite) (tFS K J ds ds' hs))
  (hcl:∀x∈kn,PySem.W.nsIn K mainGlobals x=some (some (.ref (cl x)))) (hx:∀x∈kn,PySem.W.excIn X.K (cl x) bmB newId=true/\iM X.K (cl x) C'=true) (hx':PySem.W.excIn X.K C' bmB newId'=true) (η:bmB.contains (Value.type "BaseException")=true)
  (hg:Gl X y) (hmy:X.mg y=some (.ref C')) (hdb:(y==("__debug__":Str))=false) (hN:X.N.Nodup) (hj:X.N[j]?=some n) (ln:Loc X.env.scope n) (kn0:X.env.scope.names.lookup n=some .local) (kn':X.env.kindOf n=some .local)
  (hkp:uw ds kp=true) (hjl:j∉J.lk) (hjd:ds[j]?=some 0) (hjd':ds'[j]?=some 0) (hjk:j∉kp):
  QS X (.Try body [.ExceptHandler (some (.Name y yp)) (some n) (b₀::suite) hp] [] [] pos) (tFS K J ds ds' (nH kn kp j b m hs)):=by
 refine⟨fun ρ s σ H Dn I h=>?_⟩;obtain⟨Ox,en,R,fl,env,hf,k⟩:=h;unfold nH at hf;cases hx1:m (hidE kp en)with
 |some x=>
  rw[hx1]at hf;exact(uP (b:=fun _=>none) hK Df (fun xe=>⟨fun _ _ _ _ _ _ ⟨_,_,_,_,_,z,_⟩=>by cases z⟩) hm hsu hcl hx hx' η hg hmy hdb hN hj ln kn0 kn' hkp hjl hjd hjd' hjk).h ρ s σ H Dn I ⟨Ox,en,R,fl,env,hf,k⟩
 |none=>
  rw[hx1]at hf;exact(uP (m:=nNo) hK Df hb (fun _ _ _ _ _=>LL) hsu hcl hx hx' η hg hmy hdb hN hj ln kn0 kn' hkp hjl hjd hjd' hjk).h ρ s σ H Dn I ⟨Ox,en,R,fl,env,hf,k⟩
end
end L2
namespace L2
variable{X:Cx}{K:zbS}
open PySem PySem.Spec PyProof.Rows PySem.NumText
def rD(z:Str):Bool:=decide (z.cps.toList≠[])&&(z.cps.toList.all fun c=>decide (48<=c)&&decide (c<=57))&&decide (z.length<=640)
def xz:List D->Option D
 |[.str z]=>if rD z=true then some (.int (NumText.digitsVal z.cps.toList:Nat))else none
 |_=>none
def Gj:CallR X (.type "int") (rFn K xz 3):=by
 intro ρ s σ H xs us Q I r ⟨O,as,t,oa,hd,hr,k⟩
 match as,hr with
 |[.str z],hr=>
  replace hr:(if rD z=true then some (PyData.int (NumText.digitsVal z.cps.toList:Nat))else none)=some t:=hr
  by_cases hf:rD z=true
  case neg=>rw[if_neg hf]at hr;cases hr
  rw[if_pos hf]at hr;cases hr;obtain⟨v,rfl,o⟩:=oa.one;obtain⟨u,rfl,ru⟩:=cZ r;cases(show v=V.str z from o);obtain⟨tk,rfl⟩:=ru;unfold rD at hf;simp only[zbk,decide_eq_true_eq,List.all_eq_true]at hf;obtain⟨⟨h1,h2⟩,h3⟩:=hf;exact PySem.W.KIN.call_text (intText_digits (fun c hc=>by simpa using h2 c hc) h1 (zau h3 (by decide))) h3 ⟨.int _,H,I.tok _,⟨_,rfl⟩,k _ H NoA .refl rfl⟩
def dA:D->D->Option D
 |.str z,.str y=>grd ((y.length==0)=false/\z.length<=100000/\(Txt.split z y).length<=100000) (.list ((Txt.split z y).map .str))
 |_,_=>none
section
variable{p:Bool}{ds ds1 ds2:List Nat}{d1 d2:Nat}{e:Expr}{f1 f2:ME}
def zA(hK:X.K=K):OpR X (fun v u=>call (.builtin "str.split") [v,u]) (rF2 K dA 3):=by
 subst hK;intro ρ s σ H x y v u Q I rx ry ⟨O,a,b,t,oa,ob,hd,hg,k⟩;unfold dA at hg;split at hg
 case h_2=>cases hg
 next z w=>
 obtain⟨⟨c2,c3,c4⟩,rfl⟩:=bD hg;cases(show x=V.str z from oa);cases(show y=V.str w from ob);obtain⟨t1,rfl⟩:=rx;obtain⟨t2,rfl⟩:=ry;have hf:H s.heap.objs.size=none:=I.hok.fresh (zav _);have sl:(100000:Nat)<=sizeLine:=by decide
 have fin:∀(its:List Value) (tk:Nat),Vals ((Txt.split z w).map V.str) its->EP X ρ σ Q (.ref s.heap.objs.size) { s with heap:=s.heap.push { cls:=.type "list",data:=.seq its.toArray },toks:=tk }:=fun its tk rv=>by
  refine⟨.ref _,_,I.lnew (t':=tk) rv (by rw[zad];omega),rfl,k _ _ (fun b=>b=s.heap.objs.size) (bu hf) ?_⟩;exact⟨_,_,rfl,.inr ⟨by decide,aC,rfl,NoA,fun _ z=>z.elim,rV _ _ _ _⟩⟩
 cases c1:(decide (z.length<w.length) || decide (Builtin.Str.strKind z<Builtin.Str.strKind w))with
 |true=>
  have e:Txt.split z w=[z]:=if_pos c1;exact call_meets F.slot_str_split (typeIs_str s z t1) F.entry_str_split (F.args_str_split_2 _ _) (meets_str_split_cannot_occur z w t1 t2 c1) (fin [.str z t1] s.toks (by rw[e];exact .cons ⟨_,rfl⟩ .nil))
 |false=>
  have e0:Txt.split z w=Jh z w:=if_neg (by rw[c1];exact zbl);by_cases he:(Builtin.Str.occurrences z w 0 z.length (z.length+1)).isEmpty=true
  ·have e:Txt.split z w=[z]:=e0.trans (if_pos he);exact call_meets F.slot_str_split (typeIs_str s z t1) F.entry_str_split (F.args_str_split_2 _ _) (meets_str_split_not_found z w t1 t2 c1 c2 he) (fin [.str z t1] s.toks (by rw[e];exact .cons ⟨_,rfl⟩ .nil))
  ·have e:Txt.split z w=Builtin.Str.partsBetween z (Builtin.Str.occurrences z w 0 z.length (z.length+1)) w.length:=e0.trans (if_neg he);refine call_meets F.slot_str_split (typeIs_str s z t1) F.entry_str_split (F.args_str_split_2 _ _) (meets_str_split_sep z w t1 t2 c1 c2 (by simpa using he) (by omega) (by rw[<-e];omega)) ?_;exact fin _ _ (by rw[e];exact rR _ _)
def fC{o:Expr}{μ ω:Pos}(hK:X.K=K)(ho:QE X o (tF K p ds ds1 d1 f1))(he:QE X e (tF K p ds1 ds2 d2 f2))
  (η:attributeBase o "split" X.env (eval o X.env)=eval o X.env)
  (hfew:((backTo ω (starEach [e] X.env)).all (fun x=>!x.1)&&(backToKw ω (keywordEach [] X.env)).all (fun x=>x.1.isSome)&&decide (([e]:List Expr).length+([]:List Keyword).length+(if([]:List Keyword).isEmpty then 0 else 1)<30))=true)
  (θ:(μ.endLine==ω.line)=true) (hs:starEach [e] X.env=[(false,eval e X.env)]) (ι:(backTo ω (starEach [] X.env)).any (·.1)=false):
  QE X (.Call (.Attribute o "split" μ) [e] [] ω) (tF K p ds ds2 3 (e2 dA f1 f2)):=by
 subst hK;refine⟨KY (Ty:=fun x _=>∃z,x=V.str z) F.plainAttrs_str F.slot_str_split F.type_str_split (fun a b t O x H F hg o=>?_) (fun ρ s σ H x v I r ty=>?_) (zA rfl) ho.h he.h η hfew θ hs ι⟩
 ·unfold dA at hg;split at hg
  ·exact⟨_,o⟩
  ·cases hg
 ·obtain⟨z,rfl⟩:=ty;obtain⟨t,rfl⟩:=r;exact⟨typeIs_str s z t,fun a e=>nomatch e⟩
end
end L2
namespace L2
open PySem PySem.Spec PyProof.Rows
def Fz(H1:Hp)(a:Addr)(w0:HO)(H2:Hp):Prop:=(∃ob,H1 a=some w0/\Dty w0/\H2=upd H1 a (.frz ob w0))\/H2=H1
end L2
namespace W59
noncomputable section
variable{k:Nat}
open PySem L2
def top(i:Nat):Stmt:=PySem.Challenge.pw_wordrules_k59_no_plan_texts.main.body.getD i (.Pass ⟨0,0,0,0⟩)
structure Bl(mg:Str->Option Value):Prop where
 ValueError0:mg "ValueError"=none
 abs0:mg "abs"=none
 all0:mg "all"=none
 bool0:mg "bool"=none
 int0:mg "int"=none
 isinstance0:mg "isinstance"=none
 len0:mg "len"=none
 list0:mg "list"=none
 max0:mg "max"=none
 min0:mg "min"=none
 range0:mg "range"=none
 repr0:mg "repr"=none
 set0:mg "set"=none
 str0:mg "str"=none
 tuple0:mg "tuple"=none
 zip0:mg "zip"=none
section
variable{P:Program}{w:World}{K:zbS}{mg:Str->Option Value}{base:Heap}{f:Addr}{fd:FuncData}
def kn0:List Str:=["NoText"]
def i8:List Str:=["NoText"]
def eF:List Str:=["NoText"]
def xt0:List Str:=[]
def xt1:List Str:=[]
abbrev m6:Stmt:=top 45
abbrev Ak:List Str:=["_law_script","_law_first"]
def wS:FnScope Ak ["_law_script","_law_first"] (ak m6):=fsc
def eS:MS:=(aB (nU [((eC (.str "script")),(ae 0)),((eC (.str "at")),(ae 1)),((eC (.str "left")),(eC (.int 0)))]))
def F_law_pen:List D->Option (D×En):=fnF 0 [0,0] eS
abbrev ki:Stmt:=top 46
abbrev vL:List Str:=["_law_cell","_law_k","_law_one","_law_two"]
def tT:FnScope vL ["_law_cell","_law_k"] (ak ki):=fsc
def hV:MS:=(al (ao 2 (e2 bB (e2 bS (e2 ar (e2 ar (e2 bB (ae 0) (eC (.int 2147483629))) (e2 bS (eC (.int 40503)) (ae 1))) (eC (.int 24691))) (eC (.int 48271))) (eC (.int 2147483647))))
 (al (ao 3 (e2 bB (e2 ar (e2 ar (e2 bS (ae 2) (ae 2)) (e2 bS (eC (.int 69621)) (ae 2))) (ae 1)) (eC (.int 2147483629))))
 (aB (e2 eB (e2 bB (e2 ar (e2 ar (e2 bS (ae 3) (ae 3)) (e2 bS (eC (.int 16807)) (ae 3))) (e2 bS (eC (.int 31)) (ae 1))) (eC (.int 1073741789))) (eC (.int 64))))))
def dw:List D->Option (D×En):=fnF 2 [0,0] hV
abbrev lT:Stmt:=top 47
abbrev xZ:List Str:=["_law_pen_here","_law_most","_law_k","_law_script","_law_cell","_law_got"]
def vn:FnScope xZ ["_law_pen_here","_law_most"] (ak lT):=fsc
def l7:MS:=(al (ao 2 (b7 0 (eC (.str "at"))))
 (al (ao 3 (b7 0 (eC (.str "script"))))
 (al (sIf (tV (e2 eqD (b7 0 (eC (.str "left"))) (eC (.int 0)))) (al (eA 0 (eC (.str "at")) (e2 ar (ae 2) (eC (.int 1))))
 (al (ao 4 (eC (.int 0)))
 (al (sIf (tV (e2 gtI (eN aQ (ac (ae 3) af)) (eC (.int 0)))) (ao 4 (e2 ixA (ae 3) (e2 bB (ae 2) (eN aQ (ac (ae 3) af))))) bc)
 (al (sIf (bOr (tV (e2 geI (ae 2) (eN aQ (ac (ae 3) af)))) (tV (e2 ltI (eN lK (ac (ae 4) af)) (e2 qY (eC (.int 10)) (eC (.int 18)))))) (aB (e2 bB (aq dw (ac (ae 4) (ac (ae 2) af))) (ae 1))) bc)
 (eA 0 (eC (.str "left")) (eN lK (ac (ae 4) af))))))) bc)
 (al (ao 5 (e2 bB (b7 0 (eC (.str "left"))) (ae 1)))
 (al (eA 0 (eC (.str "left")) (e2 eB (b7 0 (eC (.str "left"))) (ae 1)))
 (aB (ae 5)))))))
def aO:List D->Option (D×En):=fnF 4 [1,0] l7
abbrev gu:Stmt:=top 48
abbrev ni:List Str:=["_law_pen_here","_law_many","_law_signs","_law_left","_law_kinds","_law_size"]
def sK:FnScope ni ["_law_pen_here","_law_many"] (ak gu):=fsc
def gS:ME:=(ie 2 (aq aO (aL 1 (ac (eN aQ (ac (ae 2) af)) af))))
def gQ:MS:=(al (ao 5 (e2 ar (eC (.int 1)) (aq aO (aL 0 (ac (eN xf (ac (eC (.int 6)) (ac (eN aQ (ac (ae 3) af)) af))) af)))))
 (al (ao 5 (eN xg (ac (ae 5) (ac (e2 jZ (eN aQ (ac (ae 3) af)) (e2 bS (eC (.int 6)) (e2 jZ (eC (.int 3)) (eN aQ (ac (ae 4) af))))) af))))
 (al (eg (ft 4 (eM joinD (eC (.str "")) (ac (eSl gW (ae 3) bx (bt (ae 5))) af))))
 (ao 3 (eSl gW (ae 3) (bt (ae 5)) bx)))))
def e8:MT:=(tV (e2 neD (ae 3) (aZ af)))
def ny:MS:=(al (ao 2 (eN iQ (ac (eC (.str "!\"#$&'()*+,-./0123456789:;<=>?\x40[\\]^_`{|}~")) af)))
 (al (ao 2 (e2 fw (ae 2) (eN iQ (ac (eC (.str "ABCDEFGHIJKLMNOPQRSTUVWXYZabcdefghijklmnopqrstuvwxyz")) af))))
 (al (ao 3 (eLC false (dP (ac (ae 1) af)) (gN 0) cY gS [none,some 0,some 2]))
 (al (ao 4 (aZ af))
 (al (c9 e8 gQ)
 (aB (eN io (ac (ae 4) af))))))))
def eR:List D->Option (D×En):=fnF 4 [1,0] ny
abbrev fV:Stmt:=top 49
abbrev pE:List Str:=["_law_pen_here","_law_some"]
def nZ:FnScope pE ["_law_pen_here"] (ak fV):=fsc
def jA:MS:=(al (ao 1 (aZ (ac (gO (ac (eC (.str "-")) af)) (ac (gO (ac (eC (.str "0")) (ac (eC (.str "1")) (ac (eC (.str "-")) af)))) (ac (gO (ac (eC (.str "long")) (ac (eC (.str "-01")) af))) (ac (gO (ac (eC (.str "ends")) (ac (eC (.str "012")) (ac (eC (.str "-")) af)))) (ac (gO (ac (eC (.str "not")) (ac (eC (.str "hbi")) (ac (eC (.str "0-e")) (ac (eC (.str "|")) af))))) (ac (gO (ac (eC (.str "1")) af)) af))))))))
 (al (eg (ft 1 (gO (ac (eC (.str "apr")) (ac (eC (.str "t-0123")) (ac (eC (.str "'\"\\")) af))))))
 (al (sIf (tV (e2 eqD (aq aO (aL 0 (ac (eC (.int 4)) af))) (eC (.int 0)))) (aB (gt 1 (aq aO (aL 0 (ac (eC (.int 7)) af))))) bc)
 (aB (aq eR (aL 0 (ac (e2 ixA (aZ (ac (eC (.int 2)) (ac (eC (.int 3)) (ac (eC (.int 4)) (ac (eC (.int 1)) (ac (eC (.int 6)) (ac (eC (.int 12)) (ac (eC (.int 5)) (ac (e2 ar (eC (.int 1)) (aq aO (aL 0 (ac (eC (.int 12)) af)))) af))))))))) (aq aO (aL 0 (ac (eC (.int 8)) af)))) af)))))))
def cN:List D->Option (D×En):=fnF 1 [1] jA
abbrev gw:Stmt:=top 50
abbrev lU:List Str:=["_law_pen_here","_law_letters","_law_any_words","_law_words","_law_turn","_law_word","_law_beside"]
def vq:FnScope lU ["_law_pen_here","_law_letters","_law_any_words"] (ak gw):=fsc
def jq:ME:=(e2 ixT (ae 2) (aq aO (aL 1 (ac (eN aQ (ac (ae 2) af)) af))))
def m4:MT:=(bOr (tV (eM gJ (ae 0) (ac (ae 1) af))) (tV (eM gJ (ae 1) (ac (ae 0) af))))
def vg:ME:=(eSc (ae 0))
def nr:MS:=(al (ao 5 (eM joinD (eC (.str "")) (ac (eLC false (dP (ac (e2 ar (eC (.int 1)) (aq aO (aL 0 (ac (eC (.int 6)) af)))) af)) (gN 0) cY jq [none,some 0,some 1]) af)))
 (al (ao 6 (eLC true (bO (ae 3)) (gN 0) m4 vg [none,some 5]))
 (sIf (iz (tV (e2 ui (ae 5) (ae 3))) (iz (tV (e2 ltI (eN aQ (ac (ae 3) af)) (eC (.int 12)))) (bOr (tV (ae 2)) (tV (e2 eqD (ae 6) (aZ af)))))) (eg (ft 3 (ae 5))) bc)))
def qO:MS:=(al (ao 3 (aZ af))
 (al (gK (dP (ac (e2 ixA (aZ (ac (eC (.int 0)) (ac (eC (.int 1)) (ac (eC (.int 2)) (ac (eC (.int 3)) (ac (eC (.int 5)) (ac (eC (.int 12)) (ac (eC (.int 14)) (ac (eC (.int 2)) af))))))))) (aq aO (aL 0 (ac (eC (.int 8)) af)))) af)) (gN 4) nr)
 (aB (eN io (ac (ae 3) af)))))
def gD:List D->Option (D×En):=fnF 4 [1,0,0] qO
abbrev iW:Stmt:=top 51
abbrev qD:List Str:=["_law_pen_here","_law_tongue_here","_law_most","_law_letters","_law_steps","_law_turn","_law_many"]
def vp:FnScope qD ["_law_pen_here","_law_tongue_here","_law_most"] (ak iW):=fsc
def jp:ME:=(aq gD (aL 1 (ac (ae 2) (ac (e2 eqD (ae 0) (e2 jZ (ae 3) (eC (.int 1)))) af))))
def nq:MS:=(al (ao 6 (e2 ar (eC (.int 1)) (aq aO (aL 0 (ac (eC (.int 5)) af)))))
 (eg (ft 4 (eN io (ac (eLC false (dP (ac (ae 6) af)) (gN 0) cY jp [none,some 0,some 3,some 6]) af)))))
def qN:MS:=(al (ao 3 (eM joinD (eC (.str "")) (ac (ae 1) af)))
 (al (ao 4 (aZ af))
 (al (gK (dP (ac (aq aO (aL 0 (ac (e2 ar (ae 2) (eC (.int 1))) af))) af)) (gN 5) nq)
 (aB (eN io (ac (ae 4) af))))))
def gC:List D->Option (D×En):=fnF 4 [1,0,0] qN
abbrev lR:Stmt:=top 52
abbrev xY:List Str:=["_law_plan_here","_law_lines","_law_step","_law_words","_law_part_here"]
def vm:FnScope xY ["_law_plan_here"] (ak lR):=fsc
def no:MS:=(ao 3 (e2 fw (e2 fw (ae 3) (aZ (ac (eN wP (ac (eN aQ (ac (ae 4) af)) af)) af))) (eN iQ (ac (ae 4) af))))
def nk:MS:=(al (ao 3 (aZ af))
 (al (gK (bO (ae 2)) (gN 4) no)
 (eg (ft 1 (eM joinD (eC (.str " ")) (ac (ae 3) af))))))
def qM:MS:=(al (ao 1 (aZ (ac (eC (.str "plan")) af)))
 (al (gK (bO (ae 0)) (gN 2) nk)
 (aB (eM joinD (eC (.str "\n")) (ac (ae 1) af)))))
def fg:List D->Option (D×En):=fnF 4 [0] qM
abbrev e9:Stmt:=top 56
abbrev kK:List Str:=["_law_pen_here","_law_plan_here","_law_text_here","_law_blanks","_law_got","_law_at"]
def pL:FnScope kK ["_law_pen_here","_law_plan_here"] (ak e9):=fsc
def jg:MT:=(tV (e2 eqD (e2 ixT (ae 1) (ae 0)) (eC (.str " "))))
def jr:ME:=(ae 0)
def kL:MS:=(al (ao 2 (aq fg (ac (ae 1) af)))
 (al (ao 3 (eLC true (dP (ac (eN aQ (ac (ae 2) af)) af)) (gN 0) jg jr [none,some 2]))
 (al (ao 4 (aZ (ac (e2 ar (ae 2) (eC (.str " "))) (ac (e2 ar (eC (.str " ")) (ae 2)) (ac (e2 ar (ae 2) (eC (.str "\n"))) (ac (e2 ar (eC (.str "\n")) (ae 2)) (ac (e2 ar (eC (.str "x")) (ae 2)) (ac (e2 ar (eC (.str "Plan")) (eSl fu (ae 2) (bt (eC (.int 4))) bx)) (ac (eSl fu (ae 2) (bt (eC (.int 4))) bx) (ac (eSl fu (ae 2) (bt (eC (.int 5))) bx) af))))))))))
 (al (ao 4 (e2 fw (ae 4) (aZ (ac (e2 ar (eC (.str "pla")) (eSl fu (ae 2) (bt (eC (.int 4))) bx)) (ac (e2 ar (eC (.str "plan ")) (eSl fu (ae 2) (bt (eC (.int 4))) bx)) (ac (e2 ar (eC (.str "plans")) (eSl fu (ae 2) (bt (eC (.int 4))) bx)) (ac (e2 ar (ae 2) (e2 uk (eC (.str "\n0")) (e2 jZ (eC (.int 4)) (eN aQ (ac (ae 1) af))))) (ac (eC (.str "")) (ac (eC (.str "\n")) af)))))))))
 (al (sIf (tV (e2 neD (ae 3) (aZ af))) (al (ao 5 (e2 ixA (ae 3) (aq aO (aL 0 (ac (eN aQ (ac (ae 3) af)) af)))))
 (al (eg (ft 4 (e2 ar (e2 ar (eSl fu (ae 2) bx (bt (ae 5))) (eC (.str " "))) (eSl fu (ae 2) (bt (ae 5)) bx))))
 (eg (ft 4 (e2 ar (e2 ar (eSl fu (ae 2) bx (bt (ae 5))) (eC (.str "\n"))) (eSl fu (ae 2) (bt (ae 5)) bx)))))) bc)
 (aB (e2 fw (ae 4) (aZ (ac (eC (.str " ")) (ac (eC (.str "plan\n")) (ac (eC .none) (ac (eC (.int 0)) (ac (eC (.bool true)) (ac (aZ (ac (ae 2) af)) (ac (gO (ac (ae 2) af)) (ac qr (ac (ae 1) (ac (aZ af) (ac (eN iQ (ac (ae 2) af)) af)))))))))))))))))))
def dC:List D->Option (D×En):=fnF 4 [1,0] kL
abbrev cz:Stmt:=top 55
abbrev ff:List Str:=["_law_tongue_here","_law_sign","_law_twice","_law_strange","_law_lines"]
def pM:FnScope ff ["_law_tongue_here"] (ak cz):=fsc
def jh:MT:=(tV (e2 ri (ae 0) (eM joinD (eC (.str "")) (ac (ae 1) af))))
def jw:ME:=(ae 0)
def jv:ME:=(e2 ar (eC (.str "1 ")) (ae 0))
def ju:ME:=(e2 ar (e2 ar (e2 ar (e2 ar (eC (.str "2 ")) (ae 1)) (eC (.str " "))) (ae 1)) (ae 0))
def kO:MS:=(al (ao 1 (e2 ixT (e2 ixA (ae 0) (eC (.int 0))) (eC (.int 0))))
 (al (ao 2 (e2 uk (ae 1) (eC (.int 2))))
 (al (ao 3 (eLC true (bO (eC (.str "aZ0~"))) (gN 0) jh jw [none,some 0]))
 (al (ao 4 (aZ (ac (eC (.str "")) (ac (eC (.str " ")) (ac (eC (.str "x")) (ac (eC (.str "1")) (ac (e2 ar (eC (.str "2 ")) (ae 1)) (ac (e2 ar (eC (.str "01 ")) (ae 1)) (ac (eC (.str "-1")) (ac (e2 ar (eC (.str "+1 ")) (ae 1)) (ac (e2 ar (e2 ar (eC (.str "1 ")) (ae 1)) (eC (.str " 1"))) (ac (eC (.str "1  ")) af))))))))))))
 (al (ao 4 (e2 fw (ae 4) (aZ (ac (e2 ar (eC (.str "1 ")) (e2 uk (ae 1) (eC (.int 7)))) (ac (e2 ar (eC (.str "1_0 ")) (eM joinD (eC (.str " ")) (ac (e2 mE (aZ (ac (ae 1) af)) (eC (.int 10))) af))) (ac (e2 ar (eC (.str "_1 ")) (ae 1)) (ac (e2 ar (eC (.str "1_ ")) (ae 1)) (ac (eC (.str "0_0")) af))))))))
 (al (ao 4 (e2 fw (ae 4) (aZ (ac (e2 ar (e2 ar (e2 ar (eC (.str "2 ")) (ae 1)) (eC (.str " "))) (ae 1)) (ac (eC (.str "0 0 0 0 0 0")) (ac (e2 ar (eC (.str "0 0 0 0 0 1 ")) (ae 1)) (ac (eC (.str "00")) (ac (e2 ar (e2 ar (eC (.str "1 ")) (ae 1)) (eC (.str " "))) (ac (eC (.str "0 ")) af)))))))))
 (al (ao 4 (e2 fw (ae 4) (aZ (ac (e2 ar (e2 ar (e2 ar (e2 ar (eC (.str "2 ")) (ae 1)) (eC (.str " "))) (ae 2)) (eC (.str " 0"))) (ac (e2 ar (e2 ar (e2 ar (e2 ar (e2 ar (eC (.str "2 ")) (ae 2)) (eC (.str " "))) (ae 1)) (eC (.str " 1 "))) (ae 1)) (ac (eC (.str "10")) (ac (eC (.str "0 -")) (ac (eC (.str "0 x")) af))))))))
 (al (ao 4 (e2 fw (ae 4) (aZ (ac (e2 ar (e2 ar (e2 ar (e2 ar (e2 ar (eC (.str "0 2 ")) (ae 1)) (eC (.str " "))) (ae 2)) (eC (.str " 1 "))) (ae 2)) (ac (e2 ar (e2 ar (eC (.str "1 ")) (ae 1)) (eC (.str " 00"))) (ac (eC (.str "plan")) (ac (e2 ar (eC (.str "12 ")) (ae 1)) (ac (eC (.str "0  0")) af))))))))
 (al (ao 4 (e2 fw (ae 4) (aZ (ac (e2 ar (e2 ar (eC (.str "13")) (eC (.str " "))) (eM joinD (eC (.str " ")) (ac (e2 mE (aZ (ac (ae 1) af)) (eC (.int 13))) af))) (ac (e2 ar (e2 ar (eC (.str "1 ")) (ae 1)) (eC (.str " 13"))) (ac (e2 ar (eC (.str "100 ")) (eM joinD (eC (.str " ")) (ac (e2 mE (aZ (ac (ae 1) af)) (eC (.int 100))) af))) af))))))
 (aB (e2 fw (e2 fw (ae 4) (eLC true (bO (ae 3)) (gN 0) cY jv [none])) (eLC true (bO (ae 3)) (gN 0) cY ju [none,some 1]))))))))))))
def dD:List D->Option (D×En):=fnF 4 [0] kO
abbrev iV:Stmt:=top 53
abbrev qC:List Str:=["_law_got","_law_due"]
def vo:FnScope qC ["_law_got","_law_due"] (ak iV):=fsc
def nw(self:List D->Option (D×En)):ME:=(aq self (ac (ae 0) (ac (ae 1) af)))
def iZ(self:List D->Option (D×En)):MS:=(al (sIf (tV (e1 (lA ["list","tuple"]) (ae 1))) (al (sIf (bOr (bE (tV (e1 (lA ["list","tuple"]) (ae 0)))) (tV (e2 neD (e1 (bw "list") (ae 0)) (e1 (bw "list") (ae 1))))) (aB (eC (.bool false))) bc)
 (aB (iu (e2 eqD (eN aQ (ac (ae 0) af)) (eN aQ (ac (ae 1) af))) (eN kg (ac (eLC true (mM (ac (ae 0) (ac (ae 1) af))) (gT (gsC (gN 0) (gsC (gN 1) gs0))) cY (nw self) [none,none]) af))))) bc)
 (al (sIf (bOr (tV (e2 isN (ae 1) (eC .none))) (tV (e1 (lA ["bool","str"]) (ae 1)))) (aB (e2 eqD (eN pP (ac (ae 0) af)) (eN pP (ac (ae 1) af)))) bc)
 (aB (iu (e1 (bw "int") (ae 0)) (iu (pk (e1 (bw "bool") (ae 0))) (e2 eqD (ae 0) (ae 1)))))))
def aX:Nat->List D->Option (D×En)
 |0=>fun _=>none
 |j+1=>fnF 0 [0,0] (iZ (aX j))
abbrev gZ:Stmt:=top 35
abbrev oH:List Str:=["left"]
def scword_ahead:FnScope oH ["left"] (ak gZ):=fsc
def oI:MS:=(al (sIf (tV (e2 eqD (eN aQ (ac (ae 0) af)) (eC (.int 0)))) eG bc)
 (aB (ie 0 (eC (.int 0)))))
def bJ:List D->Option (D×En):=fnF 0 [1] oI
def nA:MN:=(nIf (tV (e2 eqD (eN aQ (ac (ae 0) af)) (eC (.int 0)))) (lq "NoText") nNo)
def bK:List D->Option Str:=fnN 0 nA
def uX(T:Bl mg)(m_NoText:mg "NoText"=some (.ref (clK K "NoText")))(x_NoText:PySem.W.excIn K (clK K "NoText") vE "ValueError.__new__"=true)(F:Fun K "word_ahead" "word_ahead" gZ f fd):FnOk P w K mg base (CXr P w) (k+1) f fd ["left"] (spN K [1] (clK K) bK):=by
 have nd:=scword_ahead.nd;refine F.okN (N:=oH) (b:=nA) (ds0:=[1]) scword_ahead rfl rfl rfl fun cdv A outer s H E hr R O=>?_;exact(cI (qj (p:=false) (dE (ds0:=[0]) (fte rfl hr.units (fln rfl T.len0 (fac (fv 0) aa)) aj) rfl) (cI (je R PySem.F.excBase_ValueError x_NoText rfl m_NoText rfl)) qi))
abbrev eD:Stmt:=top 37
abbrev jY:List Str:=["text"]
def oS:FnScope jY ["text"] (ak eD):=fsc
def iI:ME:=(e2 xA (ae 0) (eC (.str "0123456789")))
def eE:MS:=(al (sIf (bOr (bE (tV (fE leI leI (eC (.int 1)) (eN aQ (ac (ae 0) af)) (eC (.int 80))))) (bE (tV (eN kg (ac (eLC true (bO (ae 0)) (gN 0) cY iI [none]) af))))) (aB (eC (.bool false))) bc)
 (aB (eOr (e2 eqD (ae 0) (eC (.str "0"))) (pk (eM gJ (ae 0) (ac (eC (.str "0")) af))))))
def be:List D->Option (D×En):=fnF 0 [0] eE
abbrev fL:Stmt:=top 36
abbrev mf:List Str:=["left","word"]
def scnumber_ahead:FnScope mf ["left"] (ak fL):=fsc
def mi:MS:=(al (ao 1 (aq bJ (aL 0 af)))
 (al (sIf (bE (tV (aq be (ac (ae 1) af)))) eG bc)
 (aB (eN xz (ac (ae 1) af)))))
def bM:List D->Option (D×En):=fnF 1 [1] mi
def kP:MN:=(nOr (bf bK (aL 0 af))
 (dL (ao 1 (aq bJ (aL 0 af)))
 (nIf (bE (tV (aq be (ac (ae 1) af)))) (lq "NoText") nNo)))
def bI:List D->Option Str:=fnN 1 kP
def rE(T:Bl mg)(dX:Kn P w K mg base k "word_ahead" ["left"] (spF K [1] 0 bJ))(gz:Kn P w K mg base k "is_number_text" ["text"] (spF K [0] 3 be))(GNword_ahead:KnX P w K mg base k "word_ahead" ["left"] (spN K [1] (clK K) bK))(m_NoText:mg "NoText"=some (.ref (clK K "NoText")))(x_NoText:PySem.W.excIn K (clK K "NoText") vE "ValueError.__new__"=true)(F:Fun K "number_ahead" "number_ahead" fL f fd):FnOk P w K mg base (CXr P w) (k+1) f fd ["left"] (spN K [1] (clK K) bI):=by
 have nd:=scnumber_ahead.nd;refine F.okN (N:=mf) (b:=kP) (ds0:=[1,0]) scnumber_ahead rfl rfl rfl fun cdv A outer s H E hr R O=>?_;exact(tm (cI (uT O GNword_ahead hr rfl (fsl 0 aa) rfl rfl rfl rfl rfl)) (eX (J:=⟨[0],[1,0],3,[]⟩) (aP 1 [1,0] nd (fns dX hr (fsl 0 aa))) (cI (qj (p:=false) (aS (aK (fnn gz hr (fac (fv 1) aa)) (fun _=>rfl))) (cI (je R PySem.F.excBase_ValueError x_NoText rfl m_NoText rfl)) qi))))
abbrev fH:Stmt:=top 43
abbrev kl:List Str:=["left","many"]
def scpart_ahead:FnScope kl ["left"] (ak fH):=fsc
def mh:ME:=(aq bJ (aL 1 af))
def oJ:MS:=(al (ao 1 (aq bM (aL 0 af)))
 (al (sIf (tV (e2 gtI (ae 1) (eN aQ (ac (ae 0) af)))) eG bc)
 (aB (eN io (ac (eLC false (dP (ac (ae 1) af)) (gN 0) cY mh [none,some 0]) af)))))
def dY:List D->Option (D×En):=fnF 1 [1] oJ
def nB:MN:=(nOr (bf bI (aL 0 af))
 (dL (ao 1 (aq bM (aL 0 af)))
 (nIf (tV (e2 gtI (ae 1) (eN aQ (ac (ae 0) af)))) (lq "NoText") nNo)))
def bz:List D->Option Str:=fnN 1 nB
def uY(T:Bl mg)(iD:Kn P w K mg base k "number_ahead" ["left"] (spF K [1] 3 bM))(dX:Kn P w K mg base k "word_ahead" ["left"] (spF K [1] 0 bJ))(GNnumber_ahead:KnX P w K mg base k "number_ahead" ["left"] (spN K [1] (clK K) bI))(m_NoText:mg "NoText"=some (.ref (clK K "NoText")))(x_NoText:PySem.W.excIn K (clK K "NoText") vE "ValueError.__new__"=true)(F:Fun K "part_ahead" "part_ahead" fH f fd):FnOk P w K mg base (CXr P w) (k+1) f fd ["left"] (spN K [1] (clK K) bz):=by
 have nd:=scpart_ahead.nd;refine F.okN (N:=kl) (b:=nB) (ds0:=[1,0]) scpart_ahead rfl rfl rfl fun cdv A outer s H E hr R O=>?_;exact(tm (cI (uT O GNnumber_ahead hr rfl (ir 0 aa) rfl rfl rfl rfl rfl)) (eX (J:=⟨[0],[1,0],0,[]⟩) (aP 1 [1,0] nd (fs0 (fns iD hr (ir 0 aa)))) (cI (qj (p:=false) (dE (ds0:=[0,0]) (bj jO (fv 1) (fln rfl T.len0 (fac (fvc 0) aa)) (bp _)) rfl) (cI (je R PySem.F.excBase_ValueError x_NoText rfl m_NoText rfl)) qi))))
abbrev lL:Stmt:=top 42
abbrev vb:List Str:=["text","left","parts"]
def scstep_of:FnScope vb ["text"] (ak lL):=fsc
def df:MS:=(eg (ft 2 (aq dY (aL 1 af))))
def de:MT:=(tV (e2 gtI (eN aQ (ac (ae 1) af)) (eC (.int 0))))
def vh:MS:=(al (ao 1 (e2 dA (ae 0) (eC (.str " "))))
 (al (ao 2 (aZ af))
 (al (c9 de df)
 (aB (eN io (ac (ae 2) af))))))
def gR:List D->Option (D×En):=fnF 2 [0] vh
def sE:MN:=(dL (ao 1 (e2 dA (ae 0) (eC (.str " "))))
 (dL (ao 2 (aZ af))
 (uj de df (ph 2 (bf bz (aL 1 af))))))
def b8:List D->Option Str:=fnN 2 sE
def zX(T:Bl mg)(km:Kn P w K mg base k "part_ahead" ["left"] (spF K [1] 0 dY))(GNpart_ahead:KnX P w K mg base k "part_ahead" ["left"] (spN K [1] (clK K) bz))(F:Fun K "step_of" "step_of" lL f fd):FnOk P w K mg base (CXr P w) (k+1) f fd ["text"] (spN K [0] (clK K) b8):=by
 have nd:=scstep_of.nd;refine F.okN (N:=vb) (b:=sE) (ds0:=[0,0,0]) scstep_of rfl rfl rfl fun cdv A outer s H E hr R O=>?_;exact(eX (J:=⟨[],[0,0,0],0,[]⟩) (aP 1 [0,1,0] nd (cJ (d':=1) (fC (K:=K) rfl (fv 0) ag rfl rfl rfl rfl rfl) (by decide))) (eX (J:=⟨[],[0,0,0],0,[]⟩) (aP 2 [0,1,1] nd (cJ (d':=1) (aI (d:=3) (c:=3) aa rfl rfl (by decide)) (by decide))) (cI (Bg (p:=false) (J:=⟨[],[0,0,0],0,[]⟩) (ds:=[0,1,1]) (ds1:=[0,1,1]) R (dE (ds0:=[0,0,1]) (bj jO (fln rfl T.len0 (fac (fv 1) aa)) aj (bp _)) rfl) (aE (bG (dk (K:=K) (i:=2) (d:=1) rfl rfl (.inl rfl) rfl (fns km hr (fsl 1 aa)) (by decide) rfl rfl rfl rfl rfl rfl rfl rfl) rfl)) (cI (Gm (GT (i:=2) rfl rfl (.inl rfl) (vO O GNpart_ahead hr rfl (fsl 1 aa) rfl rfl rfl rfl) rfl rfl rfl rfl rfl) rfl))))))
abbrev kh:Stmt:=top 17
abbrev vK:List Str:=["signs"]
def tS:FnScope vK ["signs"] (ak kh):=fsc
def oK:MS:=(aB (e2 eqD (e1 nO (ae 0)) (eN aQ (ac (ae 0) af))))
def fI:List D->Option (D×En):=fnF 0 [0] oK
abbrev m5:Stmt:=top 19
abbrev Aj:List Str:=["tongue"]
def wR:FnScope Aj ["tongue"] (ak m5):=fsc
def sC:MS:=(aB (eM joinD (eC (.str "")) (ac (ae 0) af)))
def im:List D->Option (D×En):=fnF 0 [0] sC
abbrev lN:Stmt:=top 18
abbrev vc:List Str:=["tongue","thing","signs"]
def yq:FnScope vc ["tongue","thing"] (ak lN):=fsc
def qE:ME:=(e2 xA (ae 0) (ae 1))
def lY:MS:=(al (sIf (bOr (bE (tV (e1 (bw "str") (ae 1)))) (tV (e2 gtI (eN aQ (ac (ae 1) af)) (eC (.int 60))))) (aB (eC (.bool false))) bc)
 (al (ao 2 (aq im (ac (ae 0) af)))
 (aB (eN kg (ac (eLC true (bO (ae 1)) (gN 0) cY qE [none,some 2]) af)))))
def fX:List D->Option (D×En):=fnF 1 [0,0] lY
abbrev iB:Stmt:=top 22
abbrev sN:List Str:=["tongue","thing"]
def qT:FnScope sN ["tongue","thing"] (ak iB):=fsc
def iE:MS:=(aB (iu (aq fX (ac (ae 0) (ac (ae 1) af))) (fE leI leI (eC (.int 1)) (eN aQ (ac (ae 1) af)) (eC (.int 6)))))
def cW:List D->Option (D×En):=fnF 0 [0,0] iE
abbrev lQ:Stmt:=top 29
abbrev ve:List Str:=["tongue","thing"]
def yu:FnScope ve ["tongue","thing"] (ak lQ):=fsc
def qI:ME:=(aq cW (ac (ae 1) (ac (ae 0) af)))
def l6:MS:=(al (sIf (bOr (bE (tV (e1 (bw "tuple") (ae 1)))) (tV (e2 gtI (eN aQ (ac (ae 1) af)) (eC (.int 12))))) (aB (eC (.bool false))) bc)
 (aB (iu (eN kg (ac (eLC true (bO (ae 1)) (gN 0) cY qI [none,some 0]) af)) (aq fI (ac (ae 1) af)))))
def fY:List D->Option (D×En):=fnF 0 [0,0] l6
abbrev dz:Stmt:=top 31
abbrev iH:List Str:=["part","text"]
def mw:FnScope iH ["part","text"] (ak dz):=fsc
def gH:MT:=(tV (eM gJ (ae 1) (ac (ae 0) af)))
def gI:ME:=(ae 0)
def iJ:MS:=(aB (eLC true (bO (ae 0)) (gN 0) gH gI [none,some 1]))
def cq:List D->Option (D×En):=fnF 0 [0,0] iJ
abbrev cu:Stmt:=top 30
abbrev gy:List Str:=["part"]
def kt:FnScope gy ["part"] (ak cu):=fsc
def fJ:ME:=(e2 eqD (aq cq (ac (ae 1) (ac (ae 0) af))) (aZ (ac (ae 0) af)))
def gE:MS:=(aB (eN kg (ac (eLC true (bO (ae 0)) (gN 0) cY fJ [none,some 0]) af)))
def bL:List D->Option (D×En):=fnF 0 [0] gE
abbrev ji:Stmt:=top 28
abbrev pB:List Str:=["tongue","thing"]
def yr:FnScope pB ["tongue","thing"] (ak ji):=fsc
def qG:ME:=(aq fY (ac (ae 1) (ac (ae 0) af)))
def qF:ME:=(aq bL (ac (ae 0) af))
def jy:MS:=(al (sIf (bOr (bE (tV (e1 (bw "tuple") (ae 1)))) (bE (tV (fE leI leI (eC (.int 1)) (eN aQ (ac (ae 1) af)) (eC (.int 5)))))) (aB (eC (.bool false))) bc)
 (aB (iu (eN kg (ac (eLC true (bO (ae 1)) (gN 0) cY qG [none,some 0]) af)) (eN kg (ac (eLC true (bO (eSl xO (ae 1) bx (bt (e1 AL (eC (.int 1)))))) (gN 0) cY qF [none]) af)))))
def eQ:List D->Option (D×En):=fnF 0 [0,0] jy
abbrev lP:Stmt:=top 27
abbrev vd:List Str:=["tongue","thing"]
def yt:FnScope vd ["tongue","thing"] (ak lP):=fsc
def qH:ME:=(aq eQ (ac (ae 1) (ac (ae 0) af)))
def lZ:MS:=(al (sIf (bOr (bE (tV (e1 (bw "tuple") (ae 1)))) (tV (e2 gtI (eN aQ (ac (ae 1) af)) (eC (.int 3))))) (aB (eC (.bool false))) bc)
 (aB (eN kg (ac (eLC true (bO (ae 1)) (gN 0) cY qH [none,some 0]) af))))
def cM:List D->Option (D×En):=fnF 0 [0,0] lZ
abbrev dN:Stmt:=top 41
abbrev gx:List Str:=["tongue","text","lines","plan"]
def scread_plan:FnScope gx ["tongue","text"] (ak dN):=fsc
def bh:ME:=(aq gR (ac (ae 0) af))
def qL:MS:=(al (sIf (bE (tV (e1 (bw "str") (ae 1)))) eG bc)
 (al (ao 2 (e2 dA (ae 1) (eC (.str "\n"))))
 (al (ao 3 (eN io (ac (eLC true (bO (eSl gW (ae 2) (bt (eC (.int 1))) bx)) (gN 0) cY bh [none]) af)))
 (al (sIf (bOr (tV (e2 neD (e2 ixA (ae 2) (eC (.int 0))) (eC (.str "plan")))) (bE (tV (aq cM (ac (ae 0) (ac (ae 3) af)))))) eG bc)
 (aB (ae 3))))))
def bA:List D->Option (D×En):=fnF 2 [0,0] qL
def dZ:MN:=(nOr (nIf (bE (tV (e1 (bw "str") (ae 1)))) (lq "NoText") nNo)
 (nOr (dL (sIf (bE (tV (e1 (bw "str") (ae 1)))) eG bc)
 (dL (ao 2 (e2 dA (ae 1) (eC (.str "\n"))))
 (nLC (bO (eSl gW (ae 2) (bt (eC (.int 1))) bx)) (gN 0) cY bh (bf b8 (ac (ae 0) af)) [none])))
 (dL (sIf (bE (tV (e1 (bw "str") (ae 1)))) eG bc)
 (dL (ao 2 (e2 dA (ae 1) (eC (.str "\n"))))
 (dL (ao 3 (eN io (ac (eLC true (bO (eSl gW (ae 2) (bt (eC (.int 1))) bx)) (gN 0) cY bh [none]) af)))
 (nIf (bOr (tV (e2 neD (e2 ixA (ae 2) (eC (.int 0))) (eC (.str "plan")))) (bE (tV (aq cM (ac (ae 0) (ac (ae 3) af)))))) (lq "NoText") nNo))))))
def aJ:List D->Option Str:=fnN 2 dZ
def vI(T:Bl mg)(lV:Kn P w K mg base k "step_of" ["text"] (spF K [0] 0 gR))(jm:Kn P w K mg base k "is_plan" ["tongue","thing"] (spF K [0,0] 3 cM))(GNstep_of:KnX P w K mg base k "step_of" ["text"] (spN K [0] (clK K) b8))(m_NoText:mg "NoText"=some (.ref (clK K "NoText")))(x_NoText:PySem.W.excIn K (clK K "NoText") vE "ValueError.__new__"=true)(F:Fun K "read_plan" "read_plan" dN f fd):FnOk P w K mg base (CXr P w) (k+1) f fd ["tongue","text"] (spN K [0,0] (clK K) aJ):=by
 have nd:=scread_plan.nd;refine F.okN (N:=gx) (b:=dZ) (ds0:=[0,0,0,0]) scread_plan rfl rfl rfl fun cdv A outer s H E hr R O=>?_;exact(tm (cI (qj (p:=false) (aS (aK (ci (K:=K) (n:="str") rfl rfl T.isinstance0 rfl T.str0 (by decide +kernel) (by decide) (fv 1) (by decide) rfl rfl rfl rfl) (fun _=>rfl))) (cI (je R PySem.F.excBase_ValueError x_NoText rfl m_NoText rfl)) qi)) (tm (eX (J:=⟨[],[0,0,0,0],0,[]⟩) (aM (ds2:=[0,0,0,0]) (aS (aK (ci (K:=K) (n:="str") rfl rfl T.isinstance0 rfl T.str0 (by decide +kernel) (by decide) (fv 1) (by decide) rfl rfl rfl rfl) (fun _=>rfl))) (aE di) aH) (eX (J:=⟨[],[0,0,0,0],0,[]⟩) (aP 2 [0,0,0,0] nd (fs0 (fC (K:=K) rfl (fv 1) ag rfl rfl rfl rfl rfl))) (cI (Gk (Lv (T:="tuple") (Lw (p:=false) (q:=true) (cd:=0) (dsi:=[0]) (lk:=[]) R (BlkOkC.of (ns:=["line"]) (js:=[none]) (N0:=gx) (sc0:=ak dN) rfl rfl (by decide +kernel)) (aY (K:=K) rfl (fs0 (aR (kA (K:=K) rfl) (fv 2) (aT aj) aU))) (fun _ _ _ _ _=>(fgn 0 [0] (ndk ["line"]))) (fun _ _ _ _ _=>bd) (fun _ _ _ _ _=>(fnn lV hr (fac (fv 0) aa))) (fun _ _ _ _ _ _ O=>(vO O GNstep_of hr rfl (fac (fv 0) aa) rfl rfl rfl rfl)) rfl (fun _=>rfl)) rfl T.tuple0 (by decide +kernel) (by decide) rfl rfl) rfl)))) (eX (J:=⟨[],[0,0,0,0],0,[]⟩) (aM (ds2:=[0,0,0,0]) (aS (aK (ci (K:=K) (n:="str") rfl rfl T.isinstance0 rfl T.str0 (by decide +kernel) (by decide) (fv 1) (by decide) rfl rfl rfl rfl) (fun _=>rfl))) (aE di) aH) (eX (J:=⟨[],[0,0,0,0],0,[]⟩) (aP 2 [0,0,0,0] nd (fs0 (fC (K:=K) rfl (fv 1) ag rfl rfl rfl rfl rfl))) (eX (J:=⟨[],[0,0,0,0],0,[]⟩) (aP 3 [0,0,0,0] nd (fct (eK (K:=K) rfl) T.tuple0 (by decide +kernel) (fac (fs0 (cb (cd:=0) (d:=1) (dsi:=[0]) (lk:=[]) (BlkOkC.of (ns:=["line"]) (js:=[none]) (N0:=gx) (sc0:=ak dN) rfl rfl (by decide +kernel)) rfl (aY (K:=K) rfl (fs0 (aR (kA (K:=K) rfl) (fv 2) (aT aj) aU))) (fun _ _ _ _ _=>(fgn 0 [0] (ndk ["line"]))) (fun _ _ _ _ _=>bd) (fun _ _ _ _ _=>(fnn lV hr (fac (fv 0) aa))) rfl rfl (by decide) rfl (fun _=>rfl))) aa))) (cI (qj (p:=false) (qpt (cx (ftn rfl hr.units (fxi rfl (fv 2)) ag) (bU (aS (aK (fnn jm hr (fac (fv 0) (fac (fv 3) aa))) (fun _=>rfl)))))) (cI (je R PySem.F.excBase_ValueError x_NoText rfl m_NoText rfl)) qi)))))))
abbrev fU:Stmt:=top 54
abbrev pC:List Str:=["_law_tongue_here","_law_thing","_law_way","_law_caught","e"]
def nY:FnScope pC ["_law_tongue_here","_law_thing","_law_way"] (ak fU):=fsc
def jz:MS:=(al (ao 3 (eC .none))
 (al (sIf (tV (e2 eqD (ae 2) (eC (.int 0)))) (nH kn0 [] 4 (eg (aq bA (ac (ae 0) (ac (ae 1) af)))) (bf aJ (ac (ae 0) (ac (ae 1) af))) (ao 3 (ae 4))) (nH kn0 [] 4 (eg (aq bA (ac (ae 0) (ac (ae 1) af)))) (bf aJ (ac (ae 0) (ac (ae 1) af))) (ao 3 (ae 4))))
 (al (sIf (tV (e1 (dh kn0 xt0) (ae 3))) (aB (eC (.bool false))) bc)
 (al (sIf (bOr (tV (e1 (dh kn0 xt1) (ae 3))) (bE (tV (e1 (dh kn0 eF) (ae 3))))) (aB (eC (.bool false))) bc)
 (aB (e1 (dh kn0 i8) (ae 3)))))))
def bX:List D->Option (D×En):=fnF 2 [0,0,0] jz
abbrev lM:Stmt:=top 40
abbrev xW:List Str:=["step","words","part"]
def vj:FnScope xW ["step"] (ak lM):=fsc
def nj:MS:=(al (eg (ft 1 (eN wP (ac (eN aQ (ac (ae 2) af)) af))))
 (eg (nS 1 (ae 2))))
def qJ:MS:=(al (ao 1 (aZ af))
 (al (gK (bO (ae 0)) (gN 2) nj)
 (aB (eM joinD (eC (.str " ")) (ac (ae 1) af)))))
def gA:List D->Option (D×En):=fnF 2 [0] qJ
abbrev iU:Stmt:=top 39
abbrev qB:List Str:=["plan"]
def vk:FnScope qB ["plan"] (ak iU):=fsc
def nu:ME:=(aq gA (ac (ae 0) af))
def qK:MS:=(aB (eM joinD (eC (.str "\n")) (ac (e2 fw (aZ (ac (eC (.str "plan")) af)) (eLC true (bO (ae 0)) (gN 0) cY nu [none])) af)))
def gB:List D->Option (D×En):=fnF 0 [0] qK
abbrev fy:Stmt:=top 58
abbrev oh:List Str:=["_law_tongue_here","_law_text_here","_law_plan_here"]
def mx:FnScope oh ["_law_tongue_here","_law_text_here"] (ak fy):=fsc
def iK:MS:=(al (ao 2 (eC .none))
 (al (kW kn0 [] (ao 2 (aq bA (ac (ae 0) (ac (ae 1) af)))) (bf aJ (ac (ae 0) (ac (ae 1) af))) (aB (eC (.bool true))))
 (aB (iu (e2 isB (aq cM (ac (ae 0) (ac (ae 2) af))) (eC (.bool true))) (e2 eqD (aq gB (ac (ae 2) af)) (ae 1))))))
def cr:List D->Option (D×En):=fnF 1 [0,0] iK
abbrev iC:Stmt:=top 57
abbrev sO:List Str:=["_law_pen_here","_law_text_here","_law_at","_law_sign","_law_way"]
def qU:FnScope sO ["_law_pen_here","_law_text_here"] (ak iC):=fsc
def mj:MS:=(al (ao 2 (aq aO (aL 0 (ac (eN aQ (ac (ae 1) af)) af))))
 (al (ao 3 (e2 ixT (eC (.str "0123456789 -aAb~\nplan1")) (aq aO (aL 0 (ac (eC (.int 22)) af)))))
 (al (ao 4 (aq aO (aL 0 (ac (eC (.int 3)) af))))
 (al (sIf (tV (e2 eqD (ae 4) (eC (.int 0)))) (aB (e2 ar (eSl fu (ae 1) bx (bt (ae 2))) (eSl fu (ae 1) (bt (e2 ar (ae 2) (eC (.int 1)))) bx))) bc)
 (aB (e2 ar (e2 ar (eSl fu (ae 1) bx (bt (ae 2))) (ae 3)) (eSl fu (ae 1) (bt (e2 jZ (e2 ar (ae 2) (ae 4)) (eC (.int 1)))) bx)))))))
def dQ:List D->Option (D×En):=fnF 3 [1,0] mj
abbrev pz:Stmt:=top 59
abbrev M6:List Str:=["_law_script","_law_pen_here","_law_tongue_here","_law_plan_here","_law_text_here","_law_thing","_law_line","_law_turn"]
def LA:FnScope M6 ["_law_script"] (ak pz):=fsc
def An:MS:=(sIf (bE (tV (aq bX (ac (ae 2) (ac (ae 5) (ac (aq aO (aL 1 (ac (eC (.int 2)) af))) af)))))) (aB (eC (.bool false))) bc)
def Am:MS:=(sIf (bE (tV (aq bX (ac (ae 2) (ac (e2 ar (e2 ar (ae 4) (eC (.str "\n"))) (ae 6)) (ac (aq aO (aL 1 (ac (eC (.int 2)) af))) af)))))) (aB (eC (.bool false))) bc)
def Al:MS:=(sIf (bE (tV (aq cr (ac (ae 2) (ac (aq dQ (aL 1 (ac (ae 4) af))) af))))) (aB (eC (.bool false))) bc)
def Ls:MS:=(al (ao 1 (aq F_law_pen (ac (ae 0) (ac (eC (.int 0)) af))))
 (al (ao 2 (aq cN (aL 1 af)))
 (al (ao 3 (aq gC (aL 1 (ac (ae 2) (ac (eC (.int 2)) af)))))
 (al (ao 4 (aq fg (ac (ae 3) af)))
 (al (ao 1 (aq F_law_pen (ac (ae 0) (ac (eC (.int 28)) af))))
 (al (sIf (bE (tV (aq (aX 6) (ac (aq bA (ac (ae 2) (ac (ae 4) af))) (ac (ae 3) af))))) (aB (eC (.bool false))) bc)
 (al (gK (bO (aq dC (aL 1 (ac (ae 3) af)))) (gN 5) An)
 (al (gK (bO (aq dD (ac (ae 2) af))) (gN 6) Am)
 (al (gK (dP (ac (eC (.int 24)) af)) (gN 7) Al)
 (aB (aq (aX 6) (ac (aq bA (ac (ae 2) (ac (ae 4) af))) (ac (ae 3) af)))))))))))))
def ye:List D->Option (D×En):=fnF 7 [0] Ls
section
variable(P:Program)(w:World)(K:zbS)(mg:Str->Option Value)(base:Heap)(k:Nat)
abbrev nh:Prop:=Kn P w K mg base k "_law_mixed" ["_law_cell","_law_k"] (spF K [0,0] 3 dw)
abbrev cw:Prop:=Kn P w K mg base k "_law_take" ["_law_pen_here","_law_most"] (spF K [1,0] 0 aO)
abbrev me:Prop:=Kn P w K mg base k "_law_tongue" ["_law_pen_here","_law_many"] (spF K [1,0] 0 eR)
abbrev oG:Prop:=Kn P w K mg base k "_law_part" ["_law_pen_here","_law_letters","_law_any_words"] (spF K [1,0,0] 0 gD)
abbrev kj:Prop:=Kn P w K mg base k "_law_text" ["_law_plan_here"] (spF K [0] 3 fg)
abbrev jj:Prop:=Kn P w K mg base k "word_ahead" ["left"] (spF K [1] 0 bJ)
abbrev jk:Prop:=Kn P w K mg base k "is_number_text" ["text"] (spF K [0] 3 be)
abbrev kG:Prop:=Kn P w K mg base k "number_ahead" ["left"] (spF K [1] 3 bM)
abbrev m7:Prop:=Kn P w K mg base k "part_ahead" ["left"] (spF K [1] 0 dY)
abbrev qy:Prop:=Kn P w K mg base k "signs_of" ["tongue"] (spF K [0] 3 im)
abbrev sv:Prop:=Kn P w K mg base k "is_word" ["tongue","thing"] (spF K [0,0] 3 fX)
abbrev m9:Prop:=Kn P w K mg base k "are_unlike" ["signs"] (spF K [0] 3 fI)
abbrev kH:Prop:=Kn P w K mg base k "is_told_word" ["tongue","thing"] (spF K [0,0] 3 cW)
abbrev ij:Prop:=Kn P w K mg base k "words_that_begin" ["part","text"] (spF K [0,0] 1 cq)
abbrev sy:Prop:=Kn P w K mg base k "is_part" ["tongue","thing"] (spF K [0,0] 3 fY)
abbrev gh:Prop:=Kn P w K mg base k "none_begins_another" ["part"] (spF K [0] 3 bL)
abbrev sw:Prop:=Kn P w K mg base k "is_step" ["tongue","thing"] (spF K [0,0] 3 eQ)
abbrev su:Prop:=Kn P w K mg base k "step_of" ["text"] (spF K [0] 0 gR)
abbrev m8:Prop:=Kn P w K mg base k "is_plan" ["tongue","thing"] (spF K [0,0] 3 cM)
abbrev hU:Prop:=Kn P w K mg base k "read_plan" ["tongue","text"] (spF K [0,0] 0 bA)
abbrev oB:Prop:=Kn P w K mg base k "show_step" ["step"] (spF K [0] 3 gA)
abbrev oE:Prop:=Kn P w K mg base k "show_plan" ["plan"] (spF K [0] 3 gB)
abbrev qz:Prop:=Kn P w K mg base k "_law_pen" ["_law_script","_law_first"] (spF K [0,0] 1 F_law_pen)
abbrev iG:Prop:=Kn P w K mg base k "_law_any_tongue" ["_law_pen_here"] (spF K [1] 0 cN)
abbrev oF:Prop:=Kn P w K mg base k "_law_plan" ["_law_pen_here","_law_tongue_here","_law_most"] (spF K [1,0,0] 0 gC)
abbrev jW:Prop:=Kn P w K mg base k "_law_no_texts" ["_law_pen_here","_law_plan_here"] (spF K [1,0] 1 dC)
abbrev jX:Prop:=Kn P w K mg base k "_law_no_lines" ["_law_tongue_here"] (spF K [0] 1 dD)
abbrev iF:Prop:=Kn P w K mg base k "_law_is_refused" ["_law_tongue_here","_law_thing","_law_way"] (spF K [0,0,0] 3 bX)
abbrev ik:Prop:=Kn P w K mg base k "_law_shown_again" ["_law_tongue_here","_law_text_here"] (spF K [0,0] 3 cr)
abbrev kI:Prop:=Kn P w K mg base k "_law_changed" ["_law_pen_here","_law_text_here"] (spF K [1,0] 3 dQ)
end
def w6(T:Bl mg)(F:Fun K "_law_pen" "_law_pen" m6 f fd):FnOk P w K mg base CX0 (k+1) f fd ["_law_script","_law_first"] (spF K [0,0] 1 F_law_pen):=
 F.okR wS ⟨[],[0,0],1,[]⟩ [0,0] fun nd _ _ _ _ _ _ hr=>(frt (zK (fs:=[((eC (.str "script")),(ae 0)),((eC (.str "at")),(ae 1)),((eC (.str "left")),(eC (.int 0)))]) (mO ag (fv 0) (mO ag (fv 1) (mO ag (fs0 aj) Be))) rfl rfl (fun z=>nomatch z) (by decide)))
def ug(T:Bl mg)(F:Fun K "_law_mixed" "_law_mixed" ki f fd):FnOk P w K mg base CX0 (k+1) f fd ["_law_cell","_law_k"] (spF K [0,0] 3 dw):=
 F.okR tT ⟨[],[0,0,0,0],3,[]⟩ [0,0,0,0] fun nd _ _ _ _ _ _ hr=>(ah (aP 2 [0,0,0,0] nd (fs0 (ai jd (ai ia (ai am (ai am (ai jd (fv 0) aj) (ai ia aj (fv 1))) aj) aj) aj))) (ah (aP 3 [0,0,0,0] nd (fs0 (ai jd (ai am (ai am (ai ia (fv 2) (fv 2)) (ai ia aj (fv 2))) (fv 1)) aj))) (frt (ai wu (ai jd (ai am (ai am (ai ia (fv 3) (fv 3)) (ai ia aj (fv 3))) (ai ia aj (fv 1))) aj) aj))))
def vA(T:Bl mg)(vN:nh P w K mg base k)(F:Fun K "_law_take" "_law_take" lT f fd):FnOk P w K mg base CX0 (k+1) f fd ["_law_pen_here","_law_most"] (spF K [1,0] 0 aO):=
 F.okR vn ⟨[0],[1,0,0,0,0,0],0,[]⟩ [1,0,0,0,0,0] fun nd _ _ _ _ _ _ hr=>(ah (aP 2 [1,0,0,0,0,0] nd (gn (i:=0) (jK hr) rfl (.inl rfl) rfl ag (fun _ _=>rfl) rfl rfl)) (ah (aP 3 [1,0,0,0,0,0] nd (gn (i:=0) (jK hr) rfl (.inl rfl) rfl ag (fun _ _=>rfl) rfl rfl)) (ah (aM (ds2:=[1,0,0,0,0,0]) (fte rfl hr.units (gn (i:=0) (jK hr) rfl (.inl rfl) rfl ag (fun _ _=>rfl) rfl rfl) aj) (ah (lC (i:=0) (jK hr) rfl (.inl rfl) (fs0 (ai am (fv 2) aj)) ag rfl rfl rfl rfl) (ah (aP 4 [1,0,0,0,0,0] nd (fs0 aj)) (ah (aM (ds2:=[1,0,0,0,0,0]) (bj jO (fln rfl T.len0 (fac (fv 3) aa)) aj (bp _)) (aE (aP 4 [1,0,0,0,0,0] nd (eY (qh (K:=K) rfl) (fv 3) (ai jd (fv 2) (fln rfl T.len0 (fac (fv 3) aa))) (fun _ _=>rfl)))) aH) (ah (aM (ds2:=[1,0,0,0,0,0]) (qpt (cx (bj Mc (fv 2) (fln rfl T.len0 (fac (fv 3) aa)) (bp _)) (bU (bj ED (fcb zE T.abs0 (by decide +kernel) (fac (fv 4) aa)) (ai KD aj aj) (bp _))))) (frt (fs0 (ai jd (fnn vN hr (fac (fv 4) (fac (fv 2) aa))) (fv 1)))) aH) (aE (lC (i:=0) (jK hr) rfl (.inl rfl) (fs0 (fcb zE T.abs0 (by decide +kernel) (fac (fv 4) aa))) ag rfl rfl rfl rfl)))))) aH) (ah (aP 5 [1,0,0,0,0,0] nd (fs0 (ai jd (gn (i:=0) (jK hr) rfl (.inl rfl) rfl ag (fun _ _=>rfl) rfl rfl) (fv 1)))) (ah (lC (i:=0) (jK hr) rfl (.inl rfl) (fs0 (ai wu (gn (i:=0) (jK hr) rfl (.inl rfl) rfl ag (fun _ _=>rfl) rfl rfl) (fv 1))) ag rfl rfl rfl rfl) (frt (fv 5)))))))
def sL(T:Bl mg)(aN:cw P w K mg base k)(F:Fun K "_law_tongue" "_law_tongue" gu f fd):FnOk P w K mg base CX0 (k+1) f fd ["_law_pen_here","_law_many"] (spF K [1,0] 0 eR):=
 F.okR sK ⟨[0],[1,0,0,0,0,0],0,[]⟩ [1,0,0,0,0,0] fun nd _ _ _ _ _ _ hr=>(ah (da (i:=2) (d:=0) (ds':=[1,0,0,0,0,0]) nd rfl (.inr rfl) (fs0 (fct (nQ (K:=K) rfl rfl) T.list0 (by decide +kernel) (fac (fs0 ag) aa))) rfl (by decide) (by decide) rfl (.inl rfl)) (ah (da (i:=2) (d:=1) (ds':=[1,0,1,0,0,0]) nd rfl (.inr rfl) (ai (cy (K:=K) rfl) (fvc 2) (fct (nQ (K:=K) rfl rfl) T.list0 (by decide +kernel) (fac (fs0 ag) aa))) rfl (by decide) (by decide) rfl (.inl rfl)) (ah (jN (ds1:=[1,0,1,0,0,0]) (ke (i:=3) (ds':=[1,0,1,1,0,0]) (cd:=0) (d:=1) (dsi:=[0,1,1]) (lk:=[1,2]) nd rfl rfl (BlkOkC.of (ns:=["_law_k","_law_pen_here","_law_signs"]) (js:=[none,some 0,some 2]) (N0:=ni) (sc0:=ak gu) rfl rfl (by decide +kernel)) rfl (dG rfl T.range0 (fac (fv 1) aa) rfl) (fun _ _ _ _ _=>(fgn 0 [0,1,1] (ndk ["_law_k","_law_pen_here","_law_signs"]))) (fun _ _ _ _ _=>bd) (fun _ _ _ _ _=>(qk (K:=K) (i:=2) (d:=1) rfl rfl (.inr (.inl rfl)) rfl (fns aN hr (ir 1 (fac (fs0 (lE (ds0:=[0,1,0]) (fln rfl T.len0 (fac (fvc 2) aa)) rfl)) aa))) (by decide) rfl rfl rfl rfl rfl rfl rfl rfl)) rfl rfl rfl (by decide) rfl (by decide) (by decide) rfl (fun _=>rfl)) rfl) (ah (aP 4 [1,0,1,0,1,0] nd (cJ (d':=1) (aI (d:=3) (c:=3) aa rfl rfl (by decide)) (by decide))) (ah (oq (ds:=[1,0,1,0,1,0]) (ftn rfl hr.units (fv 3) (aI (d:=3) (c:=3) aa rfl rfl (by decide))) (ah (aP 5 [1,0,1,0,1,0] nd (fs0 (ai am aj (fns aN hr (ir 0 (fac (fs0 (fcb (Gh rfl) T.min0 (by decide +kernel) (fac (fs0 aj) (fac (fs0 (fln rfl T.len0 (fac (fv 3) aa))) aa)))) aa)))))) (ah (aP 5 [1,0,1,0,1,0] nd (fs0 (lE (ds0:=[1,0,1,0,0,0]) (fcb (Gi rfl) T.max0 (by decide +kernel) (fac (fv 5) (fac (fs0 (ai mP (fln rfl T.len0 (fac (fv 3) aa)) (ai ia aj (ai mP aj (fln rfl T.len0 (fac (fv 4) aa)))))) aa))) rfl))) (ah (bG (dk (K:=K) (i:=4) (d:=1) rfl rfl (.inl rfl) rfl (fs0 (bn (K:=K) rfl PySem.F.slot_str_join PySem.F.type_str_join (cU rfl) cV ag (fac (fs0 (aR (kA (K:=K) rfl) (fv 3) aU (aT (fv 5)))) aa) rfl rfl rfl rfl rfl rfl)) (by decide) rfl rfl rfl rfl rfl rfl rfl rfl) rfl) (aE (aP 3 [1,0,1,0,1,0] nd (fs0 (aR (kA (K:=K) rfl) (fv 3) (aT (fv 5)) aU))))))) PassesOwn.never) (frt (fct (eK (K:=K) rfl) T.tuple0 (by decide +kernel) (fac (kB (ds0:=[1,0,1,0,0,0]) (fP (p:=false) (i:=4) rfl (.inl rfl) rfl rfl rfl) rfl) aa))))))))
def n8(T:Bl mg)(vf:me P w K mg base k)(aN:cw P w K mg base k)(F:Fun K "_law_any_tongue" "_law_any_tongue" fV f fd):FnOk P w K mg base CX0 (k+1) f fd ["_law_pen_here"] (spF K [1] 0 cN):=
 F.okR nZ ⟨[0],[1,0],0,[]⟩ [1,0] fun nd _ _ _ _ _ _ hr=>(ah (aP 1 [1,1] nd (cJ (d':=1) (aI (d:=3) (c:=3) (fac (eL (d:=3) (c:=3) (fac ag aa) rfl rfl) (fac (eL (d:=3) (c:=3) (fac ag (fac ag (fac ag aa))) rfl rfl) (fac (eL (d:=3) (c:=3) (fac ag (fac ag aa)) rfl rfl) (fac (eL (d:=3) (c:=3) (fac ag (fac ag (fac ag aa))) rfl rfl) (fac (eL (d:=3) (c:=3) (fac ag (fac ag (fac ag (fac ag aa)))) rfl rfl) (fac (eL (d:=3) (c:=3) (fac ag aa) rfl rfl) aa)))))) rfl rfl (by decide)) (by decide))) (ah (bG (dk (K:=K) (i:=1) (d:=1) rfl rfl (.inl rfl) rfl (fs0 (eL (d:=3) (c:=3) (fac ag (fac ag (fac ag aa))) rfl rfl)) (by decide) rfl rfl rfl rfl rfl rfl rfl rfl) rfl) (ah (aM (ds2:=[1,1]) (fte rfl hr.units (fns aN hr (fsl 0 (fac (fs0 aj) aa))) aj) (frt (Bo (K:=K) (i:=1) rfl rfl (.inl rfl) rfl (fns aN hr (fsl 0 (fac (fs0 aj) aa))) (fun _ _=>rfl) rfl rfl)) aH) (frt (fns vf hr (fsl 0 (fac (eY (qh (K:=K) rfl) (aI (d:=3) (c:=3) (fac aj (fac aj (fac aj (fac aj (fac aj (fac aj (fac aj (fac (ai am aj (fns aN hr (fsl 0 (fac (fs0 aj) aa)))) aa)))))))) rfl rfl (by decide)) (fns aN hr (fsl 0 (fac (fs0 aj) aa))) (fun _ _=>rfl)) aa)))))))
def vC(T:Bl mg)(aN:cw P w K mg base k)(F:Fun K "_law_part" "_law_part" gw f fd):FnOk P w K mg base CX0 (k+1) f fd ["_law_pen_here","_law_letters","_law_any_words"] (spF K [1,0,0] 0 gD):=
 F.okR vq ⟨[0],[1,0,0,0,0,0,0],0,[]⟩ [1,0,0,0,0,0,0] fun nd _ _ _ _ _ _ hr=>(ah (aP 3 [1,0,0,1,0,0,0] nd (cJ (d':=1) (aI (d:=3) (c:=3) aa rfl rfl (by decide)) (by decide))) (ah (dF (ds1:=[1,0,0,1,0,0,0]) rfl (dG rfl T.range0 (fac (eY (qh (K:=K) rfl) (aI (d:=3) (c:=3) (fac aj (fac aj (fac aj (fac aj (fac aj (fac aj (fac aj (fac aj aa)))))))) rfl rfl (by decide)) (fns aN hr (ir 0 (fac (fs0 aj) aa))) (fun _ _=>rfl)) aa) rfl) (fgn 4 [1,0,0,1,0,0,0] nd) (ah (da (i:=5) (d:=0) (ds':=[1,0,0,1,0,0,0]) nd rfl (.inr rfl) (fs0 (bn (K:=K) rfl PySem.F.slot_str_join PySem.F.type_str_join (cU rfl) cV ag (fac (fs0 (pj (cd:=3) (d:=3) (dsi:=[0,1,0]) (lk:=[1,2]) (BlkOkC.of (ns:=["_law_k","_law_pen_here","_law_letters"]) (js:=[none,some 0,some 1]) (N0:=lU) (sc0:=ak gw) rfl rfl (by decide +kernel)) rfl (dG rfl T.range0 (fac (fs0 (ai am aj (fns aN hr (ir 0 (fac (fs0 aj) aa))))) aa) rfl) (fun _ _ _ _ _=>(fgn 0 [0,1,0] (ndk ["_law_k","_law_pen_here","_law_letters"]))) (fun _ _ _ _ _=>bd) (fun _ _ _ _ _=>(eY qg (fvc 2) (fns aN hr (ir 1 (fac (fs0 (fln rfl T.len0 (fac (fvc 2) aa))) aa))) (fun _ _=>rfl))) rfl rfl (by decide) rfl (fun _=>rfl))) aa) rfl rfl rfl rfl rfl rfl)) rfl (by decide) (by decide) rfl (.inl rfl)) (ah (jN (ds1:=[1,0,0,1,0,0,0]) (uR (i:=6) (ds0:=[1,0,0,0,0,0,0]) (ds':=[1,0,0,1,0,0,3]) (dsi:=[0,0]) (lk:=[1]) nd rfl rfl (BlkOkC.of (ns:=["_law_one","_law_word"]) (js:=[none,some 5]) (N0:=lU) (sc0:=ak gw) rfl rfl (by decide +kernel)) rfl (aY (K:=K) rfl (fv 3)) (fun _ _ _ _ _=>(fgn 0 [0,0] (ndk ["_law_one","_law_word"]))) (fun _ _ _ _ _=>(jM (qpt (cx (aK (bn (K:=K) rfl PySem.F.slot_str_startswith PySem.F.type_str_startswith jH jP (fv 0) (fac (fvc 1) aa) rfl rfl rfl rfl rfl rfl) (fun _=>rfl)) (bU (aK (bn (K:=K) rfl PySem.F.slot_str_startswith PySem.F.type_str_startswith jH jP (fvc 1) (fac (fv 0) aa) rfl rfl rfl rfl rfl rfl) (fun _=>rfl))))))) (fun _ _ _ _ _=>(Gx (fv 0))) rfl rfl rfl rfl (by decide) (by decide) rfl (fun _=>rfl)) rfl) (aE (aM (ds2:=[1,0,0,1,0,0,0]) (qpt (uM (dE (ds0:=[1,0,0,0,0,0,0]) (bj (Bf (K:=K) rfl hr.units) (fvc 5) (fv 3) (by with_unfolding_all rfl)) rfl) (uM (dE (ds0:=[1,0,0,0,0,0,0]) (bj ED (fln rfl T.len0 (fac (fv 3) aa)) aj (bp _)) rfl) (zu (qpt (cx (aK (fv 2) (fun _=>rfl)) (bU (fte rfl hr.units (fv 6) (aI (d:=3) (c:=3) aa rfl rfl (by decide)))))))))) (aE (bG (dk (K:=K) (i:=3) (d:=1) rfl rfl (.inl rfl) rfl (fvc 5) (by decide) rfl rfl rfl rfl rfl rfl rfl rfl) rfl)) aH)))) PassesOwn.never (fun _=>rfl)) (frt (fct (eK (K:=K) rfl) T.tuple0 (by decide +kernel) (fac (kB (ds0:=[1,0,0,0,0,0,0]) (fP (p:=false) (i:=3) rfl (.inl rfl) rfl rfl rfl) rfl) aa)))))
def vB(T:Bl mg)(aN:cw P w K mg base k)(yd:oG P w K mg base k)(F:Fun K "_law_plan" "_law_plan" iW f fd):FnOk P w K mg base CX0 (k+1) f fd ["_law_pen_here","_law_tongue_here","_law_most"] (spF K [1,0,0] 0 gC):=
 F.okR vp ⟨[0],[1,0,0,0,0,0,0],0,[]⟩ [1,0,0,0,0,0,0] fun nd _ _ _ _ _ _ hr=>(ah (da (i:=3) (d:=0) (ds':=[1,0,0,0,0,0,0]) nd rfl (.inr rfl) (fs0 (bn (K:=K) rfl PySem.F.slot_str_join PySem.F.type_str_join (cU rfl) cV ag (fac (fv 1) aa) rfl rfl rfl rfl rfl rfl)) rfl (by decide) (by decide) rfl (.inl rfl)) (ah (aP 4 [1,0,0,0,1,0,0] nd (cJ (d':=1) (aI (d:=3) (c:=3) aa rfl rfl (by decide)) (by decide))) (ah (dF (ds1:=[1,0,0,0,1,0,0]) rfl (dG rfl T.range0 (fac (fns aN hr (ir 0 (fac (fs0 (ai am (fv 2) aj)) aa))) aa) rfl) (fgn 5 [1,0,0,0,1,0,0] nd) (ah (da (i:=6) (d:=0) (ds':=[1,0,0,0,1,0,0]) nd rfl (.inr rfl) (fs0 (ai am aj (fns aN hr (ir 0 (fac (fs0 aj) aa))))) rfl (by decide) (by decide) rfl (.inl rfl)) (aE (bG (dk (K:=K) (i:=4) (d:=1) rfl rfl (.inl rfl) rfl (fct (eK (K:=K) rfl) T.tuple0 (by decide +kernel) (fac (fs0 (pj (cd:=0) (d:=1) (dsi:=[0,1,0,0]) (lk:=[1,2,3]) (BlkOkC.of (ns:=["_law_k","_law_pen_here","_law_letters","_law_many"]) (js:=[none,some 0,some 3,some 6]) (N0:=qD) (sc0:=ak iW) rfl rfl (by decide +kernel)) rfl (dG rfl T.range0 (fac (fvc 6) aa) rfl) (fun _ _ _ _ _=>(fgn 0 [0,1,0,0] (ndk ["_law_k","_law_pen_here","_law_letters","_law_many"]))) (fun _ _ _ _ _=>bd) (fun _ _ _ _ _=>(fns yd hr (ir 1 (fac (fvc 2) (fac (fs0 (cK (iT (K:=K) rfl hr.units) (fv 0) (ai mP (fvc 3) aj) (bp _))) aa))))) rfl rfl (by decide) rfl (fun _=>rfl))) aa)) (by decide) rfl rfl rfl rfl rfl rfl rfl rfl) rfl))) PassesOwn.never (fun _=>rfl)) (frt (fct (eK (K:=K) rfl) T.tuple0 (by decide +kernel) (fac (kB (ds0:=[1,0,0,0,0,0,0]) (fP (p:=false) (i:=4) rfl (.inl rfl) rfl rfl rfl) rfl) aa))))))
def vz(T:Bl mg)(F:Fun K "_law_text" "_law_text" lR f fd):FnOk P w K mg base CX0 (k+1) f fd ["_law_plan_here"] (spF K [0] 3 fg):=
 F.okR vm ⟨[],[0,0,0,0,0],3,[]⟩ [0,0,0,0,0] fun nd _ _ _ _ _ _ hr=>(ah (aP 1 [0,1,0,0,0] nd (cJ (d':=1) (aI (d:=3) (c:=3) (fac ag aa) rfl rfl (by decide)) (by decide))) (ah (dF (ds1:=[0,1,0,0,0]) rfl (aY (K:=K) rfl (fv 0)) (fgn 2 [0,1,0,0,0] nd) (ah (aP 3 [0,1,0,0,0] nd (fs0 (aI (d:=3) (c:=3) aa rfl rfl (by decide)))) (ah (dF (ds1:=[0,1,0,0,0]) rfl (aY (K:=K) rfl (fv 2)) (fgn 4 [0,1,0,0,0] nd) (aE (aP 3 [0,1,0,0,0] nd (fs0 (ai (cy (K:=K) rfl) (ai (cy (K:=K) rfl) (fv 3) (aI (d:=3) (c:=3) (fac (fct wt T.str0 (by decide +kernel) (fac (fs0 (fln rfl T.len0 (fac (fv 4) aa))) aa)) aa) rfl rfl (by decide))) (fct (nQ (K:=K) rfl rfl) T.list0 (by decide +kernel) (fac (fv 4) aa)))))) PassesOwn.never (fun _=>rfl)) (aE (bG (dk (K:=K) (i:=1) (d:=1) rfl rfl (.inl rfl) rfl (fs0 (bn (K:=K) rfl PySem.F.slot_str_join PySem.F.type_str_join (cU rfl) cV ag (fac (fv 3) aa) rfl rfl rfl rfl rfl rfl)) (by decide) rfl rfl rfl rfl rfl rfl rfl rfl) rfl)))) PassesOwn.never (fun _=>rfl)) (frt (lE (ds0:=[0,0,0,0,0]) (bn (K:=K) rfl PySem.F.slot_str_join PySem.F.type_str_join (cU rfl) cV ag (fac (fv 1) aa) rfl rfl rfl rfl rfl rfl) rfl))))
def pU(T:Bl mg)(lX:kj P w K mg base k)(aN:cw P w K mg base k)(F:Fun K "_law_no_texts" "_law_no_texts" e9 f fd):FnOk P w K mg base CX0 (k+1) f fd ["_law_pen_here","_law_plan_here"] (spF K [1,0] 1 dC):=
 F.okR pL ⟨[0],[1,0,0,0,0,0],1,[]⟩ [1,0,0,0,0,0] fun nd _ _ _ _ _ _ hr=>(ah (da (i:=2) (d:=0) (ds':=[1,0,0,0,0,0]) nd rfl (.inr rfl) (fs0 (fnn lX hr (fac (fv 1) aa))) rfl (by decide) (by decide) rfl (.inl rfl)) (ah (jN (ds1:=[1,0,0,0,0,0]) (ke (i:=3) (ds':=[1,0,0,1,0,0]) (cd:=0) (d:=1) (dsi:=[0,0]) (lk:=[1]) nd rfl rfl (BlkOkC.of (ns:=["_law_at","_law_text_here"]) (js:=[none,some 2]) (N0:=kK) (sc0:=ak e9) rfl rfl (by decide +kernel)) rfl (dG rfl T.range0 (fac (fs0 (fln rfl T.len0 (fac (fvc 2) aa))) aa) rfl) (fun _ _ _ _ _=>(fgn 0 [0,0] (ndk ["_law_at","_law_text_here"]))) (fun _ _ _ _ _=>(jM (fte rfl hr.units (eY qg (fvc 1) (fv 0) (fun _ _=>rfl)) ag))) (fun _ _ _ _ _=>(fv 0)) rfl rfl rfl (by decide) rfl (by decide) (by decide) rfl (fun _=>rfl)) rfl) (ah (aP 4 [1,0,0,0,0,0] nd (fs0 (aI (d:=3) (c:=3) (fac (ai am (fvc 2) ag) (fac (ai am ag (fvc 2)) (fac (ai am (fvc 2) ag) (fac (ai am ag (fvc 2)) (fac (ai am ag (fvc 2)) (fac (ai am ag (aR db (fvc 2) (aT aj) aU)) (fac (aR db (fvc 2) (aT aj) aU) (fac (aR db (fvc 2) (aT aj) aU) aa)))))))) rfl rfl (by decide)))) (ah (aP 4 [1,0,0,0,1,0] nd (ai (cy (K:=K) rfl) (fv 4) (aI (d:=3) (c:=3) (fac (ai am ag (aR db (fvc 2) (aT aj) aU)) (fac (ai am ag (aR db (fvc 2) (aT aj) aU)) (fac (ai am ag (aR db (fvc 2) (aT aj) aU)) (fac (ai am (fvc 2) (ai rB ag (ai mP aj (fln rfl T.len0 (fac (fv 1) aa))))) (fac ag (fac ag aa)))))) rfl rfl (by decide)))) (ah (aM (ds2:=[1,0,0,0,1,0]) (ftn rfl hr.units (fv 3) (aI (d:=3) (c:=3) aa rfl rfl (by decide))) (ah (aP 5 [1,0,0,0,1,0] nd (eY (qh (K:=K) rfl) (fv 3) (fns aN hr (fsl 0 (fac (fs0 (fln rfl T.len0 (fac (fv 3) aa))) aa))) (fun _ _=>rfl))) (ah (bG (dk (K:=K) (i:=4) (d:=1) rfl rfl (.inl rfl) rfl (fs0 (ai am (ai am (aR db (fvc 2) aU (aT (fv 5))) ag) (aR db (fvc 2) (aT (fv 5)) aU))) (by decide) rfl rfl rfl rfl rfl rfl rfl rfl) rfl) (aE (bG (dk (K:=K) (i:=4) (d:=1) rfl rfl (.inl rfl) rfl (fs0 (ai am (ai am (aR db (fvc 2) aU (aT (fv 5))) ag) (aR db (fvc 2) (aT (fv 5)) aU))) (by decide) rfl rfl rfl rfl rfl rfl rfl rfl) rfl)))) aH) (frt (ai (cy (K:=K) rfl) (kB (ds0:=[1,0,0,0,0,0]) (fP (p:=false) (i:=4) rfl (.inl rfl) rfl rfl rfl) rfl) (aI (d:=1) (c:=0) (fac ag (fac ag (fac lD (fac aj (fac bV (fac (aI (d:=1) (c:=0) (fac (fvc 2) aa) rfl rfl (by decide)) (fac (eL (d:=0) (c:=0) (fac (fvc 2) aa) rfl rfl) (fac zJ (fac (fv 1) (fac (aI (d:=3) (c:=3) aa rfl rfl (by decide)) (fac (fct (nQ (K:=K) rfl rfl) T.list0 (by decide +kernel) (fac (fvc 2) aa)) aa))))))))))) rfl rfl (by decide)))))))))
def pV(T:Bl mg)(F:Fun K "_law_no_lines" "_law_no_lines" cz f fd):FnOk P w K mg base CX0 (k+1) f fd ["_law_tongue_here"] (spF K [0] 1 dD):=
 F.okR pM ⟨[],[0,0,0,0,0],1,[]⟩ [0,0,0,0,0] fun nd _ _ _ _ _ _ hr=>(ah (da (i:=1) (d:=0) (ds':=[0,0,0,0,0]) nd rfl (.inr rfl) (fs0 (eY qg (fxi rfl (fvc 0)) aj (fun _ _=>rfl))) rfl (by decide) (by decide) rfl (.inl rfl)) (ah (aP 2 [0,0,0,0,0] nd (fs0 (ai rB (fvc 1) aj))) (ah (jN (ds1:=[0,0,0,0,0]) (ke (i:=3) (ds':=[0,0,0,1,0]) (cd:=0) (d:=1) (dsi:=[0,0]) (lk:=[1]) nd rfl rfl (BlkOkC.of (ns:=["_law_one","_law_tongue_here"]) (js:=[none,some 0]) (N0:=ff) (sc0:=ak cz) rfl rfl (by decide +kernel)) rfl (aY (K:=K) rfl (fs0 ag)) (fun _ _ _ _ _=>(fgn 0 [0,0] (ndk ["_law_one","_law_tongue_here"]))) (fun _ _ _ _ _=>(jM (bj zB (fv 0) (bn (K:=K) rfl PySem.F.slot_str_join PySem.F.type_str_join (cU rfl) cV ag (fac (fvc 1) aa) rfl rfl rfl rfl rfl rfl) (by with_unfolding_all rfl)))) (fun _ _ _ _ _=>(fv 0)) rfl rfl rfl (by decide) rfl (by decide) (by decide) rfl (fun _=>rfl)) rfl) (ah (aP 4 [0,0,0,0,0] nd (fs0 (aI (d:=3) (c:=3) (fac ag (fac ag (fac ag (fac ag (fac (ai am ag (fvc 1)) (fac (ai am ag (fvc 1)) (fac ag (fac (ai am ag (fvc 1)) (fac (ai am (ai am ag (fvc 1)) ag) (fac ag aa)))))))))) rfl rfl (by decide)))) (ah (aP 4 [0,0,0,0,0] nd (fs0 (ai (cy (K:=K) rfl) (fv 4) (aI (d:=3) (c:=3) (fac (ai am ag (ai rB (fvc 1) aj)) (fac (ai am ag (bn (K:=K) rfl PySem.F.slot_str_join PySem.F.type_str_join (cU rfl) cV ag (fac (fs0 (ai (rC (K:=K) rfl) (aI (d:=1) (c:=0) (fac (fvc 1) aa) rfl rfl (by decide)) aj)) aa) rfl rfl rfl rfl rfl rfl)) (fac (ai am ag (fvc 1)) (fac (ai am ag (fvc 1)) (fac ag aa))))) rfl rfl (by decide))))) (ah (aP 4 [0,0,0,0,0] nd (fs0 (ai (cy (K:=K) rfl) (fv 4) (aI (d:=3) (c:=3) (fac (ai am (ai am (ai am ag (fvc 1)) ag) (fvc 1)) (fac ag (fac (ai am ag (fvc 1)) (fac ag (fac (ai am (ai am ag (fvc 1)) ag) (fac ag aa)))))) rfl rfl (by decide))))) (ah (aP 4 [0,0,0,0,0] nd (fs0 (ai (cy (K:=K) rfl) (fv 4) (aI (d:=3) (c:=3) (fac (ai am (ai am (ai am (ai am ag (fvc 1)) ag) (fv 2)) ag) (fac (ai am (ai am (ai am (ai am (ai am ag (fv 2)) ag) (fvc 1)) ag) (fvc 1)) (fac ag (fac ag (fac ag aa))))) rfl rfl (by decide))))) (ah (aP 4 [0,0,0,0,0] nd (fs0 (ai (cy (K:=K) rfl) (fv 4) (aI (d:=3) (c:=3) (fac (ai am (ai am (ai am (ai am (ai am ag (fvc 1)) ag) (fv 2)) ag) (fv 2)) (fac (ai am (ai am ag (fvc 1)) ag) (fac ag (fac (ai am ag (fvc 1)) (fac ag aa))))) rfl rfl (by decide))))) (ah (aP 4 [0,0,0,0,0] nd (fs0 (ai (cy (K:=K) rfl) (fv 4) (aI (d:=3) (c:=3) (fac (ai am (ai am ag ag) (bn (K:=K) rfl PySem.F.slot_str_join PySem.F.type_str_join (cU rfl) cV ag (fac (fs0 (ai (rC (K:=K) rfl) (aI (d:=1) (c:=0) (fac (fvc 1) aa) rfl rfl (by decide)) aj)) aa) rfl rfl rfl rfl rfl rfl)) (fac (ai am (ai am ag (fvc 1)) ag) (fac (ai am ag (bn (K:=K) rfl PySem.F.slot_str_join PySem.F.type_str_join (cU rfl) cV ag (fac (fs0 (ai (rC (K:=K) rfl) (aI (d:=1) (c:=0) (fac (fvc 1) aa) rfl rfl (by decide)) aj)) aa) rfl rfl rfl rfl rfl rfl)) aa))) rfl rfl (by decide))))) (frt (ai (cy (K:=K) rfl) (ai (cy (K:=K) rfl) (fv 4) (cb (cd:=3) (d:=3) (dsi:=[0]) (lk:=[]) (BlkOkC.of (ns:=["_law_one"]) (js:=[none]) (N0:=ff) (sc0:=ak cz) rfl rfl (by decide +kernel)) rfl (aY (K:=K) rfl (fv 3)) (fun _ _ _ _ _=>(fgn 0 [0] (ndk ["_law_one"]))) (fun _ _ _ _ _=>bd) (fun _ _ _ _ _=>(ai am ag (fv 0))) rfl rfl (by decide) rfl (fun _=>rfl))) (cb (cd:=3) (d:=3) (dsi:=[0,0]) (lk:=[1]) (BlkOkC.of (ns:=["_law_one","_law_sign"]) (js:=[none,some 1]) (N0:=ff) (sc0:=ak cz) rfl rfl (by decide +kernel)) rfl (aY (K:=K) rfl (fv 3)) (fun _ _ _ _ _=>(fgn 0 [0,0] (ndk ["_law_one","_law_sign"]))) (fun _ _ _ _ _=>bd) (fun _ _ _ _ _=>(ai am (ai am (ai am (ai am ag (fvc 1)) ag) (fvc 1)) (fv 0))) rfl rfl (by decide) rfl (fun _=>rfl)))))))))))))
def dS(T:Bl mg){self:List D->Option (D×En)}(iY:Kn P w K mg base k "_law_same" ["_law_got","_law_due"] (spF K [0,0] 3 self))(F:Fun K "_law_same" "_law_same" iV f fd):FnOk P w K mg base CX0 (k+1) f fd ["_law_got","_law_due"] (spF K [0,0] 3 (fnF 0 [0,0] (iZ self))):=
 F.okR vo ⟨[],[0,0],3,[]⟩ [0,0] fun nd _ _ _ _ _ _ hr=>(ah (aM (ds2:=[0,0]) (aK (mQ (K:=K) (n1:="list") (n2:="tuple") rfl rfl T.isinstance0 rfl T.list0 (by decide +kernel) rfl T.tuple0 (by decide +kernel) (by decide) (fv 1) (by decide) rfl (by decide) rfl rfl) (fun _=>rfl)) (ah (aM (ds2:=[0,0]) (qpt (cx (aS (aK (mQ (K:=K) (n1:="list") (n2:="tuple") rfl rfl T.isinstance0 rfl T.list0 (by decide +kernel) rfl T.tuple0 (by decide +kernel) (by decide) (fv 0) (by decide) rfl (by decide) rfl rfl) (fun _=>rfl))) (bU (ftn rfl hr.units (ci (K:=K) (n:="list") rfl rfl T.isinstance0 rfl T.list0 (by decide +kernel) (by decide) (fv 0) (by decide) rfl rfl rfl rfl) (ci (K:=K) (n:="list") rfl rfl T.isinstance0 rfl T.list0 (by decide +kernel) (by decide) (fv 1) (by decide) rfl rfl rfl rfl))))) (frt bV) aH) (frt (fR (cK (iT (K:=K) rfl hr.units) (fln rfl T.len0 (fac (fv 0) aa)) (fln rfl T.len0 (fac (fv 1) aa)) (bp _)) (fQ (fcb (ib (K:=K) rfl rfl) T.all0 (by decide +kernel) (fac (fs0 (cb (cd:=3) (d:=3) (dsi:=[0,0]) (lk:=[]) (BlkOkC.of (ns:=["_law_one","_law_other"]) (js:=[none,none]) (N0:=qC) (sc0:=ak iV) rfl rfl (by decide +kernel)) rfl (zF (K:=K) rfl rfl T.zip0 (fac (fv 0) (fac (fv 1) aa)) rfl rfl) (fun _ _ _ _ _=>(zH (K:=K) rfl rfl (ou (fgn 0 [0,0] (ndk ["_law_one","_law_other"])) (ou (fgn 1 [0,0] (ndk ["_law_one","_law_other"])) xE rfl) rfl) FJ rfl rfl)) (fun _ _ _ _ _=>bd) (fun _ _ _ _ _=>(fnn iY hr (fac (fv 0) (fac (fv 1) aa)))) rfl rfl (by decide) rfl (fun _=>rfl))) aa)))))) aH) (ah (aM (ds2:=[0,0]) (qpt (cx (bj KI (fv 1) lD (bp _)) (bU (aK (mQ (K:=K) (n1:="bool") (n2:="str") rfl rfl T.isinstance0 rfl T.bool0 (by decide +kernel) rfl T.str0 (by decide +kernel) (by decide) (fv 1) (by decide) rfl (by decide) rfl rfl) (fun _=>rfl))))) (frt (cK (iT (K:=K) rfl hr.units) (fcb (uS (K:=K) rfl hr.gd hr.units) T.repr0 (by decide +kernel) (fac (fv 0) aa)) (fcb (uS (K:=K) rfl hr.gd hr.units) T.repr0 (by decide +kernel) (fac (fv 1) aa)) (bp _))) aH) (frt (fR (ci (K:=K) (n:="int") rfl rfl T.isinstance0 rfl T.int0 (by decide +kernel) (by decide) (fv 0) (by decide) rfl rfl rfl rfl) (fR (uU (ci (K:=K) (n:="bool") rfl rfl T.isinstance0 rfl T.bool0 (by decide +kernel) (by decide) (fv 0) (by decide) rfl rfl rfl rfl)) (fQ (cK (iT (K:=K) rfl hr.units) (fv 0) (fv 1) (bp _))))))))
def ud(T:Bl mg)(F:Fun K "word_ahead" "word_ahead" gZ f fd):FnOk P w K mg base CX0 (k+1) f fd ["left"] (spF K [1] 0 bJ):=
 F.okR scword_ahead ⟨[0],[1],0,[]⟩ [1] fun nd _ _ _ _ _ _ hr=>(ah (aM (ds2:=[1]) (dE (ds0:=[0]) (fte rfl hr.units (fln rfl T.len0 (fac (fv 0) aa)) aj) rfl) (aE di) aH) (frt (qk (K:=K) (i:=0) (d:=1) rfl rfl (.inl rfl) rfl aj (by decide) rfl rfl rfl rfl rfl rfl rfl rfl)))
def pd(T:Bl mg){pG:Tok}(rA:mg "MOST_FIGURES"=some (.int 80 pG)){wO:Tok}(zt:mg "FIGURES"=some (.str "0123456789" wO))(F:Fun K "is_number_text" "is_number_text" eD f fd):FnOk P w K mg base CX0 (k+1) f fd ["text"] (spF K [0] 3 be):=
 F.okR oS ⟨[],[0],3,[]⟩ [0] fun nd _ _ _ _ _ _ hr=>(ah (aM (ds2:=[0]) (qpt (cx (aS (qf nR nR aj (fln rfl T.len0 (fac (fv 0) aa)) (eZ rfl rA rfl) (by with_unfolding_all rfl))) (bU (aS (aK (fcb (ib (K:=K) rfl rfl) T.all0 (by decide +kernel) (fac (fs0 (cb (cd:=3) (d:=3) (dsi:=[0]) (lk:=[]) (BlkOkC.of (ns:=["sign"]) (js:=[none]) (N0:=jY) (sc0:=ak eD) rfl rfl (by decide +kernel)) rfl (aY (K:=K) rfl (fv 0)) (fun _ _ _ _ _=>(fgn 0 [0] (ndk ["sign"]))) (fun _ _ _ _ _=>bd) (fun _ _ _ _ _=>(cK zC (fv 0) (xH rfl zt rfl) (by with_unfolding_all rfl))) rfl rfl (by decide) rfl (fun _=>rfl))) aa)) (fun _=>rfl)))))) (frt bV) aH) (frt (Gy (cK (iT (K:=K) rfl hr.units) (fv 0) ag (bp _)) (fQ (uU (bn (K:=K) rfl PySem.F.slot_str_startswith PySem.F.type_str_startswith jH jP (fv 0) (fac (fs0 ag) aa) rfl rfl rfl rfl rfl rfl))))))
def rf(T:Bl mg)(dX:jj P w K mg base k)(gz:jk P w K mg base k)(F:Fun K "number_ahead" "number_ahead" fL f fd):FnOk P w K mg base CX0 (k+1) f fd ["left"] (spF K [1] 3 bM):=
 F.okR scnumber_ahead ⟨[0],[1,0],3,[]⟩ [1,0] fun nd _ _ _ _ _ _ hr=>(ah (aP 1 [1,0] nd (fns dX hr (fsl 0 aa))) (ah (aM (ds2:=[1,0]) (aS (aK (fnn gz hr (fac (fv 1) aa)) (fun _=>rfl))) (aE di) aH) (frt (fct Gj T.int0 (by decide +kernel) (fac (fv 1) aa)))))
def ue(T:Bl mg)(iD:kG P w K mg base k)(dX:jj P w K mg base k)(F:Fun K "part_ahead" "part_ahead" fH f fd):FnOk P w K mg base CX0 (k+1) f fd ["left"] (spF K [1] 0 dY):=
 F.okR scpart_ahead ⟨[0],[1,0],0,[]⟩ [1,0] fun nd _ _ _ _ _ _ hr=>(ah (aP 1 [1,0] nd (fs0 (fns iD hr (ir 0 aa)))) (ah (aM (ds2:=[1,0]) (dE (ds0:=[0,0]) (bj jO (fv 1) (fln rfl T.len0 (fac (fvc 0) aa)) (bp _)) rfl) (aE di) aH) (frt (fct (eK (K:=K) rfl) T.tuple0 (by decide +kernel) (fac (fs0 (pj (cd:=0) (d:=1) (dsi:=[0,1]) (lk:=[1]) (BlkOkC.of (ns:=["place","left"]) (js:=[none,some 0]) (N0:=kl) (sc0:=ak fH) rfl rfl (by decide +kernel)) rfl (dG rfl T.range0 (fac (fv 1) aa) rfl) (fun _ _ _ _ _=>(fgn 0 [0,1] (ndk ["place","left"]))) (fun _ _ _ _ _=>bd) (fun _ _ _ _ _=>(fns dX hr (ir 1 aa))) rfl rfl (by decide) rfl (fun _=>rfl))) aa)))))
def yI(T:Bl mg)(km:m7 P w K mg base k)(F:Fun K "step_of" "step_of" lL f fd):FnOk P w K mg base CX0 (k+1) f fd ["text"] (spF K [0] 0 gR):=
 F.okR scstep_of ⟨[],[0,0,0],0,[]⟩ [0,0,0] fun nd _ _ _ _ _ _ hr=>(ah (aP 1 [0,1,0] nd (cJ (d':=1) (fC (K:=K) rfl (fv 0) ag rfl rfl rfl rfl rfl) (by decide))) (ah (aP 2 [0,1,1] nd (cJ (d':=1) (aI (d:=3) (c:=3) aa rfl rfl (by decide)) (by decide))) (ah (oq (ds:=[0,1,1]) (dE (ds0:=[0,0,1]) (bj jO (fln rfl T.len0 (fac (fv 1) aa)) aj (bp _)) rfl) (aE (bG (dk (K:=K) (i:=2) (d:=1) rfl rfl (.inl rfl) rfl (fns km hr (fsl 1 aa)) (by decide) rfl rfl rfl rfl rfl rfl rfl rfl) rfl)) PassesOwn.never) (frt (fct (eK (K:=K) rfl) T.tuple0 (by decide +kernel) (fac (kB (ds0:=[0,1,0]) (fP (p:=false) (i:=2) rfl (.inl rfl) rfl rfl rfl) rfl) aa))))))
def uf(T:Bl mg)(F:Fun K "are_unlike" "are_unlike" kh f fd):FnOk P w K mg base CX0 (k+1) f fd ["signs"] (spF K [0] 3 fI):=
 F.okR tS ⟨[],[0],3,[]⟩ [0] fun nd _ _ _ _ _ _ hr=>(frt (cK (iT (K:=K) rfl hr.units) (uV (K:=K) rfl rfl rfl T.len0 rfl T.set0 (by decide +kernel) (by decide +kernel) (fv 0) rfl) (fln rfl T.len0 (fac (fv 0) aa)) (bp _)))
def w4(T:Bl mg)(F:Fun K "signs_of" "signs_of" m5 f fd):FnOk P w K mg base CX0 (k+1) f fd ["tongue"] (spF K [0] 3 im):=
 F.okR wR ⟨[],[0],3,[]⟩ [0] fun nd _ _ _ _ _ _ hr=>(frt (bn (K:=K) rfl PySem.F.slot_str_join PySem.F.type_str_join (cU rfl) cV ag (fac (fv 0) aa) rfl rfl rfl rfl rfl rfl))
def yJ(T:Bl mg){jC:Tok}(kd:mg "MOST_SIGNS_OF_A_WORD"=some (.int 60 jC))(Ao:qy P w K mg base k)(F:Fun K "is_word" "is_word" lN f fd):FnOk P w K mg base CX0 (k+1) f fd ["tongue","thing"] (spF K [0,0] 3 fX):=
 F.okR yq ⟨[],[0,0,0],3,[]⟩ [0,0,0] fun nd _ _ _ _ _ _ hr=>(ah (aM (ds2:=[0,0,0]) (qpt (cx (aS (aK (ci (K:=K) (n:="str") rfl rfl T.isinstance0 rfl T.str0 (by decide +kernel) (by decide) (fv 1) (by decide) rfl rfl rfl rfl) (fun _=>rfl))) (bU (bj jO (fln rfl T.len0 (fac (fv 1) aa)) (eZ rfl kd rfl) (bp _))))) (frt bV) aH) (ah (da (i:=2) (d:=0) (ds':=[0,0,0]) nd rfl (.inr rfl) (fs0 (fnn Ao hr (fac (fv 0) aa))) rfl (by decide) (by decide) rfl (.inl rfl)) (frt (fcb (ib (K:=K) rfl rfl) T.all0 (by decide +kernel) (fac (fs0 (cb (cd:=3) (d:=3) (dsi:=[0,0]) (lk:=[1]) (BlkOkC.of (ns:=["sign","signs"]) (js:=[none,some 2]) (N0:=vc) (sc0:=ak lN) rfl rfl (by decide +kernel)) rfl (aY (K:=K) rfl (fv 1)) (fun _ _ _ _ _=>(fgn 0 [0,0] (ndk ["sign","signs"]))) (fun _ _ _ _ _=>bd) (fun _ _ _ _ _=>(cK zC (fv 0) (fvc 1) (by with_unfolding_all rfl))) rfl rfl (by decide) rfl (fun _=>rfl))) aa)))))
def rg(T:Bl mg){mr:Tok}(og:mg "MOST_SIGNS_TOLD"=some (.int 6 mr))(BL:sv P w K mg base k)(F:Fun K "is_told_word" "is_told_word" iB f fd):FnOk P w K mg base CX0 (k+1) f fd ["tongue","thing"] (spF K [0,0] 3 cW):=
 F.okR qT ⟨[],[0,0],3,[]⟩ [0,0] fun nd _ _ _ _ _ _ hr=>(frt (fR (fnn BL hr (fac (fv 0) (fac (fv 1) aa))) (fQ (xI nR nR aj (fln rfl T.len0 (fac (fv 1) aa)) (eZ rfl og rfl) (by with_unfolding_all rfl)))))
def yM(T:Bl mg){jB:Tok}(kc:mg "MOST_WORDS_OF_A_PART"=some (.int 12 jB))(vM:m9 P w K mg base k)(sP:kH P w K mg base k)(F:Fun K "is_part" "is_part" lQ f fd):FnOk P w K mg base CX0 (k+1) f fd ["tongue","thing"] (spF K [0,0] 3 fY):=
 F.okR yu ⟨[],[0,0],3,[]⟩ [0,0] fun nd _ _ _ _ _ _ hr=>(ah (aM (ds2:=[0,0]) (qpt (cx (aS (aK (ci (K:=K) (n:="tuple") rfl rfl T.isinstance0 rfl T.tuple0 (by decide +kernel) (by decide) (fv 1) (by decide) rfl rfl rfl rfl) (fun _=>rfl))) (bU (bj jO (fln rfl T.len0 (fac (fv 1) aa)) (eZ rfl kc rfl) (bp _))))) (frt bV) aH) (frt (fR (fcb (ib (K:=K) rfl rfl) T.all0 (by decide +kernel) (fac (fs0 (cb (cd:=3) (d:=3) (dsi:=[0,0]) (lk:=[1]) (BlkOkC.of (ns:=["word","tongue"]) (js:=[none,some 0]) (N0:=ve) (sc0:=ak lQ) rfl rfl (by decide +kernel)) rfl (aY (K:=K) rfl (fv 1)) (fun _ _ _ _ _=>(fgn 0 [0,0] (ndk ["word","tongue"]))) (fun _ _ _ _ _=>bd) (fun _ _ _ _ _=>(fnn sP hr (fac (fvc 1) (fac (fv 0) aa)))) rfl rfl (by decide) rfl (fun _=>rfl))) aa)) (fQ (fnn vM hr (fac (fv 1) aa))))))
def mB(T:Bl mg)(F:Fun K "words_that_begin" "words_that_begin" dz f fd):FnOk P w K mg base CX0 (k+1) f fd ["part","text"] (spF K [0,0] 1 cq):=
 F.okR mw ⟨[],[0,0],1,[]⟩ [0,0] fun nd _ _ _ _ _ _ hr=>(frt (cb (cd:=0) (d:=1) (dsi:=[0,0]) (lk:=[1]) (BlkOkC.of (ns:=["word","text"]) (js:=[none,some 1]) (N0:=iH) (sc0:=ak dz) rfl rfl (by decide +kernel)) rfl (aY (K:=K) rfl (fv 0)) (fun _ _ _ _ _=>(fgn 0 [0,0] (ndk ["word","text"]))) (fun _ _ _ _ _=>(jM (aK (bn (K:=K) rfl PySem.F.slot_str_startswith PySem.F.type_str_startswith jH jP (fvc 1) (fac (fv 0) aa) rfl rfl rfl rfl rfl rfl) (fun _=>rfl)))) (fun _ _ _ _ _=>(fv 0)) rfl rfl (by decide) rfl (fun _=>rfl)))
def kw(T:Bl mg)(oi:ij P w K mg base k)(F:Fun K "none_begins_another" "none_begins_another" cu f fd):FnOk P w K mg base CX0 (k+1) f fd ["part"] (spF K [0] 3 bL):=
 F.okR kt ⟨[],[0],3,[]⟩ [0] fun nd _ _ _ _ _ _ hr=>(frt (fcb (ib (K:=K) rfl rfl) T.all0 (by decide +kernel) (fac (fs0 (cb (cd:=3) (d:=3) (dsi:=[0,0]) (lk:=[1]) (BlkOkC.of (ns:=["word","part"]) (js:=[none,some 0]) (N0:=gy) (sc0:=ak cu) rfl rfl (by decide +kernel)) rfl (aY (K:=K) rfl (fvc 0)) (fun _ _ _ _ _=>(fgn 0 [0,0] (ndk ["word","part"]))) (fun _ _ _ _ _=>bd) (fun _ _ _ _ _=>(cK (iT (K:=K) rfl hr.units) (fnn oi hr (fac (fvc 1) (fac (fv 0) aa))) (aI (d:=1) (c:=0) (fac (fv 0) aa) rfl rfl (by decide)) (bp _))) rfl rfl (by decide) rfl (fun _=>rfl))) aa)))
def yK(T:Bl mg){sH:Tok}(uK:mg "MOST_PARTS"=some (.int 5 sH))(BN:sy P w K mg base k)(lW:gh P w K mg base k)(F:Fun K "is_step" "is_step" ji f fd):FnOk P w K mg base CX0 (k+1) f fd ["tongue","thing"] (spF K [0,0] 3 eQ):=
 F.okR yr ⟨[],[0,0],3,[]⟩ [0,0] fun nd _ _ _ _ _ _ hr=>(ah (aM (ds2:=[0,0]) (qpt (cx (aS (aK (ci (K:=K) (n:="tuple") rfl rfl T.isinstance0 rfl T.tuple0 (by decide +kernel) (by decide) (fv 1) (by decide) rfl rfl rfl rfl) (fun _=>rfl))) (bU (aS (qf nR nR aj (fln rfl T.len0 (fac (fv 1) aa)) (eZ rfl uK rfl) (by with_unfolding_all rfl)))))) (frt bV) aH) (frt (fR (fcb (ib (K:=K) rfl rfl) T.all0 (by decide +kernel) (fac (fs0 (cb (cd:=3) (d:=3) (dsi:=[0,0]) (lk:=[1]) (BlkOkC.of (ns:=["part","tongue"]) (js:=[none,some 0]) (N0:=pB) (sc0:=ak ji) rfl rfl (by decide +kernel)) rfl (aY (K:=K) rfl (fv 1)) (fun _ _ _ _ _=>(fgn 0 [0,0] (ndk ["part","tongue"]))) (fun _ _ _ _ _=>bd) (fun _ _ _ _ _=>(fnn BN hr (fac (fvc 1) (fac (fv 0) aa)))) rfl rfl (by decide) rfl (fun _=>rfl))) aa)) (fQ (fcb (ib (K:=K) rfl rfl) T.all0 (by decide +kernel) (fac (fs0 (cb (cd:=3) (d:=3) (dsi:=[0]) (lk:=[]) (BlkOkC.of (ns:=["part"]) (js:=[none]) (N0:=pB) (sc0:=ak ji) rfl rfl (by decide +kernel)) rfl (aY (K:=K) rfl (aR (Go (K:=K) rfl) (fv 1) aU (aT (Gv KG aj)))) (fun _ _ _ _ _=>(fgn 0 [0] (ndk ["part"]))) (fun _ _ _ _ _=>bd) (fun _ _ _ _ _=>(fnn lW hr (fac (fv 0) aa))) rfl rfl (by decide) rfl (fun _=>rfl))) aa))))))
def yL(T:Bl mg){sG:Tok}(uJ:mg "MOST_STEPS"=some (.int 3 sG))(BM:sw P w K mg base k)(F:Fun K "is_plan" "is_plan" lP f fd):FnOk P w K mg base CX0 (k+1) f fd ["tongue","thing"] (spF K [0,0] 3 cM):=
 F.okR yt ⟨[],[0,0],3,[]⟩ [0,0] fun nd _ _ _ _ _ _ hr=>(ah (aM (ds2:=[0,0]) (qpt (cx (aS (aK (ci (K:=K) (n:="tuple") rfl rfl T.isinstance0 rfl T.tuple0 (by decide +kernel) (by decide) (fv 1) (by decide) rfl rfl rfl rfl) (fun _=>rfl))) (bU (bj jO (fln rfl T.len0 (fac (fv 1) aa)) (eZ rfl uJ rfl) (bp _))))) (frt bV) aH) (frt (fcb (ib (K:=K) rfl rfl) T.all0 (by decide +kernel) (fac (fs0 (cb (cd:=3) (d:=3) (dsi:=[0,0]) (lk:=[1]) (BlkOkC.of (ns:=["step","tongue"]) (js:=[none,some 0]) (N0:=vd) (sc0:=ak lP) rfl rfl (by decide +kernel)) rfl (aY (K:=K) rfl (fv 1)) (fun _ _ _ _ _=>(fgn 0 [0,0] (ndk ["step","tongue"]))) (fun _ _ _ _ _=>bd) (fun _ _ _ _ _=>(fnn BM hr (fac (fvc 1) (fac (fv 0) aa)))) rfl rfl (by decide) rfl (fun _=>rfl))) aa))))
def vy(T:Bl mg)(lV:su P w K mg base k)(jm:m8 P w K mg base k)(F:Fun K "read_plan" "read_plan" dN f fd):FnOk P w K mg base CX0 (k+1) f fd ["tongue","text"] (spF K [0,0] 0 bA):=
 F.okR scread_plan ⟨[],[0,0,0,0],0,[]⟩ [0,0,0,0] fun nd _ _ _ _ _ _ hr=>(ah (aM (ds2:=[0,0,0,0]) (aS (aK (ci (K:=K) (n:="str") rfl rfl T.isinstance0 rfl T.str0 (by decide +kernel) (by decide) (fv 1) (by decide) rfl rfl rfl rfl) (fun _=>rfl))) (aE di) aH) (ah (aP 2 [0,0,0,0] nd (fs0 (fC (K:=K) rfl (fv 1) ag rfl rfl rfl rfl rfl))) (ah (aP 3 [0,0,0,0] nd (fct (eK (K:=K) rfl) T.tuple0 (by decide +kernel) (fac (fs0 (cb (cd:=0) (d:=1) (dsi:=[0]) (lk:=[]) (BlkOkC.of (ns:=["line"]) (js:=[none]) (N0:=gx) (sc0:=ak dN) rfl rfl (by decide +kernel)) rfl (aY (K:=K) rfl (fs0 (aR (kA (K:=K) rfl) (fv 2) (aT aj) aU))) (fun _ _ _ _ _=>(fgn 0 [0] (ndk ["line"]))) (fun _ _ _ _ _=>bd) (fun _ _ _ _ _=>(fnn lV hr (fac (fv 0) aa))) rfl rfl (by decide) rfl (fun _=>rfl))) aa))) (ah (aM (ds2:=[0,0,0,0]) (qpt (cx (ftn rfl hr.units (fxi rfl (fv 2)) ag) (bU (aS (aK (fnn jm hr (fac (fv 0) (fac (fv 3) aa))) (fun _=>rfl)))))) (aE di) aH) (frt (fv 3))))))
def n6(T:Bl mg)(dO:hU P w K mg base k)(GNread_plan:KnX P w K mg base k "read_plan" ["tongue","text"] (spN K [0,0] (clK K) aJ))(H_NoText:ExcK K mg kn0 "NoText")(H_WordError:ExcK K mg kn0 "WordError")(t_ValueError:kT K kn0 eF (.type "ValueError")=true){C_NoText:Addr}(m_NoText:mg "NoText"=some (.ref C_NoText))(t_NoText:kT K kn0 i8 (.ref C_NoText)=true)(mi_NoTongue:mg "NoTongue"=some (.ref (clK K "NoTongue")))(mi_NoSentence:mg "NoSentence"=some (.ref (clK K "NoSentence")))(mi_TooMany:mg "TooMany"=some (.ref (clK K "TooMany")))(mi_TooMuch:mg "TooMuch"=some (.ref (clK K "TooMuch")))(mi_NoNumber:mg "NoNumber"=some (.ref (clK K "NoNumber")))(mi_NoWord:mg "NoWord"=some (.ref (clK K "NoWord")))(mi_NoFit:mg "NoFit"=some (.ref (clK K "NoFit")))(mi_Elder:mg "Elder"=some (.ref (clK K "Elder")))(mi_Near:mg "Near"=some (.ref (clK K "Near")))(mi_NoBack:mg "NoBack"=some (.ref (clK K "NoBack")))(tt_0:oP K kn0 xt0 (List.map Value.ref [clK K "NoTongue",clK K "NoSentence",clK K "TooMany",clK K "TooMuch",clK K "NoNumber",clK K "NoWord",clK K "NoFit",clK K "Elder",clK K "Near",clK K "NoBack"])=true)(mi_NoLine:mg "NoLine"=some (.ref (clK K "NoLine")))(mi_NoName:mg "NoName"=some (.ref (clK K "NoName")))(tt_1:oP K kn0 xt1 (List.map Value.ref [clK K "NoLine",clK K "NoName"])=true)(F:Fun K "_law_is_refused" "_law_is_refused" fU f fd):FnOk P w K mg base CX0 (k+1) f fd ["_law_tongue_here","_law_thing","_law_way"] (spF K [0,0,0] 3 bX):=
 F.okR nY ⟨[],[0,0,0,0,0],3,[]⟩ [0,0,0,0,0] fun nd _ _ _ _ _ _ hr=>(ah (aP 3 [0,0,0,0,0] nd (fs0 lD)) (ah (aM (ds2:=[0,0,0,0,0]) (fte rfl hr.units (fv 2) aj) (aE (uQ (K:=K) (ds:=[0,0,0,0,0]) (ds':=[0,0,0,0,0]) (kn:=kn0) (kp:=[]) (j:=4) (cl:=clK K) rfl ⟨rfl,rfl,rfl⟩ (fun _=>(aE (bG (fnn dO hr (fac (fv 0) (fac (fv 1) aa))) rfl))) (fun _ _ _ _ O=>(t7 O GNread_plan hr rfl (fac (fv 0) (fac (fv 1) aa)) rfl rfl rfl rfl)) (fun _ _=>(aE (aP 3 [0,0,0,0,0] nd (fv 4)))) H_NoText.cl H_NoText.hx H_NoText.h qR rfl H_NoText.m rfl nd rfl (.inl rfl) rfl rfl rfl (by decide) rfl rfl (by decide))) (aE (uQ (K:=K) (ds:=[0,0,0,0,0]) (ds':=[0,0,0,0,0]) (kn:=kn0) (kp:=[]) (j:=4) (cl:=clK K) rfl ⟨rfl,rfl,rfl⟩ (fun _=>(aE (bG (fnn dO hr (fac (fv 0) (fac (fv 1) aa))) rfl))) (fun _ _ _ _ O=>(t7 O GNread_plan hr rfl (fac (fv 0) (fac (fv 1) aa)) rfl rfl rfl rfl)) (fun _ _=>(aE (aP 3 [0,0,0,0,0] nd (fv 4)))) H_WordError.cl H_WordError.hx H_WordError.h qR rfl H_WordError.m rfl nd rfl (.inl rfl) rfl rfl rfl (by decide) rfl rfl (by decide)))) (ah (aM (ds2:=[0,0,0,0,0]) (aK (uW (K:=K) (kn:=kn0) (xs:=xt0) rfl rfl T.isinstance0 (cR rfl mi_NoTongue rfl (cR rfl mi_NoSentence rfl (cR rfl mi_TooMany rfl (cR rfl mi_TooMuch rfl (cR rfl mi_NoNumber rfl (cR rfl mi_NoWord rfl (cR rfl mi_NoFit rfl (cR rfl mi_Elder rfl (cR rfl mi_Near rfl (cR rfl mi_NoBack rfl yC)))))))))) tt_0 (by show 10<=63;decide) (fv 3) rfl) (fun _=>rfl)) (frt bV) aH) (ah (aM (ds2:=[0,0,0,0,0]) (qpt (cx (aK (uW (K:=K) (kn:=kn0) (xs:=xt1) rfl rfl T.isinstance0 (cR rfl mi_NoLine rfl (cR rfl mi_NoName rfl yC)) tt_1 (by show 2<=63;decide) (fv 3) rfl) (fun _=>rfl)) (bU (aS (aK (Bq (K:=K) (n:="ValueError") (kn:=kn0) (xs:=eF) rfl rfl T.isinstance0 rfl T.ValueError0 (by decide +kernel) t_ValueError (fv 3) (by decide) rfl rfl) (fun _=>rfl)))))) (frt bV) aH) (frt (Bp (K:=K) (kn:=kn0) (xs:=i8) rfl rfl T.isinstance0 rfl m_NoText t_NoText (fv 3) rfl rfl))))))
def vw(T:Bl mg)(F:Fun K "show_step" "show_step" lM f fd):FnOk P w K mg base CX0 (k+1) f fd ["step"] (spF K [0] 3 gA):=
 F.okR vj ⟨[],[0,0,0],3,[]⟩ [0,0,0] fun nd _ _ _ _ _ _ hr=>(ah (aP 1 [0,1,0] nd (cJ (d':=1) (aI (d:=3) (c:=3) aa rfl rfl (by decide)) (by decide))) (ah (dF (ds1:=[0,1,0]) rfl (aY (K:=K) rfl (fv 0)) (fgn 2 [0,1,0] nd) (ah (bG (dk (K:=K) (i:=1) (d:=1) rfl rfl (.inl rfl) rfl (fs0 (fct wt T.str0 (by decide +kernel) (fac (fs0 (fln rfl T.len0 (fac (fv 2) aa))) aa))) (by decide) rfl rfl rfl rfl rfl rfl rfl rfl) rfl) (aE (bG (zI (K:=K) (i:=1) rfl rfl (.inl rfl) rfl (fv 2) rfl rfl rfl rfl rfl rfl rfl) rfl))) PassesOwn.never (fun _=>rfl)) (frt (lE (ds0:=[0,0,0]) (bn (K:=K) rfl PySem.F.slot_str_join PySem.F.type_str_join (cU rfl) cV ag (fac (fv 1) aa) rfl rfl rfl rfl rfl rfl) rfl))))
def vx(T:Bl mg)(ya:oB P w K mg base k)(F:Fun K "show_plan" "show_plan" iU f fd):FnOk P w K mg base CX0 (k+1) f fd ["plan"] (spF K [0] 3 gB):=
 F.okR vk ⟨[],[0],3,[]⟩ [0] fun nd _ _ _ _ _ _ hr=>(frt (bn (K:=K) rfl PySem.F.slot_str_join PySem.F.type_str_join (cU rfl) cV ag (fac (fs0 (ai (cy (K:=K) rfl) (aI (d:=3) (c:=3) (fac ag aa) rfl rfl (by decide)) (cb (cd:=3) (d:=3) (dsi:=[0]) (lk:=[]) (BlkOkC.of (ns:=["step"]) (js:=[none]) (N0:=qB) (sc0:=ak iU) rfl rfl (by decide +kernel)) rfl (aY (K:=K) rfl (fv 0)) (fun _ _ _ _ _=>(fgn 0 [0] (ndk ["step"]))) (fun _ _ _ _ _=>bd) (fun _ _ _ _ _=>(fnn ya hr (fac (fv 0) aa))) rfl rfl (by decide) rfl (fun _=>rfl)))) aa) rfl rfl rfl rfl rfl rfl))
def mC(T:Bl mg)(dO:hU P w K mg base k)(jm:m8 P w K mg base k)(yb:oE P w K mg base k)(GNread_plan:KnX P w K mg base k "read_plan" ["tongue","text"] (spN K [0,0] (clK K) aJ))(H_NoText:ExcK K mg kn0 "NoText")(F:Fun K "_law_shown_again" "_law_shown_again" fy f fd):FnOk P w K mg base CX0 (k+1) f fd ["_law_tongue_here","_law_text_here"] (spF K [0,0] 3 cr):=
 F.okR mx ⟨[],[0,0,0],3,[]⟩ [0,0,0] fun nd _ _ _ _ _ _ hr=>(ah (aP 2 [0,0,0] nd (fs0 lD)) (ah (Bc (K:=K) (ds:=[0,0,0]) (ds':=[0,0,0]) (kn:=kn0) (kp:=[]) (cl:=clK K) rfl ⟨rfl,rfl,rfl⟩ (fun _=>(aE (aP 2 [0,0,0] nd (fnn dO hr (fac (fv 0) (fac (fv 1) aa)))))) (fun _ _ _ _ O=>(AA O GNread_plan hr rfl (fac (fv 0) (fac (fv 1) aa)) rfl rfl rfl rfl rfl)) (fun _ _=>(frt bV)) H_NoText.hx H_NoText.h qR rfl H_NoText.m rfl rfl) (frt (fR (cK KJ (fnn jm hr (fac (fv 0) (fac (fv 2) aa))) bV (bp _)) (fQ (cK (iT (K:=K) rfl hr.units) (fnn yb hr (fac (fv 2) aa)) (fv 1) (bp _)))))))
def rh(T:Bl mg)(aN:cw P w K mg base k)(F:Fun K "_law_changed" "_law_changed" iC f fd):FnOk P w K mg base CX0 (k+1) f fd ["_law_pen_here","_law_text_here"] (spF K [1,0] 3 dQ):=
 F.okR qU ⟨[0],[1,0,0,0,0],3,[]⟩ [1,0,0,0,0] fun nd _ _ _ _ _ _ hr=>(ah (aP 2 [1,0,0,0,0] nd (fns aN hr (fsl 0 (fac (fs0 (fln rfl T.len0 (fac (fv 1) aa))) aa)))) (ah (aP 3 [1,0,0,0,0] nd (fs0 (eY qg ag (fns aN hr (fsl 0 (fac (fs0 aj) aa))) (fun _ _=>rfl)))) (ah (aP 4 [1,0,0,0,0] nd (fns aN hr (fsl 0 (fac (fs0 aj) aa)))) (ah (aM (ds2:=[1,0,0,0,0]) (fte rfl hr.units (fv 4) aj) (frt (ai am (aR db (fv 1) aU (aT (fv 2))) (aR db (fv 1) (aT (ai am (fv 2) aj)) aU))) aH) (frt (ai am (ai am (aR db (fv 1) aU (aT (fv 2))) (fv 3)) (aR db (fv 1) (aT (ai mP (ai am (fv 2) (fv 4)) aj)) aU)))))))
def LS(T:Bl mg)(sB:qz P w K mg base k)(pF:iG P w K mg base k)(yc:oF P w K mg base k)(lX:kj P w K mg base k)(rP:jW P w K mg base k)(rQ:jX P w K mg base k)(iY:Kn P w K mg base k "_law_same" ["_law_got","_law_due"] (spF K [0,0] 3 (aX 6)))(dO:hU P w K mg base k)(jo:iF P w K mg base k)(om:ik P w K mg base k)(aN:cw P w K mg base k)(sQ:kI P w K mg base k)(F:Fun K "law" "law" pz f fd):FnOk P w K mg base CX0 (k+1) f fd ["_law_script"] (spF K [0] 3 ye):=
 F.okR LA ⟨[],[0,0,0,0,0,0,0,0],3,[]⟩ [0,0,0,0,0,0,0,0] fun nd _ _ _ _ _ _ hr=>(ah (aP 1 [0,1,0,0,0,0,0,0] nd (fnn sB hr (fac (fv 0) (fac (fs0 aj) aa)))) (ah (aP 2 [0,1,0,0,0,0,0,0] nd (fns pF hr (fsl 1 aa))) (ah (aP 3 [0,1,0,0,0,0,0,0] nd (fns yc hr (fsl 1 (fac (fv 2) (fac (fs0 aj) aa))))) (ah (aP 4 [0,1,0,0,0,0,0,0] nd (fs0 (fnn lX hr (fac (fv 3) aa)))) (ah (aP 1 [0,1,0,0,0,0,0,0] nd (fnn sB hr (fac (fv 0) (fac (fs0 aj) aa)))) (ah (aM (ds2:=[0,1,0,0,0,0,0,0]) (aS (aK (fnn iY hr (fac (fnn dO hr (fac (fv 2) (fac (fv 4) aa))) (fac (fv 3) aa))) (fun _=>rfl))) (frt bV) aH) (ah (dF (ds1:=[0,1,0,0,0,0,0,0]) rfl (aY (K:=K) rfl (fs0 (fns rP hr (fsl 1 (fac (fv 3) aa))))) (fgn 5 [0,1,0,0,0,0,0,0] nd) (aE (aM (ds2:=[0,1,0,0,0,0,0,0]) (aS (aK (fnn jo hr (fac (fv 2) (fac (fv 5) (fac (fns aN hr (fsl 1 (fac (fs0 aj) aa))) aa)))) (fun _=>rfl))) (frt bV) aH)) PassesOwn.never (fun _=>rfl)) (ah (dF (ds1:=[0,1,0,0,0,0,0,0]) rfl (aY (K:=K) rfl (fs0 (fnn rQ hr (fac (fv 2) aa)))) (fgn 6 [0,1,0,0,0,0,0,0] nd) (aE (aM (ds2:=[0,1,0,0,0,0,0,0]) (aS (aK (fnn jo hr (fac (fv 2) (fac (fs0 (ai am (ai am (fv 4) ag) (fv 6))) (fac (fns aN hr (fsl 1 (fac (fs0 aj) aa))) aa)))) (fun _=>rfl))) (frt bV) aH)) PassesOwn.never (fun _=>rfl)) (ah (dF (ds1:=[0,1,0,0,0,0,0,0]) rfl (dG rfl T.range0 (fac (fs0 aj) aa) rfl) (fgn 7 [0,1,0,0,0,0,0,0] nd) (aE (aM (ds2:=[0,1,0,0,0,0,0,0]) (aS (aK (fnn om hr (fac (fv 2) (fac (fs0 (fns sQ hr (fsl 1 (fac (fv 4) aa)))) aa))) (fun _=>rfl))) (frt bV) aH)) PassesOwn.never (fun _=>rfl)) (frt (fnn iY hr (fac (fnn dO hr (fac (fv 2) (fac (fv 4) aa))) (fac (fv 3) aa)))))))))))))
end
end
end W59
namespace L2
open PySem PySem.Spec PyProof.Rows
structure W{α:Type}(x:Option α)(Q:α->Prop):Prop where
 ex:∃a,x=some a/\Q a
def aA{α:Type}(a:α)(Q:α->Prop):W (some a) Q=Q a:=propext ⟨fun⟨b,e,h⟩=>(zat e)▸h,fun h=>⟨a,rfl,h⟩⟩
def bH{α:Type}(Q:α->Prop):W (none:Option α) Q=False:=propext ⟨(fun⟨b,e,h⟩=>by cases e),(fun h=>h.elim)⟩
def W.use{α:Type}{x:Option α}{P Q:α->Prop}(h:W x P)(k:∀a,P a->Q a):W x Q:=
 let⟨a,e,h⟩:=h.ex
 ⟨a,e,k a h⟩
def W.of{α:Type}{x:Option α}{P:α->Prop}{a:α}(e:x=some a)(h:P a):W x P:=⟨a,e,h⟩
def ay{α β:Type}(x:Option α)(f:α->Option β)(Q:β->Prop):W (x.bind f) Q=W x (fun a=>W (f a) Q):=by
 cases x with
 |none=>show W none _=_;rw[bH,bH]
 |some a=>show W (f a) Q=_;rw[aA]
def bQ{α β:Type}(x:Option α)(f:α->β)(Q:β->Prop):W (x.map f) Q=W x (fun a=>Q (f a)):=by
 cases x with
 |none=>show W none _=_;rw[bH,bH]
 |some a=>show W (some (f a)) Q=_;rw[aA,aA]
def tE{α:Type}(c:Prop)[Decidable c](a:α)(Q:α->Prop):W (grd c a) Q=(c/\Q a):=by
 unfold grd;by_cases h:c
 ·rw[if_pos h,aA];exact propext ⟨fun z=>⟨h,z⟩,fun z=>z.2⟩
 ·rw[if_neg h,bH];exact propext ⟨fun z=>z.elim,fun z=>h z.1⟩
def pv{α:Type}(c:Prop)[Decidable c](a:α)(Q:α->Prop):W (if c then some a else none) Q=(c/\Q a):=tE c a Q
def EK{α:Type}(c:Prop)[Decidable c](x:Option α)(Q:α->Prop):W (if c then x else none) Q=(c/\W x Q):=by
 by_cases h:c
 ·rw[if_pos h];exact propext ⟨fun z=>⟨h,z⟩,fun z=>z.2⟩
 ·rw[if_neg h,bH];exact propext ⟨fun z=>z.elim,fun z=>h z.1⟩
def gv(en:En)(i:Nat):Option D:=(en[i]?).join
def Jk(ts:List D)(n:Int)(t:D):Option (List D):=(ixN ts.length n).map fun k=>ts.set k t
def qZ(ts:List D)(n:Int):Option (D×List D):=(seqIndex? n ts.length).bind fun k=>(ts[k]?).map fun t=>(t,ts.eraseIdx k)
def j6(i:Int)(n:Nat):List D:=(List.range n).map fun k=>.int (i+(k:Nat))
section
variable{α β:Type}
def xj(b:MS)(Q:Fl->Prop):Fl->Prop:=fun fl=>W (match fl with|.nx en1=>b en1|.rt t en1=>some (.rt t en1)|.ct en1=>some (.ct en1)) Q
def J7(i:Nat)(Q:Fl->Prop):D×En->Prop:=fun r=>Q (.nx (r.2.set i (some r.1)))
def Kf(Q:Fl->Prop):D×En->Prop:=fun r=>Q (.nx r.2)
def J8(Q:Fl->Prop):D×En->Prop:=fun r=>Q (.rt r.1 r.2)
def kIf(f g:En->Option β)(Q:β->Prop):Bool×En->Prop:=fun r=>W (if r.1 then f r.2 else g r.2) Q
def Ke(g:MG)(b:MS)(Q:Fl->Prop):List D×En->Prop:=fun r=>W (fO g b r.1 r.2) Q
def p6(g:MG)(b:MS)(ts:List D)(Q:Fl->Prop):Fl->Prop:=fun fl=>W (match fl with|.nx en2=>fO g b ts en2|.ct en2=>fO g b ts en2|.rt r en2=>some (.rt r en2)) Q
def Ew(g:MG)(b:MS)(ts:List D)(Q:Fl->Prop):En->Prop:=fun en=>W (b en) (p6 g b ts Q)
def gM(en:En)(Q:D×En->Prop):D->Prop:=fun t=>Q (t,en)
def k1(g:D->Option D)(Q:D×En->Prop):D×En->Prop:=fun r=>W (g r.1) (gM r.2 Q)
def k2b(g:D->D->Option D)(t:D)(Q:D×En->Prop):D×En->Prop:=fun q=>W (g t q.1) (gM q.2 Q)
def k2(g:D->D->Option D)(f:ME)(Q:D×En->Prop):D×En->Prop:=fun r=>W (f r.2) (k2b g r.1 Q)
def A2(g:ME)(Q:D×En->Prop):D×En->Prop:=fun r=>W (match r.1 with|.bool true=>g r.2|.bool false=>some (.bool false,r.2)|_=>none) Q
def kOr(g:ME)(Q:D×En->Prop):D×En->Prop:=fun r=>W (match r.1 with|.bool true=>some (.bool true,r.2)|.bool false=>g r.2|_=>none) Q
def Ka(Q:D×En->Prop):D×En->Prop:=fun r=>W (match r.1 with|.bool b=>some (.bool (!b),r.2)|_=>none) Q
def kTV(Q:Bool×En->Prop):D×En->Prop:=fun r=>W (match r.1 with|.bool b=>some (b,r.2)|_=>none) Q
def xu(g:MT)(Q:Bool×En->Prop):Bool×En->Prop:=fun r=>W (if r.1 then g r.2 else some (false,r.2)) Q
def A1(g:MT)(Q:Bool×En->Prop):Bool×En->Prop:=fun r=>W (if r.1 then some (true,r.2)else g r.2) Q
def Ey(Q:Bool×En->Prop):Bool×En->Prop:=fun r=>Q (!r.1,r.2)
def A4(t:D)(Q:List (D ⊕ Nat)×En->Prop):List (D ⊕ Nat)×En->Prop:=fun y=>Q (.inl t::y.1,y.2)
def kAC(r:MA)(Q:List (D ⊕ Nat)×En->Prop):D×En->Prop:=fun x=>W (r x.2) (A4 x.1 Q)
def A3(i:Nat)(Q:List (D ⊕ Nat)×En->Prop):List (D ⊕ Nat)×En->Prop:=fun y=>Q (.inr i::y.1,y.2)
def kAS(i:Nat)(r:MA)(en:En)(Q:List (D ⊕ Nat)×En->Prop):D->Prop:=fun _x=>W (r en) (A3 i Q)
def kN2(g:List D->Option D)(en:En)(Q:D×En->Prop):List D->Prop:=fun ts=>W (g ts) (gM en Q)
def kN(g:List D->Option D)(Q:D×En->Prop):List (D ⊕ Nat)×En->Prop:=fun r=>W (vals r.1) (kN2 g r.2 Q)
def xo(en:En)(Q:D×En->Prop):List D->Prop:=fun ts=>W (if ts.length<=sizeLine then some (.list ts,en)else none) Q
def Kb(Q:D×En->Prop):List (D ⊕ Nat)×En->Prop:=fun r=>W (vals r.1) (xo r.2 Q)
def xi(en:En)(Q:D×En->Prop):List D->Prop:=fun ts=>W (if ts.length<=sizeLine then some (.tuple ts,en)else none) Q
def J6(Q:D×En->Prop):List (D ⊕ Nat)×En->Prop:=fun r=>W (vals r.1) (xi r.2 Q)
def uA(as:List (D ⊕ Nat))(en:En)(Q:D×En->Prop):D×En->Prop:=fun q=>Q (q.1,wb as q.2 en)
def uB(F:List D->Option (D×En))(as:List (D ⊕ Nat))(en:En)(Q:D×En->Prop):List D->Prop:=fun ts=>W (F ts) (uA as en Q)
def Ex(F:List D->Option (D×En))(Q:D×En->Prop):List (D ⊕ Nat)×En->Prop:=fun r=>W (eo r.1 r.2) (uB F r.1 r.2 Q)
def kFn(dps:List Nat)(Q:D×En->Prop):Fl->Prop:=fun fl=>W (match fl with|.rt t en=>some (t,msk dps en)|.nx en=>some (.none,msk dps en)|.ct _=>none) Q
def xr(q:Bool)(js:List (Option Nat))(en:En)(Q:D×En->Prop):List D×En->Prop:=fun z=>Q (.list z.1,if q then en else wbB js z.2 en)
def kLC(q:Bool)(g:MG)(c:MT)(f:ME)(js:List (Option Nat))(Q:D×En->Prop):List D×En->Prop:=fun r=>W (lcF g c f r.1 [] (bZ js r.2)) (xr q js r.2 Q)
def xw(Q:List D×En->Prop):D×En->Prop:=fun r=>W ((Ed r.1).map fun ts=>(ts,r.2)) Q
def kR1(Q:List D×En->Prop):List (D ⊕ Nat)×En->Prop:=fun r=>W (match r.1 with|[.inl (.int j)]=>if -(2 ^ 62)<=j/\j<2 ^ 62 then some ((List.range j.toNat).map fun k=>.int (0+(k:Nat)),r.2)else none|_=>none) Q
def Eu(Q:List D×En->Prop):List (D ⊕ Nat)×En->Prop:=fun r=>W (match r.1 with|[.inl (.tuple ts),.inl (.tuple us)]=>some (fm ts us,r.2)|_=>none) Q
def yW(n:Int)(en:En)(Q:D×En->Prop):D->Prop:=fun x=>W (match x with|.list ts=>(atI ts n).map fun t=>(t,en)|_=>none) Q
def p5(i:Nat)(Q:D×En->Prop):D×En->Prop:=fun r=>W (match r.1,(r.2[i]?).join with|.int n,some (.list ts)=>(atI ts n).map fun t=>(t,r.2)|_,_=>none) Q
def Es(i:Nat)(f:ME)(en:En)(Q:D×En->Prop):D->Prop:=fun _x=>W (f en) (p5 i Q)
def xv(i:Nat)(Q:D×En->Prop):D×En->Prop:=fun r=>W (match (r.2[i]?).join with|some (.list ts)=>if ts.length<sizeLine then some (PyData.none,r.2.set i (some (.list (ts++[r.1]))))else none|_=>none) Q
def Ez(i:Nat)(t:D)(en:En)(Q:D×En->Prop):D->Prop:=fun x=>W (match x with|.list ts=>if ts.length<sizeLine then some (PyData.none,en.set i (some (.list (ts++[t]))))else none|_=>none) Q
def Kh(i:Nat)(f:ME)(en:En)(Q:D×En->Prop):D->Prop:=fun x=>W (match x with|.list _=>((f en).bind fun r=>(match (r.2[i]?).join with|some (.list ts)=>if ts.length<sizeLine then some (PyData.none,r.2.set i (some (.list (ts++[r.1]))))else none|_=>none))|_=>none) Q
def xt(g:D->D->Option D)(t:D)(f:ME)(en:En)(Q:D×En->Prop):D->Prop:=fun x=>W (match x with|.bool true=>(f en).bind fun z=>(g t z.1).map fun t=>(t,z.2)|.bool false=>some (.bool false,en)|_=>none) Q
def A0(g g2:D->D->Option D)(f3:ME)(t:D)(Q:D×En->Prop):D×En->Prop:=fun q=>W (g t q.1) (xt g2 q.1 f3 q.2 Q)
def kCh(g g2:D->D->Option D)(f2 f3:ME)(Q:D×En->Prop):D×En->Prop:=fun r=>W (f2 r.2) (A0 g g2 f3 r.1 Q)
def kOS(Q:Option Int×En->Prop):D×En->Prop:=fun r=>W (match r.1 with|.int i=>some (some i,r.2)|_=>none) Q
def AX(g:D->Option Int->Option Int->Option D)(t:D)(lo:Option Int)(Q:D×En->Prop):Option Int×En->Prop:=fun h=>W (g t lo h.1) (gM h.2 Q)
def AY(g:D->Option Int->Option Int->Option D)(t:D)(hi:MO)(Q:D×En->Prop):Option Int×En->Prop:=fun l=>W (hi l.2) (AX g t l.1 Q)
def kSl(g:D->Option Int->Option Int->Option D)(lo hi:MO)(Q:D×En->Prop):D×En->Prop:=fun r=>W (lo r.2) (AY g r.1 hi Q)
def kM2(g:Str->List D->Option D)(z:Str)(en:En)(Q:D×En->Prop):List D->Prop:=fun ts=>W (g z ts) (gM en Q)
def kM1(g:Str->List D->Option D)(z:Str)(Q:D×En->Prop):List (D ⊕ Nat)×En->Prop:=fun q=>W (vals q.1) (kM2 g z q.2 Q)
def kM(g:Str->List D->Option D)(fa:MA)(Q:D×En->Prop):D×En->Prop:=fun r=>W (match r.1 with|.str z=>(fa r.2).bind fun q=>(vals q.1).bind fun ts=>(g z ts).map fun t=>(t,q.2)|_=>none) Q
def kIt(J:En->Prop)(Q:Fl->Prop):Fl->Prop:=fun fl=>match fl with|.nx e=>J e|.ct e=>J e|.rt t e=>Q (.rt t e)
def AZ(us:List D)(J:List D->En->Prop):D×En->Prop:=fun r=>J (us++[r.1]) r.2
def xq(f:ME)(us:List D)(J:List D->En->Prop):Bool×En->Prop:=fun r=>if r.1 then W (f r.2) (AZ us J)else J us r.2
def Kc(c:MT)(f:ME)(us:List D)(J:List D->En->Prop):En->Prop:=fun en=>W (c en) (xq f us J)
def kWh(b:MS)(J:En->Prop)(Q:Fl->Prop):Bool×En->Prop:=fun r=>if r.1 then W (b r.2) (kIt J Q)else Q (.nx r.2)
def kFg(b:MS)(J:En->Prop)(Q:Fl->Prop):En->Prop:=fun en=>W (b en) (kIt J Q)
def Ev(i:Nat)(en:En)(Q:D×En->Prop):D×List D->Prop:=fun r=>Q (r.1,en.set i (some (.list r.2)))
def xm(i:Nat)(n:Int)(en:En)(Q:D×En->Prop):D->Prop:=fun x=>W (match x with|.list ts=>(if -(2 ^ 63)<=n/\n<2 ^ 63 then(seqIndex? n ts.length).bind fun k=>(ts[k]?).map fun t=>(t,en.set i (some (.list (ts.eraseIdx k))))else none)|_=>none) Q
def xn(i:Nat)(Q:D×En->Prop):D×En->Prop:=fun r=>W (match r.1,(r.2[i]?).join with|.int n,some (.list ts)=>(if -(2 ^ 63)<=n/\n<2 ^ 63 then(seqIndex? n ts.length).bind fun k=>(ts[k]?).map fun t=>(t,r.2.set i (some (.list (ts.eraseIdx k))))else none)|_,_=>none) Q
def J9(i:Nat)(f:ME)(en:En)(Q:D×En->Prop):D->Prop:=fun x=>W (match x with|.list _=>(f en).bind (fun r=>match r.1,(r.2[i]?).join with|.int n,some (.list ts)=>(if -(2 ^ 63)<=n/\n<2 ^ 63 then(seqIndex? n ts.length).bind fun k=>(ts[k]?).map fun t=>(t,r.2.set i (some (.list (ts.eraseIdx k))))else none)|_,_=>none)|_=>none) Q
def kS1(Q:D->Prop):Nat->Prop:=fun c=>Q (.str (mk1 c))
def kGs(q:List D->En->Option En)(ts:List D)(Q:En->Prop):En->Prop:=fun en=>W (q ts en) Q
def p8(t:D)(Q:List D->Prop):List D->Prop:=fun ts=>Q (t::ts)
def Kg(r:List (D ⊕ Nat))(en:En)(Q:List D->Prop):D->Prop:=fun t=>W (eo r en) (p8 t Q)
def mX{α:Type}(ts:List α)(n:Nat):atI ts (n:Int)=ts[n]?:=by
 unfold atI ixN;rw[if_pos (by omega)];by_cases h:n<ts.length
 ·rw[if_pos (by omega)];rfl
 ·rw[if_neg (by omega),zbj (by omega)];rfl
def GN(x:D)(l:List D):du (x::l) (some 1) none=l:=by
 unfold du;rw[HT.sIx_none,show(some (1:Int))=some ((1:Nat):Int)from rfl,HT.sIx_nat,Nat.min_eq_left (by simp),List.drop_one];exact List.take_of_length_le (by simp)
def FH(a b:Int):(a==b)=decide (a=b):=by
 by_cases h:a=b
 ·rw[h,zaB rfl];exact beq_self_eq_true b
 ·rw[zaA h];exact zbK.mpr h
def Fw(a b:Bool):neD (.bool a) (.bool b)=some (.bool (!(a==b))):=by
 show grd _ _=_;unfold grd;rw[if_pos ⟨rfl,rfl,zbh _⟩];simp only[peq]
def nF(a b:Str):(a==b)=decide (a=b):=by
 by_cases h:a=b
 ·rw[h,zaB rfl];exact beq_self_eq_true b
 ·rw[zaA h];exact zbK.mpr h
def Lj(a b:Str):eqD (.str a) (.str b)=some (.bool (decide (a=b))):=by
 show grd _ _=_;unfold grd;rw[if_pos ⟨rfl,rfl,zbh _⟩,<-nF];simp only[peq]
def JT(a b:Str):neD (.str a) (.str b)=some (.bool (!decide (a=b))):=by
 show grd _ _=_;unfold grd;rw[if_pos ⟨rfl,rfl,zbh _⟩,<-nF];simp only[peq]
variable(en:En)(Qs:Fl->Prop)(Qe:D×En->Prop)(Qb:Bool×En->Prop)(Qa:List (D ⊕ Nat)×En->Prop)(Ql:List D×En->Prop)(Qd:D->Prop)(Qt:List D->Prop)(Qn:En->Prop)(f:ME)(g:MG)(fa:MA)(c:MT)(ts:List D)(i:Nat)
def ws0(α:Type)(a:α)(Q:α->Prop):W (some a) Q=Q a:=aA _ _
def ws1(a:Option D)(l:En):gv (a::l) 0=a:=rfl
def ws2(a:Option D)(l:En):gv (a::l) (i+1)=gv l i:=rfl
def ws3(a b:Option D)(l:En):List.set (a::l) 0 b=b::l:=rfl
def ws4(a b:Option D)(l:En):List.set (a::l) (i+1) b=a::List.set l i b:=rfl
def ws5(a b:MS):W (al a b en) Qs=W (a en) (xj b Qs):=ay _ _ _
def ws6(b:MS):xj b Qs (.nx en)=W (b en) Qs:=rfl
def ws7(b:MS)(t:D):xj b Qs (.rt t en)=Qs (.rt t en):=aA _ _
def ws8:W (ao i f en) Qs=W (f en) (J7 i Qs):=bQ _ _ _
def ws9(t:D):J7 i Qs (t,en)=Qs (.nx (en.set i (some t))):=rfl
def IN:W (eg f en) Qs=W (f en) (Kf Qs):=bQ _ _ _
def IM(t:D):Kf Qs (t,en)=Qs (.nx en):=rfl
def IL:W (aB f en) Qs=W (f en) (J8 Qs):=bQ _ _ _
def IK(t:D):J8 Qs (t,en)=Qs (.rt t en):=rfl
def IJ:W (bc en) Qs=Qs (.nx en):=aA _ _
def II(a b:MS):W (sIf c a b en) Qs=W (c en) (kIf a b Qs):=ay _ _ _
def IH(β:Type)(a b:En->Option β)(Q:β->Prop):kIf a b Q (true,en)=W (a en) Q:=rfl
def IG(β:Type)(a b:En->Option β)(Q:β->Prop):kIf a b Q (false,en)=W (b en) Q:=rfl
def IF(fi:MI)(b:MS):W (gK fi g b en) Qs=W (fi en) (Ke g b Qs):=ay _ _ _
def IE(b:MS):Ke g b Qs (ts,en)=W (fO g b ts en) Qs:=rfl
def ID(b:MS):W (fO g b [] en) Qs=Qs (.nx en):=aA _ _
def IC(b:MS)(t:D):W (fO g b (t::ts) en) Qs=W (g t en) (Ew g b ts Qs):=(ay _ _ _).trans (congrArg _ (funext fun z=>ay _ _ _))
def IB(b:MS):Ew g b ts Qs en=W (b en) (p6 g b ts Qs):=rfl
def IA(b:MS):p6 g b ts Qs (.nx en)=W (fO g b ts en) Qs:=rfl
def Iz(b:MS):p6 g b ts Qs (.ct en)=W (fO g b ts en) Qs:=rfl
def Iy(b:MS)(t:D):p6 g b ts Qs (.rt t en)=Qs (.rt t en):=aA _ _
def Ix(t:D):W (gN i t en) Qn=Qn (en.set i (some t)):=aA _ _
def Iw(g:List D->En->Option En):W (gT g (.tuple ts) en) Qn=W (g ts en) Qn:=rfl
def Iv(q:List D->En->Option En)(t:D):W (gsC g q (t::ts) en) Qn=W (g t en) (kGs q ts Qn):=ay _ _ _
def Iu(q:List D->En->Option En):kGs q ts Qn en=W (q ts en) Qn:=rfl
def Ir:W (gs0 [] en) Qn=Qn en:=aA _ _
def Iq:W (ae i en) Qe=W (gv en i) (gM en Qe):=bQ _ _ _
def Ip(t:D):gM en Qe t=Qe (t,en):=rfl
def Io(t:D):W (eC t en) Qe=Qe (t,en):=aA _ _
def Im(g:D->Option D):W (e1 g f en) Qe=W (f en) (k1 g Qe):=(ay _ _ _).trans (congrArg _ (funext fun z=>bQ _ _ _))
def Il(g:D->Option D)(t:D):k1 g Qe (t,en)=W (g t) (gM en Qe):=rfl
def Ik(g:D->D->Option D)(f1 f2:ME):W (e2 g f1 f2 en) Qe=W (f1 en) (k2 g f2 Qe):=(ay _ _ _).trans (congrArg _ (funext fun z=>(ay _ _ _).trans (congrArg _ (funext fun y=>bQ _ _ _))))
def Ij(g:D->D->Option D)(f2:ME)(t:D):k2 g f2 Qe (t,en)=W (f2 en) (k2b g t Qe):=rfl
def Ii(g:D->D->Option D)(t u:D):k2b g t Qe (u,en)=W (g t u) (gM en Qe):=rfl
def Ih(f g:ME):W (iu f g en) Qe=W (f en) (A2 g Qe):=ay _ _ _
def Ig(g:ME):A2 g Qe (.bool true,en)=W (g en) Qe:=rfl
def Ie(g:ME):A2 g Qe (.bool false,en)=Qe (.bool false,en):=aA _ _
def Ic(f g:ME):W (eOr f g en) Qe=W (f en) (kOr g Qe):=ay _ _ _
def Ib(g:ME):kOr g Qe (.bool true,en)=Qe (.bool true,en):=aA _ _
def Ia(g:ME):kOr g Qe (.bool false,en)=W (g en) Qe:=rfl
def HZ:W (pk f en) Qe=W (f en) (Ka Qe):=ay _ _ _
def HY(x:Bool):Ka Qe (.bool x,en)=Qe (.bool (!x),en):=aA _ _
def HX:W (tV f en) Qb=W (f en) (kTV Qb):=ay _ _ _
def HW(x:Bool):kTV Qb (.bool x,en)=Qb (x,en):=aA _ _
def HV(f g:MT):W (iz f g en) Qb=W (f en) (xu g Qb):=ay _ _ _
def HU(g:MT):xu g Qb (true,en)=W (g en) Qb:=rfl
def HS(g:MT):xu g Qb (false,en)=Qb (false,en):=aA _ _
def HR(f g:MT):W (bOr f g en) Qb=W (f en) (A1 g Qb):=ay _ _ _
def HQ(g:MT):A1 g Qb (true,en)=Qb (true,en):=aA _ _
def HP(g:MT):A1 g Qb (false,en)=W (g en) Qb:=rfl
def HN(f:MT):W (bE f en) Qb=W (f en) (Ey Qb):=bQ _ _ _
def HM(x:Bool):Ey Qb (x,en)=Qb (!x,en):=rfl
def HL:W (cY en) Qb=Qb (true,en):=aA _ _
def HK:W (af en) Qa=Qa ([],en):=aA _ _
def HJ(r:MA):W (ac f r en) Qa=W (f en) (kAC r Qa):=(ay _ _ _).trans (congrArg _ (funext fun z=>bQ _ _ _))
def HI(r:MA)(t:D):kAC r Qa (t,en)=W (r en) (A4 t Qa):=rfl
def HH(t:D)(as:List (D ⊕ Nat)):A4 t Qa (as,en)=Qa (.inl t::as,en):=rfl
def HG(r:MA):W (aL i r en) Qa=W (gv en i) (kAS i r en Qa):=(ay _ _ _).trans (congrArg _ (funext fun z=>bQ _ _ _))
def HF(r:MA)(t:D):kAS i r en Qa t=W (r en) (A3 i Qa):=rfl
def HE(as:List (D ⊕ Nat)):A3 i Qa (as,en)=Qa (.inr i::as,en):=rfl
def HD:vals []=some []:=rfl
def HC(t:D)(r:List (D ⊕ Nat)):W (vals (.inl t::r)) Qt=W (vals r) (p8 t Qt):=bQ _ _ _
def HB(t:D):p8 t Qt ts=Qt (t::ts):=rfl
def HA:eo [] en=some []:=rfl
def Hz(t:D)(r:List (D ⊕ Nat)):W (eo (.inl t::r) en) Qt=W (eo r en) (p8 t Qt):=bQ _ _ _
def Hy(r:List (D ⊕ Nat)):W (eo (.inr i::r) en) Qt=W (gv en i) (Kg r en Qt):=(ay _ _ _).trans (congrArg _ (funext fun z=>bQ _ _ _))
def Hx(t:D)(r:List (D ⊕ Nat)):Kg r en Qt t=W (eo r en) (p8 t Qt):=rfl
def Hw(r:List (D ⊕ Nat))(o:Option D)(ψ:En):wb (.inr i::r) (o::ψ) en=wb r ψ (en.set i o):=rfl
def Hv(t:D)(r:List (D ⊕ Nat))(o:Option D)(ψ:En):wb (.inl t::r) (o::ψ) en=wb r ψ en:=rfl
def Hu(ψ:En):wb [] ψ en=en:=rfl
def Ht(g:List D->Option D):W (eN g fa en) Qe=W (fa en) (kN g Qe):=(ay _ _ _).trans (congrArg _ (funext fun z=>(ay _ _ _).trans (congrArg _ (funext fun y=>bQ _ _ _))))
def Hs(g:List D->Option D)(as:List (D ⊕ Nat)):kN g Qe (as,en)=W (vals as) (kN2 g en Qe):=rfl
def Hr(g:List D->Option D):kN2 g en Qe ts=W (g ts) (gM en Qe):=rfl
def Hq:W (aZ fa en) Qe=W (fa en) (Kb Qe):=(ay _ _ _).trans (congrArg _ (funext fun z=>ay _ _ _))
def Ho(as:List (D ⊕ Nat)):Kb Qe (as,en)=W (vals as) (xo en Qe):=rfl
def Hn:xo en Qe ts=(ts.length<=sizeLine/\Qe (.list ts,en)):=pv _ _ _
def Hm:W (gO fa en) Qe=W (fa en) (J6 Qe):=(ay _ _ _).trans (congrArg _ (funext fun z=>ay _ _ _))
def Hl(as:List (D ⊕ Nat)):J6 Qe (as,en)=W (vals as) (xi en Qe):=rfl
def Hk:xi en Qe ts=(ts.length<=sizeLine/\Qe (.tuple ts,en)):=pv _ _ _
def Hj:(([]:List D).length<=sizeLine)=True:=eq_true (zau (by show 0<=100;decide) gi)
def Hi(x0:D):(([x0]:List D).length<=sizeLine)=True:=eq_true (zau (by show 1<=100;decide) gi)
def Hh(x0 x1:D):(([x0,x1]:List D).length<=sizeLine)=True:=eq_true (zau (by show 2<=100;decide) gi)
def Hg(x0 x1 x2:D):(([x0,x1,x2]:List D).length<=sizeLine)=True:=eq_true (zau (by show 3<=100;decide) gi)
def Hf(x0 x1 x2 x3:D):(([x0,x1,x2,x3]:List D).length<=sizeLine)=True:=eq_true (zau (by show 4<=100;decide) gi)
def He(x0 x1 x2 x3 x4:D):(([x0,x1,x2,x3,x4]:List D).length<=sizeLine)=True:=eq_true (zau (by show 5<=100;decide) gi)
def Hd(x0 x1 x2 x3 x4 x5:D):(([x0,x1,x2,x3,x4,x5]:List D).length<=sizeLine)=True:=eq_true (zau (by show 6<=100;decide) gi)
def Hc(x0 x1 x2 x3 x4 x5 x6 x7:D):(([x0,x1,x2,x3,x4,x5,x6,x7]:List D).length<=sizeLine)=True:=eq_true (zau (by show 8<=100;decide) gi)
def Hb(x0 x1 x2 x3 x4 x5 x6 x7 x8 x9:D):(([x0,x1,x2,x3,x4,x5,x6,x7,x8,x9]:List D).length<=sizeLine)=True:=eq_true (zau (by show 10<=100;decide) gi)
def Ha(x0 x1 x2 x3 x4 x5 x6 x7 x8 x9 x10:D):(([x0,x1,x2,x3,x4,x5,x6,x7,x8,x9,x10]:List D).length<=sizeLine)=True:=eq_true (zau (by show 11<=100;decide) gi)
def G9(F:List D->Option (D×En)):W (aq F fa en) Qe=W (fa en) (Ex F Qe):=(ay _ _ _).trans (congrArg _ (funext fun z=>(ay _ _ _).trans (congrArg _ (funext fun y=>bQ _ _ _))))
def G8(F:List D->Option (D×En))(as:List (D ⊕ Nat)):Ex F Qe (as,en)=W (eo as en) (uB F as en Qe):=rfl
def G7(F:List D->Option (D×En))(as:List (D ⊕ Nat)):uB F as en Qe ts=W (F ts) (uA as en Qe):=rfl
def G6(as:List (D ⊕ Nat))(t:D)(ψ:En):uA as en Qe (t,ψ)=Qe (t,wb as ψ en):=rfl
def G5(q:Bool)(fi:MI)(js:List (Option Nat)):W (eLC q fi g c f js en) Qe=W (fi en) (kLC q g c f js Qe):=(ay _ _ _).trans (congrArg _ (funext fun z=>bQ _ _ _))
def G4(q:Bool)(js:List (Option Nat)):kLC q g c f js Qe (ts,en)=W (lcF g c f ts [] (bZ js en)) (xr q js en Qe):=rfl
def D4(js:List (Option Nat))(us:List D)(ex:En):xr true js en Qe (us,ex)=Qe (.list us,en):=rfl
def D3(js:List (Option Nat))(us:List D)(ex:En):xr false js en Qe (us,ex)=Qe (.list us,wbB js ex en):=rfl
def D2:bZ [] en=[]:=rfl
def D1(j:Nat)(js:List (Option Nat)):bZ (some j::js) en=gv en j::bZ js en:=rfl
def D0(js:List (Option Nat)):bZ (none::js) en=none::bZ js en:=rfl
def DZ(j:Nat)(js:List (Option Nat))(o:Option D)(ex:En):wbB (some j::js) (o::ex) en=wbB js ex (en.set j o):=rfl
def DY(js:List (Option Nat))(o:Option D)(ex:En):wbB (none::js) (o::ex) en=wbB js ex en:=rfl
def DX(ex:En):wbB [] ex en=en:=rfl
def DW:W (lcF g c f [] acc en) Ql=Ql (acc,en):=aA _ _
def DU:W (bO f en) Ql=W (f en) (xw Ql):=ay _ _ _
def DT:xw Ql (.list ts,en)=Ql (ts,en):=aA _ _
def DS:xw Ql (.tuple ts,en)=Ql (ts,en):=aA _ _
def DR(z:Str):xw Ql (.str z,en)=Ql (dH z,en):=aA _ _
def DQ:W (dP fa en) Ql=W (fa en) (kR1 Ql):=ay _ _ _
def DP(j:Int):kR1 Ql ([.inl (.int j)],en)=((-(2 ^ 62)<=j/\j<2 ^ 62)/\Ql (j6 0 j.toNat,en)):=pv _ _ _
def DN:W (mM fa en) Ql=W (fa en) (Eu Ql):=ay _ _ _
def DM(ts us:List D):Eu Ql ([.inl (.tuple ts),.inl (.tuple us)],en)=Ql (fm ts us,en):=by first|rfl|exact aA _ _|exact bH _
def DL:W (gt i f en) Qe=W (gv en i) (Es i f en Qe):=(ay _ _ _).trans (congrArg _ (funext fun z=>ay _ _ _))
def DK(x:D):Es i f en Qe x=W (f en) (p5 i Qe):=rfl
def DJ(n:Int):p5 i Qe (.int n,en)=W (gv en i) (yW n en Qe):=by unfold p5 gv;cases h:(en[i]?).join with|none=>simp only[h,bH]|some x=>simp only[h,aA];cases x<;>first|rfl|exact(aA _ _).symm | (rw[aA];rfl) | (rw[aA];exact bH _)
def DI(n:Int):yW n en Qe (.list ts)=W (atI ts n) (gM en Qe):=bQ _ _ _
def DH:W (ft i f en) Qe=W (gv en i) (Kh i f en Qe):=by unfold gv ft;cases(en[i]?).join with|none=>rw[bH,bH]|some x=>cases x<;>first|rfl|exact(aA _ _).symm | (rw[aA];rfl) | (rw[aA];exact bH _)
def DG:Kh i f en Qe (.list ts)=W (f en) (xv i Qe):=ay _ _ _
def DF(t:D):xv i Qe (t,en)=W (gv en i) (Ez i t en Qe):=by unfold xv gv;cases h:(en[i]?).join with|none=>simp only[h,bH]|some x=>simp only[h,aA];cases x<;>first|rfl|exact(aA _ _).symm | (rw[aA];rfl) | (rw[aA];exact bH _)
def DE(t:D):Ez i t en Qe (.list ts)=(ts.length<sizeLine/\Qe (.none,en.set i (some (.list (ts++[t]))))):=pv _ _ _
def DD(g g2:D->D->Option D)(f1 f2 f3:ME):W (fE g g2 f1 f2 f3 en) Qe=W (f1 en) (kCh g g2 f2 f3 Qe):=(ay _ _ _).trans (congrArg _ (funext fun z=>(ay _ _ _).trans (congrArg _ (funext fun y=>ay _ _ _))))
def DC(g g2:D->D->Option D)(f2 f3:ME)(t:D):kCh g g2 f2 f3 Qe (t,en)=W (f2 en) (A0 g g2 f3 t Qe):=rfl
def DB(g g2:D->D->Option D)(f3:ME)(t u:D):A0 g g2 f3 t Qe (u,en)=W (g t u) (xt g2 u f3 en Qe):=rfl
def DA(g:D->D->Option D)(u:D)(f3:ME):xt g u f3 en Qe (.bool true)=W (f3 en) (k2b g u Qe):=(ay _ _ _).trans (congrArg _ (funext fun z=>bQ _ _ _))
def Dz(g:D->D->Option D)(u:D)(f3:ME):xt g u f3 en Qe (.bool false)=Qe (.bool false,en):=aA _ _
def Dy(Q:Option Int×En->Prop):W (bx en) Q=Q (none,en):=aA _ _
def Dx(Q:Option Int×En->Prop):W (bt f en) Q=W (f en) (kOS Q):=ay _ _ _
def Dw(n:Int)(Q:Option Int×En->Prop):kOS Q (.int n,en)=Q (some n,en):=aA _ _
def Dv(g:D->Option Int->Option Int->Option D)(lo hi:MO):W (eSl g f lo hi en) Qe=W (f en) (kSl g lo hi Qe):=(ay _ _ _).trans (congrArg _ (funext fun z=>(ay _ _ _).trans (congrArg _ (funext fun y=>(ay _ _ _).trans (congrArg _ (funext fun y=>bQ _ _ _))))))
def Du(g:D->Option Int->Option Int->Option D)(lo hi:MO)(t:D):kSl g lo hi Qe (t,en)=W (lo en) (AY g t hi Qe):=rfl
def Dt(g:D->Option Int->Option Int->Option D)(hi:MO)(t:D)(a:Option Int):AY g t hi Qe (a,en)=W (hi en) (AX g t a Qe):=rfl
def Ds(g:D->Option Int->Option Int->Option D)(t:D)(a b:Option Int):AX g t a Qe (b,en)=W (g t a b) (gM en Qe):=rfl
def Dr(g:Str->List D->Option D):W (eM g f fa en) Qe=W (f en) (kM g fa Qe):=ay _ _ _
def Dq(g:Str->List D->Option D)(z:Str):kM g fa Qe (.str z,en)=W (fa en) (kM1 g z Qe):=(ay _ _ _).trans (congrArg _ (funext fun z=>(ay _ _ _).trans (congrArg _ (funext fun y=>bQ _ _ _))))
def Dp(g:Str->List D->Option D)(z:Str)(as:List (D ⊕ Nat)):kM1 g z Qe (as,en)=W (vals as) (kM2 g z en Qe):=rfl
def Do(g:Str->List D->Option D)(z:Str):kM2 g z en Qe ts=W (g z ts) (gM en Qe):=rfl
def Dm(J:En->Prop):kIt J Qs (.nx en)=J en:=rfl
def Dl(J:En->Prop):kIt J Qs (.ct en)=J en:=rfl
def Dk(J:En->Prop)(t:D):kIt J Qs (.rt t en)=Qs (.rt t en):=rfl
def Dj(b:MS)(J:En->Prop):kFg b J Qs en=W (b en) (kIt J Qs):=rfl
def Di(b:MS)(J:En->Prop):kWh b J Qs (true,en)=W (b en) (kIt J Qs):=rfl
def Dh(b:MS)(J:En->Prop):kWh b J Qs (false,en)=Qs (.nx en):=rfl
def Dg(us:List D)(J:List D->En->Prop):Kc c f us J en=W (c en) (xq f us J):=rfl
def De(us:List D)(J:List D->En->Prop):xq f us J (true,en)=W (f en) (AZ us J):=rfl
def Dd(us:List D)(J:List D->En->Prop):xq f us J (false,en)=J us en:=rfl
def Dc(us:List D)(J:List D->En->Prop)(t:D):AZ us J (t,en)=J (us++[t]) en:=rfl
def Db(n:Nat)(dps:List Nat)(b:MS):W (fnF n dps b ts) Qe=W (b (ts.map some++List.replicate n none)) (kFn dps Qe):=ay _ _ _
def Da(dps:List Nat)(t:D):kFn dps Qe (.rt t en)=Qe (t,msk dps en):=aA _ _
def C9(d:Nat)(ds:List Nat)(o:Option D):msk ((d+1)::ds) (o::en)=o::msk ds en:=rfl
def C8(ds:List Nat)(o:Option D):msk (0::ds) (o::en)=none::msk ds en:=rfl
def C7:msk [] en=[]:=rfl
def C6(t:D):List.map some (t::ts)=some t::List.map some ts:=rfl
def C5:List.map (some:D->Option D) []=[]:=rfl
def C4(a:Option D)(l m:En):(a::l)++m=a::(l++m):=rfl
def C3(m:En):([]:En)++m=m:=rfl
def CZ(a:Option D):List.replicate 0 a=[]:=rfl
def CY(a:Option D)(n:Nat):List.replicate (n+1) a=a::List.replicate n a:=rfl
def CW(a b:Int):ar (.int a) (.int b)=some (.int (a+b)):=rfl
def CV(a b:Str):W (ar (.str a) (.str b)) Qd=(a.length+b.length<=sizeLine/\Qd (.str (a++b))):=pv _ _ _
def CU(a b:Int):jZ (.int a) (.int b)=some (.int (a-b)):=rfl
def CT(a b:Int):W (bS (.int a) (.int b)) Qd=(CMul a b/\Qd (.int (a*b))):=pv _ _ _
def CQ(a b:Int):ltI (.int a) (.int b)=some (.bool (decide (a<b))):=rfl
def CP(a b:Int):leI (.int a) (.int b)=some (.bool (decide (a<=b))):=rfl
def CO(a b:Int):gtI (.int a) (.int b)=some (.bool (decide (b<a))):=rfl
def CN(a b:Int):eqD (.int a) (.int b)=some (.bool (decide (a=b))):=(Lk a b).trans (congrArg (fun q=>some (PyData.bool q)) (FH a b))
def CM(x:Str):isN (.str x) .none=some (.bool false):=rfl
def CL:bw "str" (.none)=some (.bool false):=(if_neg (fun z=>nomatch z)).trans (congrArg (fun b=>some (PyData.bool b)) (show bN "NoneType" "str"=false by decide))
def CK:bw "tuple" (.none)=some (.bool false):=(if_neg (fun z=>nomatch z)).trans (congrArg (fun b=>some (PyData.bool b)) (show bN "NoneType" "tuple"=false by decide))
def CJ(x:Int):bw "str" (.int x)=some (.bool false):=(if_neg (fun z=>nomatch z)).trans (congrArg (fun b=>some (PyData.bool b)) (show bN "int" "str"=false by decide))
def CI(x:Int):bw "tuple" (.int x)=some (.bool false):=(if_neg (fun z=>nomatch z)).trans (congrArg (fun b=>some (PyData.bool b)) (show bN "int" "tuple"=false by decide))
def CH(x:Bool):bw "str" (.bool x)=some (.bool false):=(if_neg (fun z=>nomatch z)).trans (congrArg (fun b=>some (PyData.bool b)) (show bN "bool" "str"=false by decide))
def CG(x:Bool):bw "tuple" (.bool x)=some (.bool false):=(if_neg (fun z=>nomatch z)).trans (congrArg (fun b=>some (PyData.bool b)) (show bN "bool" "tuple"=false by decide))
def CF(x:Str):bw "str" (.str x)=some (.bool true):=(if_neg (fun z=>nomatch z)).trans (congrArg (fun b=>some (PyData.bool b)) (show bN "str" "str"=true by decide))
def CD(x:Str):bw "tuple" (.str x)=some (.bool false):=(if_neg (fun z=>nomatch z)).trans (congrArg (fun b=>some (PyData.bool b)) (show bN "str" "tuple"=false by decide))
def CC(x:List D):bw "str" (.list x)=some (.bool false):=(if_neg (fun z=>nomatch z)).trans (congrArg (fun b=>some (PyData.bool b)) (show bN "list" "str"=false by decide))
def CB(x:List D):bw "tuple" (.list x)=some (.bool false):=(if_neg (fun z=>nomatch z)).trans (congrArg (fun b=>some (PyData.bool b)) (show bN "list" "tuple"=false by decide))
def CA(x:List D):bw "str" (.tuple x)=some (.bool false):=(if_neg (fun z=>nomatch z)).trans (congrArg (fun b=>some (PyData.bool b)) (show bN "tuple" "str"=false by decide))
def Cz(x:List D):bw "list" (.tuple x)=some (.bool false):=(if_neg (fun z=>nomatch z)).trans (congrArg (fun b=>some (PyData.bool b)) (show bN "tuple" "list"=false by decide))
def Cy(x:List D):bw "tuple" (.tuple x)=some (.bool true):=(if_neg (fun z=>nomatch z)).trans (congrArg (fun b=>some (PyData.bool b)) (show bN "tuple" "tuple"=true by decide))
def Cw(α β:Type)(f:α->β)(l:List α):(l.map f).length=l.length:=zad f
def Cv:aQ [.list ts]=some (.int ts.length):=rfl
def Cu:aQ [.tuple ts]=some (.int ts.length):=rfl
def Ct(z:Str):W (aQ [.str z]) Qd=(z.length<=sizeLine/\Qd (.int z.length)):=tE _ _ _
def Cr(a b:Int):xg [.int a,.int b]=some (.int (if b>a then b else a)):=rfl
def Cq(a b:Int):xf [.int a,.int b]=some (.int (if b<a then b else a)):=rfl
def Cp(a:Int):AL (.int a)=some (.int (-a)):=rfl
def Co:io [.list ts]=some (.tuple ts):=rfl
def Cn(n:Int):ixA (.list ts) (.int n)=atI ts n:=rfl
def Cm:iQ [.tuple ts]=some (.list ts):=rfl
def Cl(n:Int):ixA (.tuple ts) (.int n)=atI ts n:=rfl
def Ck(ts us:List D):W (fw (.list ts) (.list us)) Qd=(ts.length+us.length<=sizeLine/\Qd (.list (ts++us))):=pv _ _ _
def Cj(lo hi:Option Int):gW (.list ts) lo hi=some (.list (du ts lo hi)):=rfl
def Ci:atI ts 0=ts[0]?:=mX ts _
def Ch(t:D):(t::ts)[0]?=some t:=rfl
def Cg:W (ie i f en) Qe=W (gv en i) (J9 i f en Qe):=by unfold gv ie;cases(en[i]?).join with|none=>rw[bH,bH]|some x=>cases x<;>first|rfl|exact(aA _ _).symm | (rw[aA];rfl) | (rw[aA];exact bH _)
def Cf:J9 i f en Qe (.list ts)=W (f en) (xn i Qe):=ay _ _ _
def Ce(n:Int):xn i Qe (.int n,en)=W (gv en i) (xm i n en Qe):=by unfold xn gv;cases h:(en[i]?).join with|none=>simp only[h,bH]|some x=>simp only[h,aA];cases x<;>first|rfl|exact(aA _ _).symm | (rw[aA];rfl) | (rw[aA];exact bH _)
def Cd(n:Int):xm i n en Qe (.list ts)=((-(2 ^ 63)<=n/\n<2 ^ 63)/\W (qZ ts n) (Ev i en Qe)):=by unfold xm qZ;dsimp only;rw[EK];congr 1;rw[ay,ay];congr 1;funext k;rw[bQ,bQ];rfl
def Cc(t:D)(us:List D):Ev i en Qe (t,us)=Qe (t,en.set i (some (.list us))):=rfl
def Cb(z:Str)(n:Int):W (ixT (.str z) (.int n)) Qd=(z.length<=sizeLine/\W (atI (li z) n) (kS1 Qd)):=by show W (if _ then _ else _) _=_;rw[EK,bQ];rfl
def Ca(c:Nat):kS1 Qd c=Qd (.str (mk1 c)):=rfl
def B9(z:Str)(n:Int):W (uk (.str z) (.int n)) Qd=((z.length<=4000/\-(2 ^ 63)<=n/\n<=4000)/\Qd (.str (Txt.mul z n))):=tE _ _ _
def B8(z:Str)(lo hi:Option Int):W (fu (.str z) lo hi) Qd=(z.length<=sizeLine/\Qd (.str ⟨(bq z.cps.toList lo hi).toArray⟩)):=tE _ _ _
def B7(lo hi:Option Int):xO (.tuple ts) lo hi=some (.tuple (du ts lo hi)):=by first|rfl|exact aA _ _|exact bH _
def B6(z y:Str):gJ z [.str y]=some (.bool (Txt.startswith z y)):=rfl
def B5(a b:Str):xA (.str a) (.str b)=some (.bool (ck b a)):=rfl
def B4(a b:Str):ri (.str a) (.str b)=some (.bool (!ck b a)):=rfl
def B3(a b:Bool):neD (.bool a) (.bool b)=some (.bool (!(a==b))):=Fw a b
def B2(a b:Str):eqD (.str a) (.str b)=some (.bool (decide (a=b))):=Lj a b
def B1(a b:Str):neD (.str a) (.str b)=some (.bool (!decide (a=b))):=JT a b
def B0(a b:Bool):isB (.bool a) (.bool b)=some (.bool (a==b)):=rfl
def BZ(a:Bool):(a==a)=true:=beq_self_eq_true a
def BY(m:List D):([]++m:List D)=m:=rfl
def BX(x:D)(l m:List D):((x::l)++m:List D)=x::(l++m):=rfl
def BW(x0 x1 x2 x3 x4 x5:D):(([x0,x1,x2,x3,x4,x5]:List D).length<sizeLine)=True:=eq_true (zag (by show 6<100;decide) gi)
def BV(x:D)(l:List D):du (x::l) (some 1) none=l:=GN x l
def BU(p:Prop):(False/\p)=False:=false_and p
def BT:(!true)=false:=rfl
def BS:(!false)=true:=rfl
def BR(p:Prop):(True/\p)=p:=true_and p
def BQ(p:Prop):(p/\True)=p:=and_true p
def BP(_:Decidable True):decide True=true:=zaB trivial
def BO(_:Decidable False):decide False=false:=zaA (fun z=>z)
end
def zzI{a b:Prop}(x:a)(y:b):a/\b:=⟨x,y⟩
def G3:=zzI @ws0 (zzI @ws1 (zzI @ws2 (zzI @ws3 (zzI @ws4 (zzI @ws5 (zzI @ws6 (zzI @ws7 (zzI @ws8 (zzI @ws9 (zzI @IN (zzI @IM (zzI @IL (zzI @IK (zzI @IJ (zzI @II (zzI @IH (zzI @IG (zzI @IF (zzI @IE (zzI @ID (zzI @IC (zzI @IB (zzI @IA (zzI @Iz (zzI @Iy (zzI @Ix (zzI @Iw (zzI @Iv (zzI @Iu (zzI @Ir (zzI @Iq (zzI @Ip (zzI @Io (zzI @Im (zzI @Il (zzI @Ik (zzI @Ij (zzI @Ii @Ih))))))))))))))))))))))))))))))))))))))
def G0:=zzI @Ig (zzI @Ie (zzI @Ic (zzI @Ib (zzI @Ia (zzI @HZ (zzI @HY (zzI @HX (zzI @HW (zzI @HV (zzI @HU (zzI @HS (zzI @HR (zzI @HQ (zzI @HP (zzI @HN (zzI @HM (zzI @HL (zzI @HK (zzI @HJ (zzI @HI (zzI @HH (zzI @HG (zzI @HF (zzI @HE (zzI @HD (zzI @HC (zzI @HB (zzI @HA (zzI @Hz (zzI @Hy (zzI @Hx (zzI @Hw (zzI @Hv (zzI @Hu (zzI @Ht (zzI @Hs (zzI @Hr (zzI @Hq @Ho))))))))))))))))))))))))))))))))))))))
def GZ:=zzI @Hn (zzI @Hm (zzI @Hl (zzI @Hk (zzI @Hj (zzI @Hi (zzI @Hh (zzI @Hg (zzI @Hf (zzI @He (zzI @Hd (zzI @Hc (zzI @Hb (zzI @Ha (zzI @G9 (zzI @G8 (zzI @G7 (zzI @G6 (zzI @G5 (zzI @G4 (zzI @D4 (zzI @D3 (zzI @D2 (zzI @D1 (zzI @D0 (zzI @DZ (zzI @DY (zzI @DX (zzI @DW (zzI @DU (zzI @DT (zzI @DS (zzI @DR (zzI @DQ (zzI @DP (zzI @DN (zzI @DM (zzI @DL (zzI @DK @DJ))))))))))))))))))))))))))))))))))))))
def GY:=zzI @DI (zzI @DH (zzI @DG (zzI @DF (zzI @DE (zzI @DD (zzI @DC (zzI @DB (zzI @DA (zzI @Dz (zzI @Dy (zzI @Dx (zzI @Dw (zzI @Dv (zzI @Du (zzI @Dt (zzI @Ds (zzI @Dr (zzI @Dq (zzI @Dp (zzI @Do (zzI @Dm (zzI @Dl (zzI @Dk (zzI @Dj (zzI @Di (zzI @Dh (zzI @Dg (zzI @De (zzI @Dd (zzI @Dc (zzI @Db (zzI @Da (zzI @C9 (zzI @C8 (zzI @C7 (zzI @C6 (zzI @C5 (zzI @C4 @C3))))))))))))))))))))))))))))))))))))))
def GV:=zzI @CZ (zzI @CY (zzI @CW (zzI @CV (zzI @CU (zzI @CT (zzI @CQ (zzI @CP (zzI @CO (zzI @CN (zzI @CM (zzI @CL (zzI @CK (zzI @CJ (zzI @CI (zzI @CH (zzI @CG (zzI @CF (zzI @CD (zzI @CC (zzI @CB (zzI @CA (zzI @Cz (zzI @Cy (zzI @Cw (zzI @Cv (zzI @Cu (zzI @Ct (zzI @Cr (zzI @Cq (zzI @Cp (zzI @Co (zzI @Cn (zzI @Cm (zzI @Cl (zzI @Ck (zzI @Cj (zzI @Ci (zzI @Ch @Cg))))))))))))))))))))))))))))))))))))))
def GU:=zzI @Cf (zzI @Ce (zzI @Cd (zzI @Cc (zzI @Cb (zzI @Ca (zzI @B9 (zzI @B8 (zzI @B7 (zzI @B6 (zzI @B5 (zzI @B4 (zzI @B3 (zzI @B2 (zzI @B1 (zzI @B0 (zzI @BZ (zzI @BY (zzI @BX (zzI @BW (zzI @BV (zzI @BU (zzI @BT (zzI @BS (zzI @BR (zzI @BQ (zzI @BP @BO))))))))))))))))))))))))))
def ws:=zzI @G3 (zzI @G0 (zzI @GZ (zzI @GY (zzI @GV @GU))))
end L2
namespace L2
namespace Pen3
open PySem L2
def sl1000:1000<=sizeLine:=by rw[sizeLine_eq];decide
end Pen3
end L2
namespace L2
variable{g:MG}{b:MS}{ts:List D}{en:En}{Q:List D×En->Prop}{c:MT}{f:ME}{n:Nat}{o:Option D}
open PySem PySem.Spec PyProof.Rows
def jU{Q:Fl->Prop}(I:Nat->En->Prop)(h0:I 0 en)
  (hs:∀i t en,ts[i]?=some t->I i en->W (g t en) (kFg b (I (i+1)) Q)) (hq:∀en,I ts.length en->Q (.nx en)):W (fO g b ts en) Q:=by
 suffices ∀(us:List D) (i:Nat) (en:En),ts.drop i=us->i<=ts.length->I i en->W (fO g b us en) Q from this ts 0 en rfl (zbh _) h0
 intro us
 induction us with
 |nil=>
  intro i en hu hi h
  have:ts.length-i=0:=by rw[<-zaF,hu];rfl
  simp only[ws];exact hq en (by rw[show ts.length=i by omega];exact h)
 |cons t us ih=>
  intro i en hu hi h;have ht:ts[i]?=some t:=by
   have:(ts.drop i)[0]?=some t:=by rw[hu];rfl
   rw[List.getElem?_drop]at this;exact this
  have hl:i<ts.length:=(zah.mp ht).1;have hd:ts.drop (i+1)=us:=by rw[<-List.drop_drop,hu];rfl
  simp only[ws];refine(hs i t en ht h).use fun en1 h1=>?_;simp only[ws]at h1 ⊢;refine h1.use fun fl h2=>?_;cases fl with
  |nx e=>simp only[ws]at h2 ⊢;exact ih (i+1) e hd hl h2
  |ct e=>simp only[ws]at h2 ⊢;exact ih (i+1) e hd hl h2
  |rt t e=>simp only[ws]at h2 ⊢;exact h2
def rO(I:Nat->List D->En->Prop)(hz:ts.length<=sizeLine)(h0:I 0 [] en)
  (hs:∀i t us en,ts[i]?=some t->us.length<=i->I i us en->W (g t en) (Kc c f us (I (i+1)))) (hq:∀us en,us.length<=ts.length->I ts.length us en->Q (us,en)):W (lcF g c f ts [] en) Q:=by
 suffices ∀(vs:List D) (i:Nat) (us:List D) (en:En),ts.drop i=vs->i<=ts.length->us.length<=i->I i us en->W (lcF g c f vs us en) Q from this ts 0 [] en rfl (zbh _) (zbh _) h0
 intro vs
 induction vs with
 |nil=>
  intro i us en hu hi hl h
  have:ts.length-i=0:=by rw[<-zaF,hu];rfl
  simp only[ws];exact hq us en (by omega) (by rw[show ts.length=i by omega];exact h)
 |cons t vs ih=>
  intro i us en hu hi hl h;have ht:ts[i]?=some t:=by
   have:(ts.drop i)[0]?=some t:=by rw[hu];rfl
   rw[List.getElem?_drop]at this;exact this
  have hlt:i<ts.length:=(zah.mp ht).1;have hd:ts.drop (i+1)=vs:=by rw[<-List.drop_drop,hu];rfl
  unfold lcF;rw[ay];refine(hs i t us en ht hl h).use fun en1 h1=>?_;simp only[ws]at h1;rw[ay];refine h1.use fun r h2=>?_;obtain⟨x,en2⟩:=r;cases x with
  |true=>
   simp only[ws]at h2;show W ((f en2).bind _) Q;rw[ay];refine h2.use fun q h3=>?_;obtain⟨u,en3⟩:=q;simp only[ws]at h3;show W (if us.length<sizeLine then _ else _) Q;rw[if_pos (by omega)];exact ih (i+1) _ _ hd hlt (by rw[zae];show _+1<=_;omega) h3
  |false=>
   simp only[ws]at h2;exact ih (i+1) _ _ hd hlt (by omega) h2
def wG{Q:Fl->Prop}(I:Nat->En->Prop)(hs:∀n en,I n en->W (c en) (kWh b (fun e=>∃m,m<n/\I m e) Q))(h0:I n en):W (c9 c b en) Q:=by
 induction n using Nat.strongRecOn generalizing en with
 |_ n ih=>
  obtain⟨⟨x,en1⟩,e1,h1⟩:=(hs n en h0).ex;cases x with
  |false=>simp only[ws]at h1;exact W.of (vt e1) h1
  |true=>
   simp only[ws]at h1;obtain⟨fl,e2,h2⟩:=h1.ex;cases fl with
   |nx e=>
    obtain⟨m,hm,hi⟩:∃m,m<n/\I m e:=h2;obtain⟨fl,e3,h3⟩:=(ih m hm hi).ex;exact W.of (vv e1 e2 e3) h3
   |ct e=>
    obtain⟨m,hm,hi⟩:∃m,m<n/\I m e:=h2;obtain⟨fl,e3,h3⟩:=(ih m hm hi).ex;obtain⟨k,h4⟩:=j4 e3;refine W.of (jG (n:=k+1) ?_) h3;unfold whN;rw[e1];show(b en1).bind _=_;rw[e2];exact h4
   |rt t e=>
    refine W.of (jG (n:=1) ?_) (show Q (.rt t e)from h2);unfold whN;rw[e1];show(b en1).bind _=_;rw[e2];rfl
def fG{rest:En}(F:D->D)(hz:ts.length<=sizeLine)(hf:∀t∈ts,W (f (some t::rest)) (fun r=>r=(F t,some t::rest)))(hq:∀o',Q (ts.map F,o'::rest)):W (lcF (gN 0) cY f ts [] (o::rest)) Q:=by
 obtain⟨o',e⟩:=FC (f:=f) (F:=F) (rest:=rest) ts [] o (fun t ht=>by
  obtain⟨r,e,h⟩:=(hf t ht).ex;rw[e,h]) (by simpa using hz)
 exact W.of e (hq o')
def jV{rest:En}(p:D->Bool)(F:D->D)(hz:ts.length<=sizeLine)(hc:∀t∈ts,W (c (some t::rest)) (fun r=>r=(p t,some t::rest)))(hf:∀t∈ts,p t=true->W (f (some t::rest)) (fun r=>r=(F t,some t::rest)))(hq:∀o',Q ((ts.filter p).map F,o'::rest)):W (lcF (gN 0) c f ts [] (o::rest)) Q:=by
 obtain⟨o',e⟩:=iS (c:=c) (f:=f) (p:=p) (F:=F) (rest:=rest) ts [] o (fun t ht=>by
  obtain⟨r,e,h⟩:=(hc t ht).ex;rw[e,h]) (fun t ht hp=>by
  obtain⟨r,e,h⟩:=(hf t ht hp).ex;rw[e,h]) (by simpa using hz)
 exact W.of e (hq o')
def jD{α:Type}{ts:List α}{i:Nat}{t:α}(h:ts[i]?=some t):ts.take (i+1)=ts.take i++[t]:=by
 rw[List.take_add_one,h];rfl
def ge{i:Int}{k:Nat}{t:D}(h:(j6 i n)[k]?=some t):k<n/\t=.int (i+(k:Nat)):=by
 unfold j6 at h;rw[zao]at h;obtain⟨j,hj,rfl⟩:=zab.mp h;obtain⟨hl,e⟩:=zah.mp hj;rw[List.getElem_range]at e;rw[zbd]at hl;exact⟨hl,by rw[e]⟩
def cQ(i:Int)(n:Nat):(j6 i n).length=n:=by unfold j6;rw[zad,zbd]
def sz(h:n<=1000):n<=sizeLine:=zau h Pen3.sl1000
def szl(h:n<1000):n<sizeLine:=zag h Pen3.sl1000
end L2
set_option maxHeartbeats 1000000
namespace L2
namespace Tg
open PySem L2 Pen3
abbrev s1(c:Nat):D:=.str (mk1 c)
def ev:Str:=("!\"#$&'()*+,-./0123456789:;<=>?@ABCDEFGHIJKLMNOPQRSTUVWXYZ":Str)++("[\\]^_`abcdefghijklmnopqrstuvwxyz{|}~":Str)
theorem jR:∀(l:List Nat) (k:Nat),(l.map s1).eraseIdx k=(l.eraseIdx k).map s1
 |[],_=>rfl
 |a::l,0=>rfl
 |a::l,k+1=>by
  show s1 a::(l.map s1).eraseIdx k=s1 a::(l.eraseIdx k).map s1;rw[jR l k]
def rY{z:Str}(h:(li z).length<=1000):iQ [.str z]=some (.list ((li z).map s1)):=by
 show grd (z.cps.size<=sizeLine) _=_;unfold grd;rw[if_pos (zau (by rw[<-zaY];exact h) sl1000)];rfl
def MM{left:List Nat}{k:Nat}(hk:k<left.length):qZ (left.map s1) (k:Int)=some (s1 left[k],(left.eraseIdx k).map s1):=by
 unfold qZ;rw[zad,Jl (by omega) (by omega),zaL];show Option.map _ _=_;rw[zao,zak hk,jR];rfl
def qu{α:Type}(xs:List α)(n:Nat):du xs (some (n:Int)) none=xs.drop n:=by
 unfold du;rw[HT.sIx_none,HT.sIx_nat,List.take_of_length_le (by rw[zaF];exact zav _)];by_cases h:n<=xs.length
 ·rw[Nat.min_eq_left h]
 ·rw[Nat.min_eq_right (by omega),List.drop_eq_nil_of_le (zav _),List.drop_eq_nil_of_le (by omega)]
def qt{α:Type}(xs:List α)(n:Nat):du xs none (some (n:Int))=xs.take n:=by
 unfold du;rw[HT.sIx_none,HT.sIx_nat,List.drop_zero,Nat.sub_zero];by_cases h:n<=xs.length
 ·rw[Nat.min_eq_left h]
 ·rw[Nat.min_eq_right (by omega),List.take_of_length_le (zav _),List.take_of_length_le (by omega)]
theorem i9:∀ks:List Str,joinD.strsOf (ks.map .str)=some ks
 |[]=>rfl
 |c::cs=>by
  show(joinD.strsOf (cs.map .str)).map (c::·)=_;rw[i9 cs];rfl
def r6{ks:List Str}(h:(aw ks).length<=1000)(h2:ks.length<=1000):joinD "" [.tuple (ks.map .str)]=some (.str (ofL (aw ks)))/\joinD "" [.list (ks.map .str)]=some (.str (ofL (aw ks))):=by
 have e:ofL (aw ks)=Txt.join "" ks:=(JY (Ll ks)).symm;constructor
 ·show(joinD.strsOf (ks.map .str)).bind _=_;rw[i9];show(if _ then _ else _)=_;rw[if_pos ⟨by decide,by rw[u8];omega⟩,e]
 ·show(joinD.strsOf (ks.map .str)).bind _=_;rw[i9];show(if _ then _ else _)=_;rw[if_pos ⟨by decide,by rw[u8];omega⟩,e]
def wo{cs:List Nat}(h:cs.length<=1000):joinD "" [.list (cs.map s1)]=some (.str (ofL cs)):=by
 have e:(cs.map s1)=(cs.map mk1).map PyData.str:=by rw[zaR];rfl
 have h2:=(r6 (ks:=cs.map mk1) (by rw[u7];exact h) (by rw[zad];exact h)).2;rw[u7]at h2;rw[e];exact h2
def tD(ks:List Str):D:=.tuple (ks.map .str)
abbrev sgs(ks:List Str):Str:=ofL (aw ks)
def xh(cs:List Nat):li (ofL cs)=cs:=rfl
def FA(cs:List Nat):(ofL cs).length=cs.length:=by show cs.toArray.size=_;rw[zai]
end Tg
end L2
namespace L2
namespace Tg
open PySem L2 Pen3
def tN(z y:Str)(i:Nat):Builtin.Str.subAt z y i=((((li z).drop i).take (li y).length)==li y):=StrLaws.subAt_eq z y i
def mH(z:Str):(li z).length=z.length:=zaY
def iN(z y:Str):Txt.startswith z y=true↔li y <+: li z:=by
 show(decide (0+y.length<=z.length)&&Builtin.Str.subAt z y 0)=true↔_;rw[tN,zbk,decide_eq_true_eq,beq_iff_eq,List.drop_zero];have a:=mH z;have b:=mH y;constructor
 ·rintro⟨_,h⟩;exact List.prefix_iff_eq_take.mpr h.symm
 ·intro h;exact⟨by have:=h.length_le;omega,(List.prefix_iff_eq_take.mp h).symm⟩
def Kl(z y:Str):ck z y=true↔li y <:+: li z:=by
 have a:=mH z;have b:=mH y;unfold ck;rw[StrLaws.found_iff];constructor
 ·rintro⟨i,h1,h2⟩;rw[tN,beq_iff_eq]at h2;refine⟨(li z).take i,((li z).drop i).drop (li y).length,?_⟩;rw[zaD]
  conv=>rhs;rw[<-List.take_append_drop i (li z)]
  congr 1
  conv=>rhs;rw[<-List.take_append_drop (li y).length ((li z).drop i)]
  rw[h2]
 ·rintro⟨s,t,h⟩;refine⟨s.length,?_,?_⟩
  ·have:=congrArg List.length h;rw[zae,zae]at this;omega
  ·rw[tN,beq_iff_eq,<-h,zaD,List.drop_left,List.take_left]
abbrev rv(z:Str):Str:=⟨z.cps.toList.reverse.toArray⟩
end Tg
end L2
namespace L2
open PySem PySem.Spec PyProof.Rows
end L2
namespace W59
variable{n m k c:Nat}{t p:D}{Q:List D×En->Prop}{ks ys r left zs:List Str}{z a x w:Str}{ts:List D}{b:Bool}{ps:List (List Str)}{pls:List (List (List Str))}{L l:List Nat}{P:Str->Prop}
open PySem L2 Tg
def Pn(n:Nat)(t:D):Prop:=∃ns k l,t=Pen2.penD ns k l/\0<=k/\k<=(n:Int)/\0<=l
def Pn.mono(h:Pn n t)(e:n<=m):Pn m t:=by
 obtain⟨ns,k,l,rfl,h1,h2,h3⟩:=h;exact⟨ns,k,l,rfl,h1,by omega,h3⟩
def bR{m:Int}(hp:Pn n p)(hn:n<=1000000)(h3:0<m)(h4:m<1073741824){Q:D×En->Prop}(h:∀r p',0<=r->r<m->Pn (n+1) p'->Q (.int r,[some p',none])):W (aO [p,.int m]) Q:=by
 obtain⟨ns,k,l,rfl,k0,k1,l0⟩:=hp;obtain⟨r,k',l',e,e1,e2,e3,e4,e5⟩:=Pen2.take_ok (ns:=ns) (k:=k) (l:=l) (m:=m) k0 (by omega) l0 h3 h4;exact W.of (show aO _=_ from e) (h r _ e1 e2 ⟨ns,k',l',rfl,by omega,by omega,e5⟩)
def xV{ns:List Int}{Q:D×En->Prop}(h:∀p,Pn k p->Q (p,[none,none])):W (F_law_pen [.list (ns.map .int),.int (k:Nat)]) Q:=
 W.of (show F_law_pen [.list (ns.map .int),.int (k:Nat)]=some (Pen2.penD ns (k:Nat) 0,[none,none])from rfl) (h _ ⟨ns,(k:Nat),0,rfl,by omega,by omega,by omega⟩)
def txt:D->Str
 |.str z=>z
 |_=>""
def isW(L:List Nat):D->Bool
 |.str z=>decide (1<=(li z).length)&&(decide ((li z).length<=6)&&(li z).all fun c=>decide (c∈L))
 |_=>false
def fr(ys:List Str):Bool:=decide (ys.Pairwise fun a b=>¬(li a <+: li b)/\¬(li b <+: li a))
def frD:D->Bool
 |.tuple ts=>fr (ts.map txt)
 |_=>true
def isP(L:List Nat):D->Bool
 |.tuple ts=>decide (ts.length<=12)&&(ts.all (isW L)&&decide ((ts.map txt).Nodup))
 |_=>false
def isS(L:List Nat):D->Bool
 |.tuple ts=>decide (1<=ts.length)&&(decide (ts.length<=5)&&(ts.all (isP L)&&ts.dropLast.all frD))
 |_=>false
def eJ(L:List Nat):D->Bool
 |.tuple ts=>decide (ts.length<=3)&&ts.all (isS L)
 |_=>false
def nDc:D->Bool
 |.dict _=>false
 |_=>true
def FtW(t:D):Prop:=ax t=true/\dq t<=5/\∀z,t=.str z->z.length<=1000
def FtP(t:D):Prop:=(nDc t=true/\dq t<=6)/\∀ts,t=.tuple ts->ts.length<=1000/\∀x∈ts,FtW x
def FtS(t:D):Prop:=(nDc t=true/\dq t<=7)/\∀ts,t=.tuple ts->ts.length<=1000/\∀x∈ts,FtP x
def FtL(t:D):Prop:=nDc t=true/\∀ts,t=.tuple ts->ts.length<=1000/\∀x∈ts,FtS x
structure TT(ks:List Str):Prop where
 n4:ks.length<=4
 l12:(aw ks).length<=12
 l1:1<=(aw ks).length
def rq(T:TT ks):joinD "" [tD ks]=some (.str (sgs ks)):=(r6 (by have:=T.l12;omega) (by have:=T.n4;omega)).1
theorem sf{α:Type}(f:α->Bool):∀l:List α,i7 (l.map fun a=>.bool (f a))=some (l.map f)
 |[]=>rfl
 |a::l=>by
  show(i7 (l.map fun a=>.bool (f a))).map (f a::·)=_;rw[sf f l];rfl
def all_map{α:Type}(f:α->Bool)(l:List α):kg [.list (l.map fun a=>.bool (f a))]=some (.bool (l.all f)):=by
 show(i7 _).map _=_;rw[sf];show some (PyData.bool ((l.map f).all id))=_;rw[List.all_map];rfl
theorem pi(f:Nat->Str):∀n x,(x∈bC f n↔∃i,i<n/\f i=x)
 |0,x=>by simp[bC]
 |n+1,x=>by
  have ih:=pi f n;rw[jI];by_cases q:(bC f n).any (·==f n)=true
  ·rw[if_pos q,ih];constructor
   ·rintro⟨i,h,e⟩;exact⟨i,by omega,e⟩
   ·rintro⟨i,h,e⟩;by_cases hi:i=n
    ·subst hi;obtain⟨y,hy,e2⟩:=List.any_eq_true.mp q;have e3:y=f i:=by simpa using e2
     rw[<-e,<-e3];exact(ih y).mp hy
    ·exact⟨i,by omega,e⟩
  ·rw[if_neg q,zax,ih,zaH];constructor
   ·rintro (⟨i,h,e⟩|e)
    ·exact⟨i,by omega,e⟩
    ·exact⟨n,by omega,e.symm⟩
   ·rintro⟨i,h,e⟩;by_cases hi:i=n
    ·subst hi;exact .inr e.symm
    ·exact .inl ⟨i,by omega,e⟩
theorem rX(f:Nat->Str):∀n,((bC f n).length=n↔((List.range n).map f).Nodup)
 |0=>by simp[bC]
 |n+1=>by
  have ih:=rX f n;have le:=nN f n;rw[um,List.range_succ,zaC,List.nodup_append];by_cases q:(bC f n).any (·==f n)=true
  ·rw[if_pos q];constructor
   ·intro h;omega
   ·rintro⟨_,_,h⟩;obtain⟨y,hy,e2⟩:=List.any_eq_true.mp q;have e3:y=f n:=by simpa using e2
    obtain⟨i,hi,e⟩:=(pi f n y).mp hy;exact absurd (e.trans e3) (h (f i) (zaz.mpr ⟨i,zbn.mpr hi,rfl⟩) (f n) (by simp))
  ·rw[if_neg q];constructor
   ·intro h;refine⟨ih.mp (by omega),by simp,fun a ha b hb e=>q ?_⟩;obtain⟨i,hi,rfl⟩:=zaz.mp ha;have hb':b=f n:=by simpa using hb
    refine List.any_eq_true.mpr ⟨f i,(pi f n _).mpr ⟨i,zbn.mp hi,rfl⟩,?_⟩;rw[e,hb'];exact beq_self_eq_true _
   ·rintro⟨h,_,_⟩
    have:=ih.mpr h;omega
def yA(ys:List Str):(List.range ys.length).map (et ys)=ys:=by
 apply List.ext_getElem
 ·rw[zad,zbd]
 ·intro i h1 h2;rw[List.getElem_map,List.getElem_range];unfold et;rw[zbg,zak h2];rfl
theorem rM{L:List Nat}:∀{ts:List D},ts.all (isW L)=true->ts=(ts.map txt).map .str
 |[],_=>rfl
 |t::ts,h=>by
  rw[List.all_cons,zbk]at h;rw[zar,zar,<-rM h.2];cases t with
  |str z=>rfl
  |_=>cases h.1
def yh(h:ys.length<=1000):W (fI [.tuple (ys.map .str)]) (fun r=>r=(.bool (decide ys.Nodup),[none])):=by
 have e:nO (.tuple (ys.map .str))=some (.int (bC (et ys) ys.length).length):=by
  show(joinD.strsOf _).bind _=_;rw[i9];show grd _ _=_;unfold grd;rw[if_pos (by omega)]
 have e2:decide (((bC (et ys) ys.length).length:Int)=(ys.length:Int))=decide ys.Nodup:=by
  have:=rX (et ys) ys.length;rw[yA]at this;rw[decide_eq_decide,<-this];omega
 simp only[fI,oK,ws,e,e2]
def Jj(T:TT ks):W (im [tD ks]) (fun r=>r=(.str (sgs ks),[none])):=by
 simp only[im,sC,ws,rq T]
def ze(T:TT ks)(hz:z.length<=1000):W (fX [tD ks,.str z]) (fun r=>r=(.bool (decide (z.length<=60)&&(li z).all fun c=>decide (c∈aw ks)),[none,none])):=by
 by_cases h1:(60:Int)<(z.length:Nat)
 ·have h2:decide (z.length<=60)=false:=zaA (by omega);simp only[fX,lY,ws,h1,h2];exact⟨sz (by omega),by simp⟩
 ·have h2:decide (z.length<=60)=true:=zaB (by omega);simp only[fX,lY,ws,h1,h2];refine⟨sz (by omega),?_⟩;refine W.use (Jj T) ?_;rintro _ rfl;simp only[ws];have hl:(dH z).length=z.length:=by unfold dH;rw[zad];exact zaY
  have e0:dH z=(li z).map s1:=rfl;rw[e0];refine fG (fun t=>match t with|.str y=>.bool (ck (sgs ks) y)|_=>.none) (by rw[<-e0,hl];exact sz (by omega)) (fun t ht=>?_) fun o'=>?_
  ·obtain⟨c,hc,rfl⟩:=zaz.mp ht;simp only[qE,ws]
  ·rw[zaR];have e:∀c:Nat,ck (sgs ks) (mk1 c)=decide (c∈aw ks):=fun c=>StrLaws.found_one (sgs ks) c;have e1:=all_map (fun c:Nat=>decide (c∈aw ks)) (li z);have e2:(li z).map ((fun t:D=>match t with|.str y=>(.bool (ck (sgs ks) y):D)|_=>.none)∘s1)=(li z).map fun a=>.bool (decide (a∈aw ks)):=by
    refine List.map_congr_left fun c _=>?_;show PyData.bool (ck (sgs ks) (mk1 c))=_;rw[e c]
   rw[e2];simp only[ws,e1];simp
def EO(T:TT ks)(h:FtW t):W (cW [tD ks,t]) (fun r=>r=(.bool (isW (aw ks) t),[none,none])):=by
 cases t with
 |str z=>
  simp only[cW,iE,ws];refine W.use (ze T (h.2.2 z rfl)) ?_;rintro _ rfl;have hz:=h.2.2 z rfl;have ll:(li z).length=z.length:=zaY;unfold isW;cases ha:(li z).all fun c=>decide (c∈aw ks)
  ·simp only[ws,ha,zbR]
  ·by_cases h6:z.length<=60
   ·have q:decide (z.length<=60)=true:=zaB h6;simp only[ws,ha,q,zbQ,ll];refine⟨sz (by omega),?_⟩;by_cases a:(1:Int)<=(z.length:Nat)
    ·have a2:decide (1<=z.length)=true:=zaB (by omega);have b2:decide (((z.length:Nat):Int)<=6)=decide (z.length<=6):=by rw[decide_eq_decide];omega
     simp only[ws,a,a2,b2,zaG]
    ·have a2:decide (1<=z.length)=false:=zaA (by omega);simp only[ws,a,a2,Bool.false_and]
   ·have q:decide (z.length<=60)=false:=zaA h6;have q2:decide ((li z).length<=6)=false:=zaA (by omega);simp only[ws,q,q2,Bool.false_and,zbR]
 |dict ks=>cases h.1
 |_=>simp only[cW,iE,fX,lY,ws,isW]
def FtP.its(h:FtP (.tuple ts)):ts.length<=1000/\∀x∈ts,FtW x:=h.2 ts rfl
def FtS.its(h:FtS (.tuple ts)):ts.length<=1000/\∀x∈ts,FtP x:=h.2 ts rfl
def FtL.its(h:FtL (.tuple ts)):ts.length<=1000/\∀x∈ts,FtS x:=h.2 ts rfl
def zh(T:TT ks)(h:FtP t):W (fY [tD ks,t]) (fun r=>r=(.bool (isP (aw ks) t),[none,none])):=by
 cases t with
 |tuple ts=>
  obtain⟨hl,hw⟩:=h.its;unfold isP;by_cases h1:(12:Int)<(ts.length:Nat)
  ·have q:decide (ts.length<=12)=false:=zaA (by omega);simp only[fY,l6,ws,h1,q,Bool.false_and]
  ·have q:decide (ts.length<=12)=true:=zaB (by omega);simp only[fY,l6,ws,h1,q,zaG];refine fG (fun t=>.bool (isW (aw ks) t)) (sz (by omega)) (fun t ht=>?_) fun o'=>?_
   ·simp only[qI,ws];refine W.use (EO T (hw t ht)) ?_;rintro _ rfl;simp only[ws]
   ·have e:=all_map (isW (aw ks)) ts;simp only[ws,e];cases ha:ts.all (isW (aw ks))with
    |false=>simp only[ws,Bool.false_and]
    |true=>
     have e2:=rM ha;simp only[ws,zaG];have e3:(PyData.tuple ts)=.tuple ((ts.map txt).map .str):=by rw[<-e2]
     rw[e3];refine W.use (yh (by rw[zad];omega)) ?_;rintro _ rfl;simp only[ws]
 |dict ks=>cases h.1.1
 |_=>simp only[fY,l6,ws,isP]
def BH{y:Str}(hl:ys.length<=1000):W (cq [.tuple (ys.map .str),.str y]) (fun r=>r=(.list ((ys.filter fun w=>decide (li w <+: li y)).map .str),[none,none])):=by
 simp only[cq,iJ,ws];refine jV (fun t=>decide (li (txt t) <+: li y)) (fun t=>t) (by rw[zad];exact sz hl) (fun t ht=>?_) (fun t ht _=>?_) fun o'=>?_
 ·obtain⟨w,hw,rfl⟩:=zaz.mp ht;have e:Txt.startswith y w=decide (li w <+: li y):=by
   rw[Bool.eq_iff_iff,iN,decide_eq_true_eq]
  simp only[gH,ws,e,txt];rfl
 ·simp only[gI,ws]
 ·have e:List.map (fun t=>t) (List.filter (fun t=>decide (li (txt t) <+: li y)) (ys.map PyData.str))=(ys.filter fun w=>decide (li w <+: li y)).map .str:=by
   rw[List.map_id',List.filter_map];rfl
  rw[e];simp only[ws]
theorem jS:∀ys:List Str,cc (ys.map PyData.str)=0
 |[]=>rfl
 |y::ys=>by
  rw[zar];simp only[cc,dq,jS ys];rfl
theorem kx:∀ys:List Str,aF (ys.map PyData.str)=true
 |[]=>rfl
 |y::ys=>by
  rw[zar];simp only[aF,ax,kx ys];rfl
theorem oZ:∀xs ys:List Str,eI (xs.map PyData.str) (ys.map PyData.str)=decide (xs=ys)
 |[],[]=>rfl
 |[],_::_=>rfl
 |_::_,[]=>rfl
 |x::xs,y::ys=>by
  simp only[zar,eI,peq,oZ xs ys,nF];by_cases h:x=y
  ·by_cases h2:xs=ys<;>simp[h,h2]
  ·simp[h]
def wz(xs ys:List Str):eqD (.list (xs.map .str)) (.list (ys.map .str))=some (.bool (decide (xs=ys))):=by
 show grd _ _=_;unfold grd;rw[if_pos ⟨by simp only[ax];exact kx xs,by simp only[ax];exact kx ys,by simp only[dq,jS];decide⟩];simp only[peq,oZ]
def xD{α:Type}{l:List α}{p:α->Bool}{y:α}(nd:l.Nodup)(hy:y∈l)(py:p y=true)(h:∀w∈l,p w=true->w=y):l.filter p=[y]:=by
 induction l with
 |nil=>cases hy
 |cons x l ih=>
  obtain⟨n1,n2⟩:=zbb.mp nd;by_cases hx:x=y
  ·subst hx;rw[List.filter_cons_of_pos py];congr 1;rw[List.filter_eq_nil_iff];intro w hw hp;exact n1 (h w (zaj _ hw) hp▸hw)
  ·have hp:¬p x=true:=fun z=>hx (h x zaq z);rw[List.filter_cons_of_neg hp];have hy':y∈l:=by
    rcases zay.mp hy with e|e
    ·exact absurd e.symm hx
    ·exact e
   exact ih n2 hy' fun w hw=>h w (zaj _ hw)
def Bb(nd:ys.Nodup):(ys.all fun y=>decide ((ys.filter fun w=>decide (li w <+: li y))=[y]))=fr ys:=by
 unfold fr;rw[Bool.eq_iff_iff,decide_eq_true_eq,List.all_eq_true];constructor
 ·intro h;have key:∀a∈ys,∀b∈ys,a≠b->¬li a <+: li b:=fun a ha b hb hne hp=>by
   have e:=of_decide_eq_true (h b hb)
   have:a∈ys.filter fun w=>decide (li w <+: li b):=zby.mpr ⟨ha,zaB hp⟩;rw[e]at this;exact hne (zaH.mp this)
  refine List.Pairwise.imp_of_mem ?_ nd;intro a b ha hb hne;exact⟨key a ha b hb hne,key b hb a ha (Ne.symm hne)⟩
 ·intro h y hy;refine zaB (xD nd hy (zaB (List.prefix_refl _)) fun w hw hp=>?_);have hp':li w <+: li y:=of_decide_eq_true hp;refine Classical.byContradiction fun hne=>?_;rcases List.mem_iff_getElem.mp hw with⟨i,hi,rfl⟩;rcases List.mem_iff_getElem.mp hy with⟨j,hj,rfl⟩;have hpw:=List.pairwise_iff_getElem.mp h;rcases Nat.lt_trichotomy i j with hij|hij|hij
  ·exact(hpw i j hi hj hij).1 hp'
  ·subst hij;exact hne rfl
  ·exact(hpw j i hj hi hij).2 hp'
def Fs(nd:ys.Nodup)(hl:ys.length<=1000):W (bL [.tuple (ys.map .str)]) (fun r=>r=(.bool (fr ys),[none])):=by
 simp only[bL,gE,ws];refine fG (fun t=>.bool (decide ((ys.filter fun w=>decide (li w <+: li (txt t)))=[txt t]))) (by rw[zad];exact sz hl) (fun t ht=>?_) fun o'=>?_
 ·obtain⟨y,hy,rfl⟩:=zaz.mp ht;simp only[fJ,ws];refine W.use (BH hl) ?_;rintro _ rfl;have e:=wz (ys.filter fun w=>decide (li w <+: li y)) [y];simp only[zar,za0]at e;simp only[ws,e,txt];rfl
 ·rw[zaR];have e:=all_map (fun y=>decide ((ys.filter fun w=>decide (li w <+: li y))=[y])) ys;have e2:List.map ((fun t=>PyData.bool (decide ((ys.filter fun w=>decide (li w <+: li (txt t)))=[txt t])))∘PyData.str) ys=ys.map fun y=>.bool (decide ((ys.filter fun w=>decide (li w <+: li y))=[y])):=rfl;rw[e2];simp only[ws,e,Bb nd]
def BA{α:Type}(ts:List α)(h:1<=ts.length):du ts none (some (-1))=ts.dropLast:=by
 unfold du;have e1:HT.sIx ts.length ts.length (some (-1))=ts.length-1:=by
  show(if(-1:Int)<0 then(-1+(ts.length:Int)).toNat else min (-1:Int).toNat ts.length)=_;rw[if_pos (by decide)];omega
 rw[e1,HT.sIx_none,List.dropLast_eq_take];simp
def zg(T:TT ks)(h:FtS t):W (eQ [tD ks,t]) (fun r=>r=(.bool (isS (aw ks) t),[none,none])):=by
 cases t with
 |tuple ts=>
  obtain⟨hl,hp⟩:=h.its;unfold isS;by_cases h1:(1:Int)<=(ts.length:Nat)
  ·by_cases h5:((ts.length:Nat):Int)<=5
   ·have q1:decide (1<=ts.length)=true:=zaB (by omega);have q5:decide (ts.length<=5)=true:=zaB (by omega);simp only[eQ,jy,ws,h1,h5,q1,q5,zaG];refine fG (fun t=>.bool (isP (aw ks) t)) (sz (by omega)) (fun t ht=>?_) fun o'=>?_
    ·simp only[qG,ws];refine W.use (zh T (hp t ht)) ?_;rintro _ rfl;simp only[ws]
    ·have e:=all_map (isP (aw ks)) ts;simp only[ws,e];cases ha:ts.all (isP (aw ks))with
     |false=>simp only[ws,Bool.false_and]
     |true=>
      have ha':=List.all_eq_true.mp ha;have ec:du ts none (some (-1))=ts.dropLast:=BA ts (by omega);simp only[ws,zaG,ec];refine fG (fun t=>.bool (frD t)) (sz (by rw[List.length_dropLast];omega)) (fun t ht=>?_) fun o'=>?_
      ·have hm:=List.dropLast_subset _ ht;have hpt:=ha' t hm;cases t with
       |tuple us=>
        unfold isP at hpt;rw[zbk,zbk]at hpt;have e2:=rM hpt.2.1;have e3:(PyData.tuple us)=.tuple ((us.map txt).map .str):=by rw[<-e2]
        simp only[qF,ws,frD];rw[e3];refine W.use (Fs (of_decide_eq_true hpt.2.2) (by rw[zad];have:=of_decide_eq_true hpt.1;omega)) ?_;rintro _ rfl;simp only[ws]
       |_=>cases hpt
      ·have e4:=all_map frD ts.dropLast;simp only[ws,e4]
   ·have q5:decide (ts.length<=5)=false:=zaA (by omega);simp only[eQ,jy,ws,h1,h5,q5,Bool.false_and,zbR]
  ·have q1:decide (1<=ts.length)=false:=zaA (by omega);simp only[eQ,jy,ws,h1,q1,Bool.false_and]
 |dict ks=>cases h.1.1
 |_=>simp only[eQ,jy,ws,isS]
def mK(T:TT ks)(h:FtL t):W (cM [tD ks,t]) (fun r=>r=(.bool (eJ (aw ks) t),[none,none])):=by
 cases t with
 |tuple ts=>
  obtain⟨hl,hw⟩:=h.its;unfold eJ;by_cases h1:(3:Int)<(ts.length:Nat)
  ·have q:decide (ts.length<=3)=false:=zaA (by omega);simp only[cM,lZ,ws,h1,q,Bool.false_and]
  ·have q:decide (ts.length<=3)=true:=zaB (by omega);simp only[cM,lZ,ws,h1,q,zaG];refine fG (fun t=>.bool (isS (aw ks) t)) (sz (by omega)) (fun t ht=>?_) fun o'=>?_
   ·simp only[qH,ws];refine W.use (zg T (hw t ht)) ?_;rintro _ rfl;simp only[ws]
   ·have e:=all_map (isS (aw ks)) ts;simp only[ws,e]
 |dict ks=>cases h.1
 |_=>simp only[cM,lZ,ws,eJ]
def ti(L:List Nat)(z:Str):isW L (.str z)=(decide (1<=(li z).length)&&(decide ((li z).length<=6)&&(li z).all fun c=>decide (c∈L))):=rfl
def xy(L:List Nat)(ts:List D):isP L (.tuple ts)=(decide (ts.length<=12)&&(ts.all (isW L)&&decide ((ts.map txt).Nodup))):=rfl
def xx(L:List Nat)(ts:List D):isS L (.tuple ts)=(decide (1<=ts.length)&&(decide (ts.length<=5)&&(ts.all (isP L)&&ts.dropLast.all frD))):=rfl
def uG(L:List Nat)(ts:List D):eJ L (.tuple ts)=(decide (ts.length<=3)&&ts.all (isS L)):=rfl
def Fv(xs:List Str):neD (.list (xs.map .str)) (.list [])=some (.bool (!decide (xs=[]))):=by
 show grd _ _=_;unfold grd;rw[if_pos ⟨by simp only[ax];exact kx xs,rfl,by simp only[dq,jS];decide⟩]
 have:=oZ xs [];simp only[za0]at this;simp only[peq,this]
theorem pX:∀{ts:List D},(∀x∈ts,ax x=true)->aF ts=true
 |[],_=>rfl
 |t::ts,h=>by simp only[aF,h t zaq,pX fun x hx=>h x (zaj _ hx),zbi]
theorem lG{n:Nat}:∀{ts:List D},(∀x∈ts,dq x<=n)->cc ts<=n
 |[],_=>zbh _
 |t::ts,h=>by
  have h1:=h t zaq;have h2:=lG fun x hx=>h x (zaj _ hx);simp only[cc];omega
def Fj(t:D)(z:Str):peq t (.str z)=match t with|.str y=>decide (y=z)|_=>false:=by
 cases t with
 |str y=>simp only[peq,nF]
 |none=>rfl
 |bool b=>rfl
 |int i=>rfl
 |list l=>simp only[peq]
 |tuple l=>simp only[peq]
 |dict l=>simp only[peq]
structure GW(ks:List Str)(m:Nat)(z:Str):Prop where
 l1:1<=(li z).length
 lm:(li z).length<=m
 mem:∀c∈li z,c∈aw ks
def ll(z:Str):(li z).length=z.length:=zaY
def EU(ks:List Str):(sgs ks).length=(aw ks).length:=FA _
def yU(ks:List Str):li (sgs ks)=aw ks:=rfl
theorem wF(z:Str):∀ys:List Str,((ys.map PyData.str).any fun t=>peq t (.str z))=decide (z∈ys)
 |[]=>by simp
 |y::ys=>by
  rw[zar,List.any_cons,wF z ys,Fj];by_cases h:y=z
  ·simp[h]
  ·have h':¬z=y:=fun e=>h e.symm;simp[h,h']
def w8(z:Str)(ys:List Str):ui (.str z) (.list (ys.map .str))=some (.bool (!decide (z∈ys))):=by
 show grd _ _=_;unfold grd;rw[if_pos ⟨rfl,kx ys,by rw[jS];decide⟩,wF]
def FZ(h:fr ys=true)(hz:∀y∈ys,¬li y <+: li z/\¬li z <+: li y):fr (ys++[z])=true:=by
 unfold fr at h ⊢;rw[decide_eq_true_eq]at h ⊢;rw[List.pairwise_append];refine⟨h,List.pairwise_singleton _ _,fun a ha b hb=>?_⟩;rw[zaH.mp hb];exact hz a ha
def Lr(b:Bool)(ys:List Str):Prop:=b=false->fr ys=true
structure GP(ks:List Str)(free:Bool)(ys:List Str):Prop where
 l12:ys.length<=12
 w:∀y∈ys,GW ks 6 y
 nd:ys.Nodup
 fre:free=false->fr ys=true
def pD(ys:List Str):D:=.tuple (ys.map .str)
def sD(ps:List (List Str)):D:=.tuple (ps.map pD)
structure GS(ks:List Str)(ps:List (List Str)):Prop where
 l1:1<=ps.length
 l5:ps.length<=5
 w:∀ys∈ps,GP ks true ys
 fre:∀ys∈ps.dropLast,fr ys=true
def GP.tru(h:GP ks b ys):GP ks true ys:=⟨h.l12,h.w,h.nd,fun z=>by cases z⟩
def FS(h:(li z).length<=1000):FtW (.str z):=⟨rfl,by simp[dq],fun z' e=>by cases e;rw[<-ll];exact h⟩
def FU(hl:ts.length<=1000)(h:∀x∈ts,FtW x):FtP (.tuple ts):=⟨⟨rfl,by
 have:=lG (n:=5) fun x hx=>(h x hx).2.1;simp only[dq];omega⟩,fun us e=>by cases e;exact⟨hl,h⟩⟩
def FT(hl:ts.length<=1000)(h:∀x∈ts,FtP x):FtS (.tuple ts):=⟨⟨rfl,by
 have:=lG (n:=6) fun x hx=>(h x hx).1.2;simp only[dq];omega⟩,fun us e=>by cases e;exact⟨hl,h⟩⟩
def FV(hl:ts.length<=1000)(h:∀x∈ts,FtS x):FtL (.tuple ts):=⟨rfl,fun us e=>by cases e;exact⟨hl,h⟩⟩
def GW.is(h:GW ks 6 z):isW (aw ks) (.str z)=true:=by
 rw[ti,zaB h.l1,zaB h.lm,zaG,zaG,List.all_eq_true];exact fun c hc=>zaB (h.mem c hc)
def qS(ys:List Str):(ys.map PyData.str).map txt=ys:=by
 rw[zaR];exact List.map_id _
def GP.is{b:Bool}{ys:List Str}(h:GP ks b ys):isP (aw ks) (pD ys)=true:=by
 unfold pD;rw[xy,zad,zaB h.l12,zaG,qS,zaB h.nd,zbQ,List.all_eq_true];intro x hx;obtain⟨y,hy,rfl⟩:=zaz.mp hx;exact(h.w y hy).is
def GS.is{ps:List (List Str)}(h:GS ks ps):isS (aw ks) (sD ps)=true:=by
 unfold sD;rw[xx,zad,zaB h.l1,zaB h.l5,zaG,zaG,zbk,List.all_eq_true,List.all_eq_true];refine⟨fun x hx=>?_,fun x hx=>?_⟩
 ·obtain⟨y,hy,rfl⟩:=zaz.mp hx;exact(h.w y hy).is
 ·rw[<-List.map_dropLast]at hx;obtain⟨y,hy,rfl⟩:=zaz.mp hx;show fr ((y.map PyData.str).map txt)=true;rw[qS];exact h.fre y hy
def okc(c:Nat):Prop:=c≠32/\c≠10/\c<256
instance (c:Nat):Decidable (okc c):=by unfold okc;infer_instance
structure TX(ks:List Str):Prop where
 t:TT ks
 c:∀c∈aw ks,okc c
 f:∀z∈ks,li z≠[]
def pool:List Nat:=li "!\"#$&'()*+,-./0123456789:;<=>?\x40[\\]^_`{|}~"++li "ABCDEFGHIJKLMNOPQRSTUVWXYZabcdefghijklmnopqrstuvwxyz"
def AE:pool.length=93:=by decide +kernel
def Fd:∀c∈pool,okc c:=by decide +kernel
def Fc{left:List Nat}(hp:Pn n p)(hn:n<=1000)(h1:m<=12)(hl:left.length=93)(hc:∀c∈left,okc c)
  (hq:∀(cs:List Nat) o' p' l',cs.length=m->(∀c∈cs,okc c)->Pn (n+12) p'->Q (cs.map s1,[o',some p',l'])):W (lcF (gN 0) cY gS (j6 0 m) [] [none,some p,some (.list (left.map s1))]) Q:=by
 refine rO (fun i us en=>∃(cs lf:List Nat) (o:Option D) (p:D),us=cs.map s1/\en=[o,some p,some (.list (lf.map s1))]/\cs.length=i/\lf.length+i=93/\(∀c∈cs,okc c)/\(∀c∈lf,okc c)/\Pn (n+i) p) (by rw[cQ];exact sz (by omega)) ⟨[],left,none,p,rfl,rfl,rfl,hl,by simp,hc,hp⟩ ?_ ?_
 ·rintro i t us en ht hu ⟨cs,lf,o,p,rfl,rfl,g1,g2,g3,g4,hp⟩;obtain⟨hi,rfl⟩:=ge ht;simp only[ws,gS];refine bR hp (by omega) (by omega) (by omega) fun r p' r0 r1 hp'=>?_;obtain⟨k,rfl⟩:=zaM r0;have hk:k<lf.length:=by omega
  simp only[ws,MM hk];refine⟨by omega,cs++[lf[k]],lf.eraseIdx k,_,p',by rw[zaC];rfl,rfl,by rw[zae,g1];rfl,by rw[List.length_eraseIdx_of_lt hk];omega,fun c hc=>?_,fun c hc=>g4 c (List.mem_of_mem_eraseIdx hc),hp'⟩;rcases zax.mp hc with hc|hc
  ·exact g3 c hc
  ·rw[zaH.mp hc];exact g4 _ (zaK hk)
 ·rintro us en hu ⟨cs,lf,o,p,rfl,rfl,g1,g2,g3,g4,hp⟩;rw[cQ]at g1 g2 hp;exact hq cs o p _ g1 g3 (hp.mono (by omega))
def L1(cs:List Nat):neD (.list (cs.map s1)) (.list [])=some (.bool (!decide (cs=[]))):=by
 have e:(cs.map s1)=(cs.map mk1).map PyData.str:=by rw[zaR];rfl
 have h:=Fv (cs.map mk1);rw[e,h];congr 3;rw[decide_eq_decide,List.map_eq_nil_iff]
def AW{cs:List Nat}{x1 x2 x5:Option D}(hp:Pn n p)(hn:n<=1000)(hm:cs.length=m)(h1:1<=m)(h12:m<=12)(hc:∀c∈cs,okc c){Q:Fl->Prop}
  (h:∀ks p' o3 o5,TX ks->Pn (n+12) p'->Q (.nx [some p',x1,x2,o3,some (.list (ks.map .str)),o5])):
  W (c9 e8 gQ [some p,x1,x2,some (.list (cs.map s1)),some (.list []),x5]) Q:=by
 refine wG (fun d en=>∃p' left ks o5,en=[some p',x1,x2,some (.list (left.map s1)),some (.list (ks.map .str)),o5]/\left.length=d/\(aw ks).length+left.length=m/\left.length+6*ks.length<=24/\ks.length<=4/\Pn (n+ks.length) p'/\(∀c∈aw ks,okc c)/\(∀c∈left,okc c)/\∀z∈ks,li z≠[]) (fun d en ⟨p',left,ks,o5,e,g1,g2,g3,g4,g5,g6,g7,g8⟩=>?_) (n:=cs.length) ⟨p,cs,[],x5,rfl,rfl,by simp[aw,hm],by simp;omega,by simp,hp,by simp[aw],hc,fun _ h=>nomatch h⟩;subst e;have e0:=L1 left;by_cases hl:left=[]
 ·have q:decide (left=[])=true:=zaB hl;simp only[ws,e8,e0,q];have l0:left.length=0:=by rw[hl];rfl
  exact h ks p' _ _ ⟨⟨g4,by omega,by omega⟩,g6,g8⟩ (g5.mono (by omega))
 ·have q:decide (left=[])=false:=zaA hl;have lp:0<left.length:=List.length_pos_iff.mpr hl;simp only[ws,e8,e0,q,gQ];obtain⟨mo,hmo⟩:∃mo:Int,(if(left.length:Int)<6 then(left.length:Int)else 6)=mo:=⟨_,rfl⟩;have hm':1<=mo/\mo<=left.length/\mo<=6:=by rw[<-hmo];split<;>omega
  rw[hmo];refine bR g5 (by omega) (by omega) (by omega) fun r p1 r0 r1 hp1=>?_;simp only[ws,gt_iff_lt];refine⟨.inl (by decide),?_⟩;obtain⟨z,hz⟩:∃z:Nat,(if 1+r<(left.length:Int)-6*(3-(ks.length:Int))then(left.length:Int)-6*(3-(ks.length:Int))else 1+r)=(z:Int)/\1<=z/\z<=left.length/\(left.length:Int)-6*(3-(ks.length:Int))<=z:=by
   split
   ·exact⟨((left.length:Int)-6*(3-(ks.length:Int))).toNat,by omega,by omega,by omega,by omega⟩
   ·exact⟨(1+r).toNat,by omega,by omega,by omega,by omega⟩
  obtain⟨hz,z1,zl,z3⟩:=hz;have st:left.take z++left.drop z=left:=List.take_append_drop z left;have tl:(left.take z).length=z:=by rw[zaE];omega
  have dl:(left.drop z).length=left.length-z:=zaF;simp only[ws,hz,qt,qu,<-List.map_take,<-List.map_drop,wo (cs:=left.take z) (by omega)];refine⟨szl (by omega),(left.drop z).length,by omega,p1,left.drop z,ks++[ofL (left.take z)],_,by rw[zaC];rfl,rfl,?_,?_,?_,hp1.mono (by rw[zae];show _<=n+(_+1);omega),fun c hc=>?_,fun c hc=>g7 c (List.mem_of_mem_drop hc),fun y hy=>?_⟩
  ·rw[sr,p0,zae,tl,dl];omega
  ·rw[zae,dl];show _+6*(_+1)<=24;omega
  ·rw[zae];show _+1<=4;omega
  ·rw[sr,p0]at hc;rcases zax.mp hc with hc|hc
   ·exact g6 c hc
   ·exact g7 c (List.mem_of_mem_take hc)
  ·rcases zax.mp hy with hy|hy
   ·exact g8 y hy
   ·rw[zaH.mp hy,p0];intro e;rw[e]at tl;simp at tl;omega
def yk(hp:Pn n p)(hn:n<=900)(h1:1<=m)(h12:m<=12):W (eR [p,.int (m:Nat)]) (fun r=>∃ks p',r=(tD ks,[some p',none])/\TX ks/\Pn (n+24) p'):=by
 have e1:=rY (z:="!\"#$&'()*+,-./0123456789:;<=>?\x40[\\]^_`{|}~") (by decide +kernel);have e2:=rY (z:="ABCDEFGHIJKLMNOPQRSTUVWXYZabcdefghijklmnopqrstuvwxyz") (by decide +kernel);have ep:(li "!\"#$&'()*+,-./0123456789:;<=>?\x40[\\]^_`{|}~").map s1++(li "ABCDEFGHIJKLMNOPQRSTUVWXYZabcdefghijklmnopqrstuvwxyz").map s1=pool.map s1:=by rw[<-zaC];rfl
 simp only[eR,ny,ws,e1,e2,ep,zaL];refine⟨sz (by decide +kernel),by omega,Fc hp (by omega) h12 AE Fd fun cs o' p' l' hl hc hp'=>?_⟩;simp only[ws];refine AW hp' (by omega) hl h1 h12 hc fun ks p2 o3 o5 hT hp2=>?_;simp only[ws];exact⟨ks,p2,rfl,hT,hp2.mono (by omega)⟩
def GQ{α:Type}{l:List α}{r:Int}(h0:0<=r)(h1:r<l.length):∃x,atI l r=some x/\x∈l:=by
 obtain⟨k,rfl⟩:=zaM h0;have hk:k<l.length:=by omega
 exact⟨l[k],by rw[mX,zak hk],zaK hk⟩
def u9{α:Type}{l:List α}{r:Int}{Q:α->Prop}(h0:0<=r)(h1:r<l.length)(h:∀x∈l,Q x):W (atI l r) Q:=by
 obtain⟨x,e,hx⟩:=GQ h0 h1;exact W.of e (h x hx)
def Lo(hp:Pn n p)(hn:n<=800):W (cN [p]) (fun r=>∃ks p',r=(tD ks,[some p'])/\TX ks/\Pn (n+40) p'):=by
 simp only[cN,jA,ws];refine bR hp (by omega) (by decide) (by decide) fun r p1 r0 r1 hp1=>?_;by_cases hr:r=0
 ·simp only[ws,hr];refine bR hp1 (by omega) (by decide) (by decide) fun q p2 q0 q1 hp2=>?_;simp only[ws];refine u9 q0 q1 fun x hx=>?_;simp only[ws];simp only[zay,zap,or_false]at hx;have fin:∀(ks:List Str),x=tD ks->TX ks->∃ks p',(x,[some p2])=(tD ks,[some p'])/\TX ks/\Pn (n+40) p':=fun ks e hT=>⟨ks,p2,by rw[e],hT,hp2.mono (by omega)⟩;rcases hx with h|h|h|h|h|h|h
  ·exact fin ["-"] h ⟨⟨by decide,by decide +kernel,by decide +kernel⟩,by decide +kernel,by decide +kernel⟩
  ·exact fin ["0","1","-"] h ⟨⟨by decide,by decide +kernel,by decide +kernel⟩,by decide +kernel,by decide +kernel⟩
  ·exact fin ["long","-01"] h ⟨⟨by decide,by decide +kernel,by decide +kernel⟩,by decide +kernel,by decide +kernel⟩
  ·exact fin ["ends","012","-"] h ⟨⟨by decide,by decide +kernel,by decide +kernel⟩,by decide +kernel,by decide +kernel⟩
  ·exact fin ["not","hbi","0-e","|"] h ⟨⟨by decide,by decide +kernel,by decide +kernel⟩,by decide +kernel,by decide +kernel⟩
  ·exact fin ["1"] h ⟨⟨by decide,by decide +kernel,by decide +kernel⟩,by decide +kernel,by decide +kernel⟩
  ·exact fin ["apr","t-0123","'\"\\"] h ⟨⟨by decide,by decide +kernel,by decide +kernel⟩,by decide +kernel,by decide +kernel⟩
 ·simp only[ws,hr];refine bR hp1 (by omega) (by decide) (by decide) fun q p2 q0 q1 hp2=>?_;simp only[ws];refine bR hp2 (by omega) (by decide) (by decide) fun a p3 a0 a1 hp3=>?_;simp only[ws];refine u9 a0 a1 fun x hx=>?_;obtain⟨m,rfl,m1,m12⟩:∃m:Nat,x=.int (m:Nat)/\1<=m/\m<=12:=by
   simp only[zay,zap,or_false]at hx;rcases hx with h|h|h|h|h|h|h|h
   ·exact⟨2,h,by decide,by decide⟩
   ·exact⟨3,h,by decide,by decide⟩
   ·exact⟨4,h,by decide,by decide⟩
   ·exact⟨1,h,by decide,by decide⟩
   ·exact⟨6,h,by decide,by decide⟩
   ·exact⟨12,h,by decide,by decide⟩
   ·exact⟨5,h,by decide,by decide⟩
   ·exact⟨(1+q).toNat,by rw[h];congr 1;omega,by omega,by omega⟩
  simp only[ws];refine W.use (yk hp3 (by omega) m1 m12) ?_;rintro _ ⟨ks,p4,rfl,hT,hp4⟩;simp only[ws];exact⟨ks,p4,rfl,hT,hp4.mono (by omega)⟩
def Lm(h:k<(li z).length):atI (li z) (k:Int)=some (li z)[k]:=by
 rw[mX,zak h]
def EN(T:TX ks)(hp:Pn n p)(hn:n<=100000)(hm:m<=6) 
  (h:∀(cs:List Nat) o p',cs.length=m->(∀c∈cs,c∈aw ks)->Pn (n+6) p'->Q (cs.map s1,[o,some p',some (.str (sgs ks))])):
  W (lcF (gN 0) cY jq (j6 0 m) [] [none,some p,some (.str (sgs ks))]) Q:=by
 have t1:=T.t.l1;have t12:=T.t.l12;have sl:=EU ks;refine rO (fun i us en=>∃(cs:List Nat) (o:Option D) (p':D),us=cs.map s1/\en=[o,some p',some (.str (sgs ks))]/\cs.length=i/\(∀c∈cs,c∈aw ks)/\Pn (n+i) p') (by rw[cQ];exact sz (by omega)) ⟨[],none,p,rfl,rfl,rfl,by simp,hp⟩ (fun i t us en ht hu ⟨cs,o,p',e1,e2,h1,h2,h3⟩=>?_) fun us en _ ⟨cs,o,p',e1,e2,h1,h2,h3⟩=>?_
 ·obtain⟨hi,rfl⟩:=ge ht;subst e1 e2;simp only[ws,jq];refine⟨sz (by omega),bR h3 (by omega) (by omega) (by omega) fun r p2 r0 r1 hp2=>?_⟩;obtain⟨k,rfl⟩:=zaM r0;have hk:k<(li (sgs ks)).length:=by rw[yU];omega
  have ek:=Lm hk;simp only[ws,ek];refine⟨sz (by omega),cs++[(li (sgs ks))[k]],_,p2,by rw[zaC];rfl,rfl,by rw[zae,h1];rfl,fun c hc=>?_,hp2⟩;rcases zax.mp hc with hc|hc
  ·exact h2 c hc
  ·rw[zaH.mp hc,<-yU ks];exact zaK hk
 ·subst e1 e2;rw[cQ]at h1 h3;exact h cs o p' h1 h2 (h3.mono (by omega))
def Fq(T:TX ks)(hp:Pn n p)(hn:n<=50000):W (gD [p,.str (sgs ks),.bool b]) (fun r=>∃ys p',r=(.tuple (ys.map .str),[some p',none,none])/\GP ks b ys/\Pn (n+120) p'):=by
 simp only[gD,qO,ws];refine bR hp (by omega) (by decide) (by decide) fun a p1 a0 a1 hp1=>?_;simp only[ws];refine u9 a0 a1 fun x hx=>?_;obtain⟨m,rfl,hm⟩:∃m:Nat,x=.int (m:Nat)/\m<=14:=by
  simp only[zay,zap,or_false]at hx;rcases hx with h|h|h|h|h|h|h|h
  ·exact⟨0,h,by decide⟩
  ·exact⟨1,h,by decide⟩
  ·exact⟨2,h,by decide⟩
  ·exact⟨3,h,by decide⟩
  ·exact⟨5,h,by decide⟩
  ·exact⟨12,h,by decide⟩
  ·exact⟨14,h,by decide⟩
  ·exact⟨2,h,by decide⟩
 simp only[ws,zaL];refine⟨by omega,?_⟩;refine jU (fun i en=>∃p' ys o4 o5 o6,en=[some p',some (.str (sgs ks)),some (.bool b),some (.list (ys.map .str)),o4,o5,o6]/\Pn (n+1+7*i) p'/\ys.length<=12/\(∀y∈ys,GW ks 6 y)/\ys.Nodup/\Lr b ys) ⟨p1,[],none,none,none,rfl,hp1,by decide,by simp,List.nodup_nil,fun _=>rfl⟩ (fun i t en ht ⟨p',ys,o4,o5,o6,e,h1,h2,h3,h4,h5⟩=>?_) fun en ⟨p',ys,o4,o5,o6,e,h1,h2,h3,h4,h5⟩=>?_
 ·obtain⟨hi,rfl⟩:=ge ht;subst e;simp only[ws,nr];refine bR h1 (by omega) (by decide) (by decide) fun r p2 r0 r1 hp2=>?_;obtain⟨k,rfl⟩:=zaM r0;have ek:((1:Int)+(k:Int)).toNat=k+1:=by omega
  simp only[ws,ek];refine⟨by omega,EN T hp2 (by omega) (by omega) fun cs o p3 hl hc hp3=>?_⟩;have ej:=wo (cs:=cs) (by omega);simp only[ws,ej];have g6:GW ks 6 (ofL cs):=⟨by rw[xh];omega,by rw[xh];omega,by rw[xh];exact hc⟩;revert g6;generalize ofL cs=z;intro g6;refine jV (fun t=>decide (li z <+: li (txt t)) || decide (li (txt t) <+: li z)) (fun t=>t) (by rw[zad];exact sz (by omega)) (fun t ht=>?_) (fun t ht _=>?_) fun o'=>?_
  ·obtain⟨w,hw,rfl⟩:=zaz.mp ht;have s1':Txt.startswith w z=decide (li z <+: li w):=by rw[Bool.eq_iff_iff,iN,decide_eq_true_eq]
   have s2':Txt.startswith z w=decide (li w <+: li z):=by rw[Bool.eq_iff_iff,iN,decide_eq_true_eq]
   simp only[m4,ws,s1',txt];by_cases hq:li z <+: li w
   ·simp only[ws,hq,Bool.true_or]
   ·simp only[ws,hq,s2',Bool.false_or];rfl
  ·obtain⟨w,hw,rfl⟩:=zaz.mp ht;exact W.of rfl rfl
  ·have e3:List.map (fun t=>t) (List.filter (fun t=>decide (li z <+: li (txt t)) || decide (li (txt t) <+: li z)) (ys.map PyData.str))=(ys.filter fun w=>decide (li z <+: li w) || decide (li w <+: li z)).map .str:=by
    rw[List.map_id',List.filter_map];rfl
   rw[e3];have en1:=w8 z ys;have e4:=wz (ys.filter fun w=>decide (li z <+: li w) || decide (li w <+: li z)) [];simp only[za0]at e4;have fin:∀o4 o6 (ok:Bool),(ok=true->z∉ys/\ys.length<12/\(b=false->∀y∈ys,¬li y <+: li z/\¬li z <+: li y))->(kIf (eg (ft 3 (ae 5))) bc (kIt (fun en=>∃p' ys o4 o5 o6,en=[some p',some (.str (sgs ks)),some (.bool b),some (.list (ys.map .str)),o4,o5,o6]/\Pn (n+1+7*(i+1)) p'/\ys.length<=12/\(∀y∈ys,GW ks 6 y)/\ys.Nodup/\Lr b ys) (xj (aB (eN io (ac (ae 3) af))) (kFn [1,0,0] fun r=>∃ys p',r=(.tuple (ys.map .str),[some p',none,none])/\GP ks b ys/\Pn (n+120) p')))) (ok,[some p3,some (.str (sgs ks)),some (.bool b),some (.list (ys.map .str)),o4,some (.str z),o6]):=fun o4 o6 ok hok=>by
    cases ok with
    |true=>
     obtain⟨k1,k3,k2⟩:=hok rfl;simp only[ws];refine⟨szl (by omega),p3,ys++[z],_,_,_,by rw[zaC];rfl,hp3.mono (by omega),by rw[zae];show _+1<=_;omega,fun y hy=>?_,?_,fun hb=>FZ (h5 hb) (k2 hb)⟩
     ·rcases zax.mp hy with q|q
      ·exact h3 y q
      ·rw[zaH.mp q];exact g6
     ·rw[List.nodup_append];refine⟨h4,by simp,fun a ha c hc e=>?_⟩;rw[zaH.mp hc]at e;exact k1 (e▸ha)
    |false=>
     simp only[ws];exact⟨p3,ys,_,_,_,rfl,hp3.mono (by omega),h2,h3,h4,h5⟩
   have frees:decide ((ys.filter fun w=>decide (li z <+: li w) || decide (li w <+: li z))=[])=true->∀y∈ys,¬li y <+: li z/\¬li z <+: li y:=fun h y hy=>by
    have h':=of_decide_eq_true h;rw[List.filter_eq_nil_iff]at h'
    have:=h' y hy;rw[Bool.or_eq_true,decide_eq_true_eq,decide_eq_true_eq,not_or]at this;exact⟨this.2,this.1⟩
   by_cases hz:z∈ys
   ·have q:decide (z∈ys)=true:=zaB hz;simp only[ws,en1,q];have f:=fun o4 o6=>fin o4 o6 false (fun h=>by cases h);simp only[ws]at f;exact f _ _
   ·have q:decide (z∈ys)=false:=zaA hz;by_cases h12:(ys.length:Int)<12
    ·cases b with
     |true=>
      simp only[ws,en1,q,h12];have f:=fun o4 o6=>fin o4 o6 true (fun _=>⟨hz,by omega,fun q=>by cases q⟩);simp only[ws]at f;exact f _ _
     |false=>
      simp only[ws,en1,q,h12,e4];exact fin _ _ _ fun h=>⟨hz,by omega,fun _=>frees h⟩
    ·simp only[ws,en1,q,h12];have f:=fun o4 o6=>fin o4 o6 false (fun h=>by cases h);simp only[ws]at f;exact f _ _
 ·subst e;rw[cQ]at h1;simp only[ws];exact⟨ys,p',rfl,⟨by omega,h3,h4,h5⟩,h1.mono (by omega)⟩
def AJ(T:TX ks)(hp:Pn n p)(hn:n<=40000)(h1:1<=m)(h5:m<=5) 
  (h:∀ps p' o,GS ks ps->Pn (n+600) p'->Q (ps.map pD,[o,some p',some (.str (sgs ks)),some (.int (m:Nat))])):
  W (lcF (gN 0) cY jp (j6 0 m) [] [none,some p,some (.str (sgs ks)),some (.int (m:Nat))]) Q:=by
 refine rO (fun i us en=>∃(ps:List (List Str)) (p':D) (o:Option D),us=ps.map pD/\en=[o,some p',some (.str (sgs ks)),some (.int (m:Nat))]/\Pn (n+120*i) p'/\ps.length=i/\(∀ys∈ps,GP ks true ys)/\∀j ys,ps[j]?=some ys->j+1≠m->fr ys=true) (by rw[cQ];exact sz (by omega)) ⟨[],p,none,rfl,rfl,hp,rfl,by simp,by simp⟩ (fun i t us en ht hu ⟨ps,p',o,e1,e2,g1,g2,g3,g4⟩=>?_) fun us en _ ⟨ps,p',o,e1,e2,g1,g2,g3,g4⟩=>?_
 ·obtain⟨hi,rfl⟩:=ge ht;subst e1 e2;simp only[ws,jp];refine W.use (Fq T g1 (by omega)) ?_;rintro _ ⟨ys,p2,rfl,gp,hp2⟩;simp only[ws];refine⟨ps++[ys],p2,_,by rw[zaC];rfl,rfl,hp2.mono (by omega),by rw[zae,g2];rfl,fun y hy=>?_,fun j y hj hjk=>?_⟩
  ·rcases zax.mp hy with q|q
   ·exact g3 y q
   ·rw[zaH.mp q];exact gp.tru
  ·rcases Nat.lt_or_ge j i with q|q
   ·rw[zaS (by omega)]at hj;exact g4 j y hj hjk
   ·have hl:=(zah.mp hj).1;rw[zae]at hl
    have:j=i:=by simp at hl;omega
    subst this;rw[zbD (by omega),g2,Nat.sub_self]at hj;cases hj;refine gp.fre (zaA ?_);omega
 ·subst e1 e2;rw[cQ]at g1 g2;refine h ps p' o ⟨by omega,by omega,g3,fun ys hy=>?_⟩ (g1.mono (by omega));obtain⟨j,hj,rfl⟩:=List.mem_iff_getElem.mp hy;rw[List.length_dropLast]at hj;rw[List.getElem_dropLast];exact g4 j _ (zak (by omega)) (by omega)
structure GL(ks:List Str)(pls:List (List (List Str))):Prop where
 l3:pls.length<=3
 w:∀ps∈pls,GS ks ps
def Fg(T:TX ks)(hp:Pn n p)(hn:n<=1000):W (gC [p,tD ks,.int 2]) (fun r=>∃pls p',r=(.tuple (pls.map sD),[some p',none,none])/\GL ks pls/\pls.length<=2/\Pn (n+2000) p'):=by
 simp only[gC,qN,ws,rq T.t];refine bR hp (by omega) (by decide) (by decide) fun r p1 r0 r1 hp1=>?_;obtain⟨m,rfl⟩:=zaM r0;simp only[ws,zaL];refine⟨by omega,?_⟩;refine jU (fun i en=>∃p' pls o5 o6,en=[some p',some (tD ks),some (.int 2),some (.str (sgs ks)),some (.list (pls.map sD)),o5,o6]/\Pn (n+1+601*i) p'/\pls.length=i/\∀ps∈pls,GS ks ps) ⟨p1,[],none,none,rfl,hp1,rfl,by simp⟩ (fun i t en ht ⟨p',pls,o5,o6,e,g1,g2,g3⟩=>?_) fun en ⟨p',pls,o5,o6,e,g1,g2,g3⟩=>?_
 ·obtain⟨hi,rfl⟩:=ge ht;subst e;simp only[ws,nq];refine bR g1 (by omega) (by decide) (by decide) fun r p2 r0 r1 hp2=>?_;obtain⟨k,rfl⟩:=zaM r0;have ek:(1:Int)+(k:Int)=((k+1:Nat):Int):=by omega
  simp only[ws,ek,zaL];refine⟨by omega,AJ T hp2 (by omega) (by omega) (by omega) fun ps p3 o gs hp3=>?_⟩;simp only[ws];refine⟨szl (by omega),p3,pls++[ps],_,_,by rw[zaC];rfl,hp3.mono (by omega),by rw[zae,g2];rfl,fun x hx=>?_⟩;rcases zax.mp hx with hx|hx
  ·exact g3 x hx
  ·rw[zaH.mp hx];exact gs
 ·subst e;rw[cQ]at g1 g2;simp only[ws];exact⟨pls,p',rfl,⟨by omega,g3⟩,by omega,g1.mono (by omega)⟩
def jn(c:Nat):List (List Nat)->List Nat
 |[]=>[]
 |[y]=>y
 |y::z::r=>y++c::jn c (z::r)
def Ki(c:Nat):∀(ys zs:List (List Nat)),ys≠[]->zs≠[]->(∀y∈ys,c∉y)->(∀z∈zs,c∉z)->jn c ys=jn c zs->ys=zs:=by
 have key:∀(a b x y:List Nat),c∉a->c∉b->a++c::x=b++c::y->a=b/\x=y:=by
  intro a
  induction a with
  |nil=>
   intro b x y _ hb e;cases b with
   |nil=>simp at e;exact⟨rfl,e⟩
   |cons d b=>simp at e;exact absurd e.1.symm (fun z=>hb (by rw[z];exact zaq))
  |cons d a ih=>
   intro b x y ha hb e;cases b with
   |nil=>simp at e;exact absurd e.1 (fun z=>ha (by rw[z];exact zaq))
   |cons d' b=>
    simp at e;obtain⟨e1,e2⟩:=ih b x y (fun z=>ha (zaj _ z)) (fun z=>hb (zaj _ z)) e.2;exact⟨by rw[e.1,e1],e2⟩
 intro ys
 induction ys with
 |nil=>intro zs h;exact absurd rfl h
 |cons y ys ih=>
  intro zs _ hz hy hz' e;cases zs with
  |nil=>exact absurd rfl hz
  |cons z zs=>
   have hy0:=hy y zaq;have hz0:=hz' z zaq;cases ys with
   |nil=>
    cases zs with
    |nil=>exact congrArg (fun a=>[a]) e
    |cons z2 zs=>
     have e':y=z++c::jn c (z2::zs):=e;exact absurd (by rw[e'];simp) hy0
   |cons y2 ys=>
    cases zs with
    |nil=>
     have e':y++c::jn c (y2::ys)=z:=e;exact absurd (by rw[<-e'];simp) hz0
    |cons z2 zs=>
     obtain⟨e1,e2⟩:=key y z _ _ hy0 hz0 e;rw[e1,ih (z2::zs) (by simp) (by simp) (fun a ha=>hy a (zaj _ ha)) (fun a ha=>hz' a (zaj _ ha)) e2]
def aW(a b:Str):li (a++b)=li a++li b:=Array.toList_append
theorem bv(c:Nat):∀ys:List Str,li (Str.join ⟨#[c]⟩ ys)=jn c (ys.map li)
 |[]=>rfl
 |[y]=>by simp[Str.join,jn]
 |y::z::r=>by
  have ih:=bv c (z::r);show li (Str.join ⟨#[c]⟩ (y::z::r))=li y++c::jn c ((z::r).map li);rw[<-ih];rw[Str.join.eq_3 _ _ _ (by simp),aW,aW,zaD];rfl
def wl{b:Str}(h:li a=li b):a=b:=by
 obtain⟨a⟩:=a;obtain⟨b⟩:=b;congr 1;exact Array.toList_inj.mp h
def oR(x y:Str):Txt.split x y≠[]:=by
 unfold Txt.split;split
 ·simp
 ·split
  ·simp
  ·intro h
   have:=congrArg List.length h;rw[PyProof.Rows.len_partsBetween]at this;simp at this
def iO(hne:ys≠[])(hf:∀y∈ys,c∉li y):Txt.split (Str.join ⟨#[c]⟩ ys) ⟨#[c]⟩=ys:=by
 have h1:=StrLaws.join_split (Str.join ⟨#[c]⟩ ys) ⟨#[c]⟩;have h2:=StrLaws.split_free (Str.join ⟨#[c]⟩ ys) c;have h3:=oR (Str.join ⟨#[c]⟩ ys) ⟨#[c]⟩;revert h1 h2 h3;generalize Txt.split (Str.join ⟨#[c]⟩ ys) ⟨#[c]⟩=zs;intro h1 h2 h3;have h4:=congrArg li h1;rw[bv,bv]at h4;have h5:=Ki c _ _ (by simpa using h3) (by simpa using hne) (fun z hz=>by
  obtain⟨w,hw,rfl⟩:=zaz.mp hz;exact h2 w hw) (fun z hz=>by
  obtain⟨w,hw,rfl⟩:=zaz.mp hz;exact hf w hw) h4
 exact(List.map_inj_right fun a b h=>wl h).mp h5
theorem mJ(c B:Nat):∀ls:List (List Nat),(∀y∈ls,y.length<=B)->(jn c ls).length<=(B+1)*ls.length
 |[],_=>zbh _
 |[y],h=>by
  have:=h y (by simp);show y.length<=(B+1)*1;omega
 |y::z::r,h=>by
  have h1:=h y (by simp);have h2:=mJ c B (z::r) fun a ha=>h a (zaj _ ha);show(y++c::jn c (z::r)).length<=(B+1)*((z::r).length+1);rw[zae,zac,Nat.mul_add];omega
theorem uC(c:Nat):∀ls:List (List Nat),ls.length<=(jn c ls).length+1
 |[]=>zbh _
 |[y]=>by show 1<=_;omega
 |y::z::r=>by
  have h2:=uC c (z::r);show(z::r).length+1<=(y++c::jn c (z::r)).length+1;simp only[zae,zac]at h2 ⊢;omega
def jF(hx:(li x).length<=90000):dA (.str x) (.str ⟨#[c]⟩)=some (.list ((Txt.split x ⟨#[c]⟩).map .str)):=by
 have h1:=StrLaws.join_split x ⟨#[c]⟩;have h2:(Txt.split x ⟨#[c]⟩).length<=(li x).length+1:=by
  have:=uC c ((Txt.split x ⟨#[c]⟩).map li);rw[<-bv,h1,zad]at this;exact this
 show grd _ _=_;unfold grd;rw[if_pos ⟨rfl,by rw[<-ll];omega,by omega⟩]
theorem vT{B:Nat}:∀{ys:List Str},(∀y∈ys,(li y).length<=B)->(ys.map (·.length)).sum<=B*ys.length
 |[],_=>zbh _
 |y::ys,h=>by
  have h1:=h y (by simp);have h2:=vT (B:=B) (ys:=ys) fun z hz=>h z (zaj _ hz);rw[ll]at h1;rw[zar,List.sum_cons,zac,Nat.mul_add];omega
def jb{B:Nat}(hB:∀y∈ys,(li y).length<=B)(hl:(B+1)*ys.length<=90000):joinD ⟨#[c]⟩ [.list (ys.map .str)]=some (.str (Str.join ⟨#[c]⟩ ys)):=by
 have:=vT hB;rw[Nat.add_mul]at hl;show(joinD.strsOf (ys.map .str)).bind _=_;rw[i9];show(if _ then _ else _)=_;rw[if_pos ⟨by show 1<=16;decide,by omega⟩];show some (PyData.str (Builtin.Str.glued _ _))=_;rw[StrLaws.glued_eq_join]
def num(n:Nat):Str:=toString (n:Int)
def Ep:∀n,n<13->1<=(li (num n)).length/\(li (num n)).length<=2:=by decide +kernel
def LU:∀n,n<13->∀c∈li (num n),okc c:=by decide +kernel
def we(h:n<13):wP [.int (n:Nat)]=some (.str (num n)):=by
 show grd _ _=_;unfold grd;rw[if_pos]
 ·rfl
 ·have:∀n:Nat,n<13->((n:Int)).natAbs.log2<1920:=by decide +kernel
  exact this n h
def Je(h:n<=90001):n<sizeLine:=Nat.lt_of_le_of_lt h (by decide)
def szG(h:n<=90001):n<=sizeLine:=zau h (by decide)
def nT(w:Str):Bool:=(decide (1<=(li w).length)&&decide ((li w).length<=80))&&(((li w).all fun c=>decide (c∈li "0123456789"))&&(decide (w="0") || !Txt.startswith w "0"))
def zm(hz:(li z).length<=90000):W (be [.str z]) (fun r=>r=(.bool (nT z),[none])):=by
 have lz:=ll z;unfold nT;by_cases a:(1:Int)<=(z.length:Nat)
 case neg=>
  have a2:decide (1<=(li z).length)=false:=zaA (by omega);simp only[be,eE,ws,a,a2,Bool.false_and];exact szG (by omega)
 have a2:decide (1<=(li z).length)=true:=zaB (by omega);by_cases b:((z.length:Nat):Int)<=80
 case neg=>
  have b2:decide ((li z).length<=80)=false:=zaA (by omega);simp only[be,eE,ws,a,b,a2,b2,Bool.false_and,zbR];exact szG (by omega)
 have b2:decide ((li z).length<=80)=true:=zaB (by omega);simp only[be,eE,ws,a,b,a2,b2,zaG];refine⟨szG (by omega),?_⟩;have e0:dH z=(li z).map s1:=rfl;rw[e0];refine fG (fun t=>.bool (decide ((li (txt t)).headD 0∈li "0123456789"))) (by rw[zad];exact szG (by omega)) (fun t ht=>?_) fun o'=>?_
 ·obtain⟨c,hc,rfl⟩:=zaz.mp ht;have e:ck "0123456789" (mk1 c)=decide (c∈li "0123456789"):=StrLaws.found_one "0123456789" c;simp only[iI,ws,e];rfl
 ·have e:=all_map (fun t:D=>decide ((li (txt t)).headD 0∈li "0123456789")) ((li z).map s1);have e2:((li z).map s1).all (fun t=>decide ((li (txt t)).headD 0∈li "0123456789"))=(li z).all fun c=>decide (c∈li "0123456789"):=by
   rw[List.all_map];rfl
  simp only[ws,e,e2];cases(li z).all fun c=>decide (c∈li "0123456789")
  ·simp only[ws,Bool.false_and]
  ·by_cases h0:z="0"
   ·simp only[ws,h0,decide_true,Bool.true_or,zaG]
   ·simp only[ws,h0,decide_false,Bool.false_or,zaG]
def wds:List (List Str)->List Str
 |[]=>[]
 |ys::ps=>num ys.length::ys++wds ps
theorem oM:∀(ps:List (List Str)) (ys:List Str),wds (ps++[ys])=wds ps++(num ys.length::ys)
 |[],ys=>by simp[wds]
 |p::ps,ys=>by
  show num p.length::p++wds (ps++[ys])=num p.length::p++wds ps++_;rw[oM ps ys,zaD]
structure PX(ys:List Str):Prop where
 l12:ys.length<=12
 b:∀y∈ys,1<=(li y).length/\(li y).length<=6
 c:∀y∈ys,∀c∈li y,okc c
def PX.of(T:TX ks)(g:GP ks b ys):PX ys:=⟨g.l12,fun y hy=>⟨(g.w y hy).l1,(g.w y hy).lm⟩,fun y hy c hc=>T.c c ((g.w y hy).mem c hc)⟩
def fZ(h:∀ys∈ps,PX ys):(∀w∈wds ps,1<=(li w).length/\(li w).length<=6/\∀c∈li w,okc c)/\(wds ps).length<=13*ps.length:=by
 induction ps with
 |nil=>exact⟨by simp[wds],by simp[wds]⟩
 |cons ys ps ih=>
  obtain⟨i1,i2⟩:=ih fun z hz=>h z (zaj _ hz);have hy:=h ys zaq;have hl:=hy.l12;have hn:=Ep ys.length (by omega);refine⟨fun w hw=>?_,?_⟩
  ·rcases zay.mp hw with rfl|hw
   ·exact⟨hn.1,by have:=hn.2;omega,LU _ (by omega)⟩
   ·rcases zax.mp hw with hw|hw
    ·exact⟨(hy.b w hw).1,(hy.b w hw).2,hy.c w hw⟩
    ·exact i1 w hw
  ·show(num ys.length::ys++wds ps).length<=13*(ps.length+1);rw[zae,zac];omega
def stx(ps:List (List Str)):Str:=Str.join ⟨#[32]⟩ (wds ps)
def sT:(" ":Str)=⟨#[32]⟩:=by decide +kernel
def sW:("\n":Str)=⟨#[10]⟩:=by decide +kernel
def tQ(h:∀ys∈ps,PX ys)(hl:ps.length<=5):W (gA [sD ps]) (fun r=>r=(.str (stx ps),[none])):=by
 simp only[gA,qJ,sD,ws];refine jU (fun i en=>∃o,en=[some (.tuple (ps.map pD)),some (.list ((wds (ps.take i)).map .str)),o]) ⟨none,rfl⟩ (fun i t en ht ⟨o,e⟩=>?_) fun en ⟨o,e⟩=>?_
 ·subst e;rw[zao]at ht;obtain⟨ys,hy,rfl⟩:=zab.mp ht;have hp:=h ys (zaX hy);have l12:=hp.l12;have es:=we (n:=ys.length) (by omega);have tl:(wds (ps.take i)).length<=65:=by
   have:=(fZ (ps:=ps.take i) fun z hz=>h z (List.mem_of_mem_take hz)).2
   have:(ps.take i).length<=5:=by rw[zaE];omega
   omega
  have ee:nS 1 (ae 2) [some (.tuple (ps.map pD)),some (.list ((wds (ps.take i)).map PyData.str++[.str (num ys.length)])),some (.tuple (ys.map .str))]=some (.none,[some (.tuple (ps.map pD)),some (.list ((wds (ps.take i)).map PyData.str++[.str (num ys.length)]++ys.map .str)),some (.tuple (ys.map .str))]):=
   if_pos (by rw[zae,zad,zad];exact sz (by show _+1+_<=1000;omega))
  simp only[nj,pD,ws,es,ee];refine⟨szl (by omega),some (.tuple (ys.map .str)),?_⟩;rw[jD hy,oM];simp
 ·subst e;rw[zad,zaQ];obtain⟨w1,w2⟩:=fZ h;have ej:=jb (c:=32) (B:=6) (ys:=wds ps) (fun y hy=>(w1 y hy).2.1) (by omega);simp only[sT,ws,ej];rfl
def GL.is{pls:List (List (List Str))}(g:GL ks pls):eJ (aw ks) (.tuple (pls.map sD))=true:=by
 rw[uG,zad,zaB g.l3,zaG,List.all_eq_true];intro x hx;obtain⟨ps,hp,rfl⟩:=zaz.mp hx;exact(g.w ps hp).is
theorem uD(c:Nat):∀{ls:List (List Nat)} {x:Nat},x∈jn c ls->x=c\/∃y∈ls,x∈y
 |[y],x,h=>.inr ⟨y,by simp,h⟩
 |y::z::r,x,h=>by
  rcases zax.mp (show x∈y++c::jn c (z::r)from h)with h|h
  ·exact .inr ⟨y,by simp,h⟩
  ·rcases zay.mp h with h|h
   ·exact .inl h
   ·rcases uD c h with h|⟨w,hw,hx⟩
    ·exact .inl h
    ·exact .inr ⟨w,zaj _ hw,hx⟩
structure SX(ps:List (List Str)):Prop where
 l1:1<=ps.length
 l5:ps.length<=5
 w:∀ys∈ps,PX ys
def SX.of{ps:List (List Str)}(T:TX ks)(g:GS ks ps):SX ps:=⟨g.l1,g.l5,fun ys hy=>PX.of T (g.w ys hy)⟩
def vV(h:SX ps):(li (stx ps)).length<=455:=by
 obtain⟨w1,w2⟩:=fZ h.w;unfold stx;rw[bv]
 have:=mJ 32 6 ((wds ps).map li) (fun y hy=>by
  obtain⟨w,hw,rfl⟩:=zaz.mp hy;exact(w1 w hw).2.1)
 rw[zad]at this
 have:=h.l5;omega
def tO(h:SX ps):10∉li (stx ps):=by
 obtain⟨w1,w2⟩:=fZ h.w;unfold stx;rw[bv];intro z;rcases uD 32 z with z|⟨y,hy,z⟩
 ·cases z
 ·obtain⟨w,hw,rfl⟩:=zaz.mp hy;exact((w1 w hw).2.2 10 z).2.1 rfl
def tG(h:SX ps):∃y0,(wds ps).head?=some y0/\1<=(li y0).length:=by
 cases ps with
 |nil=>have:=h.l1;simp at this
 |cons ys ps=>
  have:=(h.w ys zaq).l12;exact⟨num ys.length,rfl,(Ep ys.length (by omega)).1⟩
def ptx(pls:List (List (List Str))):Str:=Str.join ⟨#[10]⟩ ("plan"::pls.map stx)
def pO(h:∀ps∈pls,SX ps):∀y∈("plan":Str)::pls.map stx,(li y).length<=455:=fun y hy=>by
 rcases zay.mp hy with rfl|hy
 ·decide +kernel
 ·obtain⟨ps,hp,rfl⟩:=zaz.mp hy;exact vV (h ps hp)
def unP:D->List Str
 |.tuple vs=>vs.map txt
 |_=>[]
def unS:D->List (List Str)
 |.tuple ts=>ts.map unP
 |_=>[]
def D5(ps:List (List Str)):unS (sD ps)=ps:=by
 show(ps.map pD).map unP=ps;rw[zaR];refine(List.map_congr_left fun ys _=>?_).trans (List.map_id ps);exact qS ys
def tR(h:∀ps∈pls,SX ps)(hl:pls.length<=3):W (gB [.tuple (pls.map sD)]) (fun r=>r=(.str (ptx pls),[none])):=by
 simp only[gB,qK,ws];refine fG (fun t=>.str (stx (unS t))) (by rw[zad];exact sz (by omega)) (fun t ht=>?_) fun o'=>?_
 ·obtain⟨ps,hp,rfl⟩:=zaz.mp ht;simp only[nu,ws];refine W.use (tQ (h ps hp).w (h ps hp).l5) ?_;rintro _ rfl;simp only[ws,D5]
 ·have e:(pls.map sD).map (fun t:D=>(.str (stx (unS t)):D))=(pls.map stx).map .str:=by
   rw[zaR,zaR];refine List.map_congr_left fun ps _=>?_;show PyData.str (stx (unS (sD ps)))=_;rw[D5];rfl
  rw[e];have ej:=jb (c:=10) (B:=455) (ys:="plan"::pls.map stx) (pO h) (by rw[zac,zad];omega);simp only[zar]at ej;simp only[sW,ws,ej];exact⟨sz (by show 1+_<=_;omega),rfl⟩
def vR(h:∀ps∈pls,SX ps)(hl:pls.length<=3):W (fg [.tuple (pls.map sD)]) (fun r=>r=(.str (ptx pls),[none])):=by
 simp only[fg,qM,ws];refine jU (fun i en=>∃o2 o3 o4,en=[some (.tuple (pls.map sD)),some (.list ((("plan":Str)::(pls.take i).map stx).map .str)),o2,o3,o4]) ⟨none,none,none,rfl⟩ (fun i t en ht ⟨o2,o3,o4,e⟩=>?_) fun en ⟨o2,o3,o4,e⟩=>?_
 ·subst e;rw[zao]at ht;obtain⟨ps,hps,rfl⟩:=zab.mp ht;have hp:=h ps (zaX hps);simp only[nk,sD,ws];refine jU (fun j en=>∃o4,en=[some (.tuple (pls.map sD)),some (.list ((("plan":Str)::(pls.take i).map stx).map .str)),some (.tuple (ps.map pD)),some (.list ((wds (ps.take j)).map .str)),o4]) ⟨_,rfl⟩ (fun j u en hu ⟨o4,e⟩=>?_) fun en ⟨o4,e⟩=>?_
  ·subst e;rw[zao]at hu;obtain⟨ys,hy,rfl⟩:=zab.mp hu;have hq:=hp.w ys (zaX hy);have l12:=hq.l12;have l5:=hp.l5;have es:=we (n:=ys.length) (by omega);have tl:(wds (ps.take j)).length<=65:=by
    have:=(fZ (ps:=ps.take j) fun z hz=>hp.w z (List.mem_of_mem_take hz)).2
    have:(ps.take j).length<=5:=by rw[zaE];omega
    omega
   simp only[no,pD,ws,es];refine⟨sz (by show _+1<=_;omega),sz (by rw[zae,zad];show _+1+_<=1000;omega),some (.tuple (ys.map .str)),?_⟩;rw[jD hy,oM];simp
  ·subst e;rw[zad,zaQ];obtain⟨w1,w2⟩:=fZ hp.w;have l5:=hp.l5;have ej:=jb (c:=32) (B:=6) (ys:=wds ps) (fun y hy=>(w1 y hy).2.1) (by omega);simp only[sT,ws,ej];have tk:(pls.take i).length<=3:=by rw[zaE];omega
   refine⟨szl (by rw[zac,zad];omega),some (.tuple (ps.map pD)),some (.list ((wds ps).map .str)),o4,?_⟩;rw[jD hps];simp[stx,sD]
 ·subst e;rw[zad,zaQ];have ej:=jb (c:=10) (B:=455) (ys:="plan"::pls.map stx) (pO h) (by rw[zac,zad];omega);simp only[sW,ws,ej];rfl
def MQ(t:D)(ts:List D):qZ (t::ts) 0=some (t,ts):=by
 unfold qZ;have e:seqIndex? 0 (t::ts).length=some 0:=seqIndex_of (by decide) (by rw[zac];omega);rw[e];rfl
def pr{w:D}:W (bJ [.list (w::ts)]) (fun r=>r=(w,[some (.list ts)])):=by
 have h:¬(((w::ts).length:Nat):Int)=0:=by rw[zac];omega
 simp only[bJ,oI,ws,h,MQ];exact⟨by decide,by decide⟩
def Ay(hz:(li z).length<=1000)(hc:∀c∈li z,c<256):W (aX (n+1) [.str z,.str z]) (fun r=>r=(.bool true,[none,none])):=by
 have i1:lA ["list","tuple"] (.str z)=some (.bool false):=congrArg (fun b=>some (PyData.bool b)) (show(bN "str" "list" || (bN "str" "tuple" || false))=false by decide);have i2:lA ["bool","str"] (.str z)=some (.bool true):=congrArg (fun b=>some (PyData.bool b)) (show(bN "str" "bool" || (bN "str" "str" || false))=true by decide);have c4:(PyData.str z).shown.length<=sizeLine:=by
  have e:(PyData.str z).shown=reprText z:=by simp[PyData.shown]
  rw[e]
  have:=StrLaws.reprText_len z (fun c h=>Nat.lt_trans (hc c h) (by decide));have l:=ll z;have s4:(100000:Nat)<=sizeLine:=by decide
  omega
 have er:pP [.str z]=some (.str (PyData.str z).shown):=if_pos ⟨rfl,by simp[PyData.showable],by simp[PyData.depth],c4⟩;simp only[aX,iZ,ws,i1,i2,er]
def Ap(ts:List D)(j:Nat)(u:D)(h:(fm ts ts)[j]?=some u):∃t,ts[j]?=some t/\u=.tuple [t,t]:=by
 unfold fm at h;rw[List.getElem?_zipWith]at h;cases e:ts[j]? with
 |none=>rw[e]at h;cases h
 |some t=>rw[e]at h;cases h;exact⟨t,rfl,rfl⟩
def EM(ts:List D):(fm ts ts).length=ts.length:=by unfold fm;simp
def oU(hl:ts.length<=1000)(h:∀t∈ts,W (aX n [t,t]) (fun r=>r=(.bool true,[none,none]))):W (aX (n+1) [.tuple ts,.tuple ts]) (fun r=>r=(.bool true,[none,none])):=by
 have i1:lA ["list","tuple"] (.tuple ts)=some (.bool true):=congrArg (fun b=>some (PyData.bool b)) (show(bN "tuple" "list" || (bN "tuple" "tuple" || false))=true by decide);simp only[aX,iZ,ws,i1];refine rO (fun i us en=>us=List.replicate i (.bool true)/\∃a b,en=[a,b]) (by rw[EM];exact sz hl) ⟨rfl,_,_,rfl⟩ (fun i t us en ht hu ⟨e1,a,b,e2⟩=>?_) fun us en _ ⟨e1,a,b,e2⟩=>?_
 ·subst e1 e2;obtain⟨x,hx,rfl⟩:=Ap ts i t ht;simp only[ws,nw];refine W.use (h x (zaX hx)) ?_;rintro _ rfl;simp only[ws];refine⟨?_,_,_,rfl⟩;rw[List.replicate_succ']
 ·subst e1 e2;have e:=all_map (fun _:Nat=>true) (List.range (fm ts ts).length);have e2:(List.range (fm ts ts).length).map (fun _=>PyData.bool true)=List.replicate (fm ts ts).length (.bool true):=by
   rw[List.map_const'];simp
  have e3:(List.range (fm ts ts).length).all (fun _=>true)=true:=by simp
  rw[e2,e3]at e;simp only[ws,e]
def vX(T:TX ks)(g:GL ks pls):W (aX 6 [.tuple (pls.map sD),.tuple (pls.map sD)]) (fun r=>r=(.bool true,[none,none])):=by
 refine oU (by rw[zad];have:=g.l3;omega) fun t ht=>?_;obtain⟨ps,hp,rfl⟩:=zaz.mp ht;have gs:=g.w ps hp;refine oU (by rw[zad];have:=gs.l5;omega) fun t ht=>?_;obtain⟨ys,hy,rfl⟩:=zaz.mp ht;have gp:=gs.w ys hy;refine oU (by rw[zad];have:=gp.l12;omega) fun t ht=>?_;obtain⟨y,hw,rfl⟩:=zaz.mp ht;exact Ay (by have:=(gp.w y hw).lm;omega) fun c hc=>(T.c c ((gp.w y hw).mem c hc)).2.2
def weq{α:Type}{x:Option α}{a:α}(h:W x fun r=>r=a):x=some a:=by
 obtain⟨r,e,rfl⟩:=h.ex;exact e
def noT(b:Bool):Option Str:=match b with
 |true=>none
 |false=>some "NoText"
def nV(w:Str):Nat:=NumText.digitsVal w.cps.toList
def JW(h:nT w=true):rD w=true:=by
 unfold nT at h;simp only[zbk,decide_eq_true_eq,List.all_eq_true]at h;obtain⟨⟨h1,h2⟩,h3,-⟩:=h;have dg:∀c∈li "0123456789",(decide (48<=c)&&decide (c<=57))=true:=by decide +kernel
 unfold rD;simp only[zbk,decide_eq_true_eq,List.all_eq_true];refine⟨⟨fun e=>?_,fun c hc=>by simpa using dg c (h3 c hc)⟩,?_⟩
 ·have:(li w).length=0:=congrArg List.length e;omega
 ·rw[<-ll];omega
def Kk(h:nT w=true):xz [.str w]=some (.int (nV w:Nat)):=if_pos (JW h)
def EV(ts:List D):bK [.list ts]=noT (!decide (ts.length=0)):=by
 have e:(tV (e2 eqD (eN aQ (ac (ae 0) af)) (eC (.int 0)))) [some (.list ts)]=some (decide (ts.length=0),[some (.list ts)]):=weq (by
  simp only[ws]
  have:decide (((ts.length:Nat):Int)=0)=decide (ts.length=0):=by rw[decide_eq_decide];omega
  rw[this])
 have e':bK [.list ts]=nIf (tV (e2 eqD (eN aQ (ac (ae 0) af)) (eC (.int 0)))) (lq "NoText") nNo [some (.list ts)]:=rfl;rw[e'];unfold nIf;rw[e];cases decide (ts.length=0)<;>rfl
def LV:List Str->Bool
 |[]=>false
 |w::_=>nT w
def EF(hw:(li w).length<=90000)(h:nT w=true):W (bM [.list (.str w::ts)]) (fun r=>r=(.int (nV w:Nat),[some (.list ts)])):=by
 simp only[bM,mi,ws];refine W.use pr ?_;rintro _ rfl;simp only[ws];refine W.use (zm hw) ?_;rintro _ rfl;simp only[ws,h,Kk h]
def Jo(hw:∀w∈left,(li w).length<=90000):bI [.list (left.map .str)]=noT (LV left):=by
 show nOr (bf bK (aL 0 af)) _ [some (.list (left.map .str)),none]=_;have e0:bf bK (aL 0 af) [some (.list (left.map .str)),none]=bK [.list (left.map .str)]:=rfl;unfold nOr;rw[e0,EV];cases left with
 |nil=>rfl
 |cons w r=>
  rw[zaA (by rw[zar,zac];omega)];have e1:(ao 1 (aq bJ (aL 0 af))) [some (.list ((w::r).map .str)),none]=some (.nx [some (.list (r.map .str)),some (.str w)]):=weq (by
   simp only[ws,zar];refine W.use pr ?_;rintro _ rfl;simp only[ws])
  have e2:(bE (tV (aq be (ac (ae 1) af)))) [some (.list (r.map .str)),some (.str w)]=some (!nT w,[some (.list (r.map .str)),some (.str w)]):=weq (by
   simp only[ws];refine W.use (zm (hw w (zaq ..))) ?_;rintro _ rfl;simp only[ws])
  show dL _ _ _=_;unfold dL;rw[e1];show nIf _ _ _ _=_;unfold nIf;rw[e2];show _=noT (nT w);cases nT w<;>rfl
def pA:List Str->Option (List Str×List Str)
 |[]=>none
 |w::r=>if nT w=true/\nV w<=r.length then some (r.take (nV w),r.drop (nV w))else none
def pc(w:Str)(r:List Str):pA (w::r)=if nT w=true/\nV w<=r.length then some (r.take (nV w),r.drop (nV w))else none:=rfl
def EX(hw:∀w∈left,(li w).length<=90000):bz [.list (left.map .str)]=noT (pA left).isSome:=by
 show nOr (bf bI (aL 0 af)) _ [some (.list (left.map .str)),none]=_;have e0:bf bI (aL 0 af) [some (.list (left.map .str)),none]=bI [.list (left.map .str)]:=rfl;unfold nOr;rw[e0,Jo hw];cases left with
 |nil=>rfl
 |cons w r=>
  show(match noT (nT w)with|some x=>some x|none=>_)=noT (if nT w=true/\nV w<=r.length then some (r.take (nV w),r.drop (nV w))else none).isSome;cases h:nT w with
  |false=>rw[if_neg (fun z=>by cases z.1)];rfl
  |true=>
   show dL _ _ _=_;have e1:(ao 1 (aq bM (aL 0 af))) [some (.list ((w::r).map .str)),none]=some (.nx [some (.list (r.map .str)),some (.int (nV w:Nat))]):=weq (by
    simp only[ws,zar];refine W.use (EF (hw w (zaq ..)) h) ?_;rintro _ rfl;simp only[ws])
   have e3:(tV (e2 gtI (ae 1) (eN aQ (ac (ae 0) af)))) [some (.list (r.map .str)),some (.int (nV w:Nat))]=some (decide (r.length<nV w),[some (.list (r.map .str)),some (.int (nV w:Nat))]):=weq (by
    simp only[ws,zad]
    have:decide (((r.length:Nat):Int)<((nV w:Nat):Int))=decide (r.length<nV w):=by rw[decide_eq_decide];omega
    rw[this])
   unfold dL;rw[e1];show nIf (tV (e2 gtI (ae 1) (eN aQ (ac (ae 0) af)))) (lq "NoText") nNo [some (.list (r.map .str)),some (.int (nV w:Nat))]=_;unfold nIf;rw[e3];by_cases hn:nV w<=r.length
   ·rw[if_pos ⟨rfl,hn⟩,zaA (by omega)];rfl
   ·rw[if_neg (fun z=>hn z.2),zaB (by omega)];rfl
def zP(hw:∀w∈left,(li w).length<=90000)(hl:left.length<=90000)(h:pA left=some (ys,r)):W (dY [.list (left.map .str)]) (fun q=>q=(pD ys,[some (.list (r.map .str))])):=by
 cases left with
 |nil=>cases h
 |cons w rr=>
  rw[pc]at h;by_cases c:nT w=true/\nV w<=rr.length
  case neg=>rw[if_neg c]at h;cases h
  rw[if_pos c]at h;cases h;obtain⟨c1,c2⟩:=c;rw[zac]at hl;simp only[dY,oJ,ws,zar];refine W.use (EF (hw w (zaq ..)) c1) ?_;rintro _ rfl;have h1:¬((rr.length:Nat):Int)<((nV w:Nat):Int):=by omega
  simp only[ws,h1,zaL,zad];refine⟨by omega,?_⟩;refine rO (fun i us en=>us=(rr.take i).map .str/\∃o,en=[o,some (.list ((rr.drop i).map .str))]) (by rw[cQ];exact szG (by omega)) ⟨rfl,none,rfl⟩ (fun i t us en ht hu ⟨e1,o,e2⟩=>?_) fun us en _ ⟨e1,o,e2⟩=>?_
  ·obtain⟨hi,rfl⟩:=ge ht;subst e1 e2;have hi':i<rr.length:=by omega
   have ed:(rr.drop i).map PyData.str=.str rr[i]::((rr.drop (i+1)).map .str):=by rw[zbI hi'];rfl
   rw[ed];simp only[ws,mh];refine W.use pr ?_;rintro _ rfl;simp only[ws];refine⟨?_,_,rfl⟩;rw[List.take_add_one,zak hi',zaC];rfl
  ·subst e1 e2;rw[cQ];simp only[ws];rfl
def re(h:pA left=some (ys,r)):r.length<left.length/\(∀w∈r,w∈left)/\∀w∈ys,w∈left:=by
 cases left with
 |nil=>cases h
 |cons w rr=>
  rw[pc]at h;by_cases c:nT w=true/\nV w<=rr.length
  case neg=>rw[if_neg c]at h;cases h
  rw[if_pos c]at h;cases h;exact⟨by rw[zaF,zac];omega,fun x hx=>zaj _ (List.mem_of_mem_drop hx),fun x hx=>zaj _ (List.mem_of_mem_take hx)⟩
def sA:Nat->List Str->Option (List (List Str))
 |_,[]=>some []
 |0,_::_=>none
 |n+1,w::r=>match pA (w::r)with
  |none=>none
  |some q=>(sA n q.2).map (q.1::·)
def wd(x:Str):List Str:=Txt.split x ⟨#[32]⟩
def stp(x:Str):Option (List (List Str)):=sA (wd x).length (wd x)
def oW(n:Nat)(w:Str)(r:List Str):sA (n+1) (w::r)=match pA (w::r)with
  |none=>none
  |some q=>(sA n q.2).map (q.1::·):=rfl
theorem Eg{x:D}{B:Nat}(hB:B<=90000):∀(N m:Nat) (left:List Str) (a:List D),left.length<=m->left.length<N->(∀w∈left,(li w).length<=90000)->a.length+left.length<=B ->
  nWh de df (ph 2 (bf bz (aL 1 af))) N [some x,some (.list (left.map .str)),some (.list a)]=noT (sA m left).isSome
 |0,_,_,_,_,h,_,_=>absurd h (Nat.not_lt_zero _)
 |N+1,m,left,a,hm,hN,hw,hl=>by
  have e:de [some x,some (.list (left.map .str)),some (.list a)]=some (decide (0<left.length),[some x,some (.list (left.map .str)),some (.list a)]):=weq (by
   simp only[de,ws,zad]
   have:decide ((0:Int)<((left.length:Nat):Int))=decide (0<left.length):=by rw[decide_eq_decide];omega
   rw[this])
  unfold nWh;rw[e];cases left with
  |nil=>cases m<;>rfl
  |cons w r=>
   cases m with
   |zero=>exact absurd hm (by rw[zac];omega)
   |succ m=>
   rw[zaB (by rw[zac];omega)];have em:ph 2 (bf bz (aL 1 af)) [some x,some (.list ((w::r).map .str)),some (.list a)]=bz [.list ((w::r).map .str)]:=rfl;show(match ph 2 (bf bz (aL 1 af)) [some x,some (.list ((w::r).map .str)),some (.list a)]with|some x=>some x|none=>_)=_;rw[em,EX hw,oW];cases hp:pA (w::r)with
   |none=>rfl
   |some q=>
    obtain⟨ys,r'⟩:=q;obtain⟨l1,l2,-⟩:=re hp;have eb:df [some x,some (.list ((w::r).map .str)),some (.list a)]=some (.nx [some x,some (.list (r'.map .str)),some (.list (a++[pD ys]))]):=weq (by
     simp only[df,ws];refine W.use (zP hw (by omega) hp) ?_;rintro _ rfl;simp only[ws];exact Je (by omega))
    show(match df [some x,some (.list ((w::r).map .str)),some (.list a)]with|some (.nx en2)=>_|_=>none)=_;rw[eb];have ih:=Eg (x:=x) hB N m r' (a++[pD ys]) (by omega) (by omega) (fun z hz=>hw z (l2 z hz)) (by rw[zae,zac,List.length_nil];omega);show nWh _ _ _ N _=_;rw[ih];show _=noT (Option.map (ys::·) (sA m r')).isSome;cases sA m r'<;>rfl
def jE(x:Str):(Txt.split x ⟨#[c]⟩).length<=(li x).length+1:=by
 have:=uC c ((Txt.split x ⟨#[c]⟩).map li);rw[<-bv,StrLaws.join_split,zad]at this;exact this
theorem EA(c:Nat):∀(ls:List (List Nat)),∀y∈ls,y.length<=(jn c ls).length
 |[],_,h=>nomatch h
 |[y],z,h=>by rw[zaH.mp h];exact zav _
 |y::z::r,a,h=>by
  show a.length<=(y++c::jn c (z::r)).length;rw[zae,zac];rcases zay.mp h with rfl|h
  ·omega
  ·have:=EA c (z::r) a h;omega
def nG:∀w∈Txt.split x ⟨#[c]⟩,(li w).length<=(li x).length:=fun w hw=>by
 have:=EA c ((Txt.split x ⟨#[c]⟩).map li) (li w) (List.mem_map_of_mem hw);rw[<-bv,StrLaws.join_split]at this;exact this
def EW(hx:(li x).length<=40000):b8 [.str x]=noT (stp x).isSome:=by
 have lw:=jE (c:=32) x;have hw:=fun w hw=>nG (c:=32) (x:=x) w hw;have e1:(ao 1 (e2 dA (ae 0) (eC (.str " ")))) [some (.str x),none,none]=some (.nx [some (.str x),some (.list ((wd x).map .str)),none]):=weq (by
  have es:=jF (c:=32) (x:=x) (by omega);simp only[sT,ws,es];rfl)
 have e0:b8 [.str x]=dL (ao 1 (e2 dA (ae 0) (eC (.str " ")))) (dL (ao 2 (aZ af)) (uj de df (ph 2 (bf bz (aL 1 af))))) [some (.str x),none,none]:=rfl;rw[e0];unfold dL;rw[e1];have e2:(ao 2 (aZ af)) [some (.str x),some (.list ((wd x).map .str)),none]=some (.nx [some (.str x),some (.list ((wd x).map .str)),some (.list [])]):=weq (by simp only[ws]);simp only[Option.bind_some,e2];exact Eg (B:=80000) (by decide) 100000 (wd x).length (wd x) [] (zav _) (Nat.lt_of_le_of_lt lw (by omega)) (fun w h=>zau (hw w h) (by omega)) (by rw[List.length_nil];exact zau (Nat.le_of_eq (Nat.zero_add _)) (zau lw (by omega)))
def zN(hx:(li x).length<=40000)(h:stp x=some ps):W (gR [.str x]) (fun r=>r=(sD ps,[none])):=by
 have lw:=jE (c:=32) x;have hw:=fun w hw=>nG (c:=32) (x:=x) w hw;have es:=jF (c:=32) (x:=x) (by omega);simp only[gR,vh,sT,ws,es];unfold stp at h;have lw':(wd x).length<=(li x).length+1:=lw;refine wG (fun d en=>∃(a b:List (List Str)) (left:List Str) (m:Nat),ps=a++b/\sA m left=some b/\left.length=d/\a.length+left.length<=80000/\(∀w∈left,(li w).length<=90000)/\en=[some (.str x),some (.list (left.map .str)),some (.list (a.map pD))]) (fun d en ⟨a,b,left,m,e1,e2,e3,e4,e5,e6⟩=>?_) (n:=(wd x).length) ⟨[],ps,wd x,(wd x).length,rfl,h,rfl,by rw[List.length_nil];omega,fun w h=>zau (hw w h) (by omega),rfl⟩;subst e6;cases left with
 |nil=>
  have q:¬(0:Int)<(((([]:List Str)).length:Nat):Int):=by simp
  have:b=[]:=by cases m<;>exact(zat e2).symm
  rw[this,zbo]at e1;simp only[de,ws,q];rw[e1];rfl
 |cons w r=>
  cases m with
  |zero=>cases e2
  |succ m=>
  rw[oW]at e2;cases hp:pA (w::r)with
  |none=>rw[hp]at e2;cases e2
  |some q=>
   obtain⟨ys,r'⟩:=q;rw[hp]at e2
   replace e2:(sA m r').map (ys::·)=some b:=e2
   obtain⟨b',e2',rfl⟩:=zab.mp e2;obtain⟨l1,l2,-⟩:=re hp;have q:(0:Int)<(((w::r).length:Nat):Int):=by rw[zac];omega
   simp only[de,ws,zad,q,df];refine W.use (zP e5 (by omega) hp) ?_;rintro _ rfl;simp only[ws,zad];refine⟨Je (by omega),r'.length,by omega,a++[ys],b',r',m,by rw[e1];simp,e2',rfl,by rw[zae,zac,List.length_nil];omega,fun z hz=>e5 z (l2 z hz),?_⟩;rw[zaC];rfl
def ln(x:Str):List Str:=Txt.split x ⟨#[10]⟩
def rdL:List Str->Option (List (List (List Str)))
 |[]=>some []
 |z::zs=>match stp z with
  |none=>none
  |some ps=>(rdL zs).map (ps::·)
def rdp(L:List Nat)(x:Str):Option (List (List (List Str))):=match rdL (ln x).tail with
 |none=>none
 |some pls=>if(ln x).headD ""="plan"/\eJ L (.tuple (pls.map sD))=true then some pls else none
theorem i4:∀{zs:List Str} {pls:List (List (List Str))},rdL zs=some pls->pls.length=zs.length/\∀(i:Nat) z,zs[i]?=some z->∃ps,pls[i]?=some ps/\stp z=some ps
 |[],_,h=>by cases h;exact⟨rfl,fun i z h=>by simp at h⟩
 |z::zs,pls,h=>by
  unfold rdL at h;cases hs:stp z with
  |none=>rw[hs]at h;cases h
  |some ps=>
   rw[hs]at h;obtain⟨qs,h1,rfl⟩:=zab.mp h;obtain⟨l,g⟩:=i4 h1;refine⟨by rw[zac,zac,l],fun i y hy=>?_⟩;cases i with
   |zero=>cases hy;exact⟨ps,rfl,hs⟩
   |succ i=>exact g i y hy
def LC(hz:∀z∈zs,(li z).length<=40000):∀o:Option D,nLF (gN 0) cY bh (bf b8 (ac (ae 0) af)) (zs.map .str) [o]=noT (rdL zs).isSome:=by
 induction zs with
 |nil=>intro o;rfl
 |cons z zs ih=>
  intro o;have hz0:=hz z (zaq ..);have em:bf b8 (ac (ae 0) af) [some (.str z)]=b8 [.str z]:=rfl;show(match bf b8 (ac (ae 0) af) [some (.str z)]with|some x=>some x|none=>(bh [some (.str z)]).bind fun q=>nLF _ _ _ _ (zs.map .str) q.2)=_;rw[em,EW hz0];unfold rdL;cases hs:stp z with
  |none=>rfl
  |some ps=>
   have ef:bh [some (.str z)]=some (sD ps,[some (.str z)]):=weq (by
    simp only[bh,ws];refine W.use (zN hz0 hs) ?_;rintro _ rfl;simp only[ws])
   show(bh [some (.str z)]).bind _=_;rw[ef];show nLF _ _ _ _ (zs.map .str) [some (.str z)]=_;rw[ih fun y hy=>hz y (zaj _ hy)];cases rdL zs<;>rfl
theorem yw:∀{n:Nat} {left:List Str} {ps:List (List Str)},sA n left=some ps->ps.length<=left.length/\∀ys∈ps,ys.length<=left.length/\∀w∈ys,w∈left
 |_,[],ps,h=>by
  rename_i n
  have:ps=[]:=by cases n<;>exact(zat h).symm
  rw[this];exact⟨zav _,fun _ z=>nomatch z⟩
 |0,_::_,_,h=>by cases h
 |n+1,w::r,ps,h=>by
  rw[oW]at h;cases hp:pA (w::r)with
  |none=>rw[hp]at h;cases h
  |some q=>
   obtain⟨ys,r'⟩:=q;rw[hp]at h
   replace h:(sA n r').map (ys::·)=some ps:=h
   obtain⟨b',h1,rfl⟩:=zab.mp h;obtain⟨l1,l2,l3⟩:=re hp;obtain⟨g1,g2⟩:=yw h1;have ly:ys.length<=(w::r).length:=by
    rw[pc]at hp;by_cases c:nT w=true/\nV w<=r.length
    case neg=>rw[if_neg c]at hp;cases hp
    rw[if_pos c]at hp;cases hp;rw[zaE,zac];omega
   refine⟨by rw[zac];omega,fun zs hz=>?_⟩;rcases zay.mp hz with rfl|hz
   ·exact⟨ly,l3⟩
   ·exact⟨by have:=(g2 zs hz).1;omega,fun x hx=>l2 x ((g2 zs hz).2 x hx)⟩
def Jg(hz:(li z).length<=990)(h:stp z=some ps):FtS (sD ps):=by
 have lw:=jE (c:=32) z;obtain⟨g1,g2⟩:=yw h
 replace lw:(wd z).length<=(li z).length+1:=lw
 refine FT (by rw[zad];omega) fun t ht=>?_;obtain⟨ys,hy,rfl⟩:=zaz.mp ht;obtain⟨a1,a2⟩:=g2 ys hy;refine FU (by rw[zad];omega) fun t ht=>?_;obtain⟨w,hw,rfl⟩:=zaz.mp ht
 have:=nG (c:=32) (x:=z) w (a2 w hw);exact FS (by omega)
def EZ(h:rdL zs=some pls)(hp:ps∈pls):∃z∈zs,stp z=some ps:=by
 obtain⟨l,g⟩:=i4 h;obtain⟨i,hi,e⟩:=List.getElem_of_mem hp;obtain⟨qs,h1,h2⟩:=g i zs[i] (zak (by omega));rw[zak hi,e]at h1;cases h1;exact⟨zs[i],zaK _,h2⟩
def tW(hn:zs.length<=990)(hz:∀z∈zs,(li z).length<=990)(h:rdL zs=some pls):FtL (.tuple (pls.map sD)):=by
 have l:=(i4 h).1;refine FV (by rw[zad];omega) fun t ht=>?_;obtain⟨ps,hp,rfl⟩:=zaz.mp ht;obtain⟨z,z1,z2⟩:=EZ h hp;exact Jg (hz z z1) z2
structure Ask(x:Str):Prop where
 l:(li x).length<=40000
 n:(ln x).length<=990
 z:∀z∈ln x,(li z).length<=990
def sX(x:Str):∃z zs,ln x=z::zs:=by
 cases h:ln x with
 |nil=>exact absurd h (oR _ _)
 |cons z zs=>exact⟨z,zs,rfl⟩
def wm{x:Str}(hz:∀z∈zs,(li z).length<=990)(hn:zs.length<=990)(h:rdL zs=some pls)(k:∀o,Q (pls.map sD,[o])):W (lcF (gN 0) cY bh (zs.map .str) [] [none]) Q:=by
 obtain⟨l,g⟩:=i4 h;refine rO (fun i us en=>us=(pls.take i).map sD/\∃o,en=[o]) (by rw[zad];exact sz (by omega)) ⟨rfl,none,rfl⟩ (fun i t us en ht hu ⟨e1,o,e2⟩=>?_) fun us en _ ⟨e1,o,e2⟩=>?_
 ·subst e1 e2;rw[zao]at ht;obtain⟨z,hz1,rfl⟩:=zab.mp ht;obtain⟨ps,p1,p2⟩:=g i z hz1;simp only[ws,bh];refine W.use (zN (zau (hz z (zaX hz1)) (by decide)) p2) ?_;rintro _ rfl;simp only[ws];refine⟨?_,_,rfl⟩;rw[jD p1,zaC];rfl
 ·subst e1 e2;rw[zad,<-l,zaQ];exact k o
def zO(T:TX ks)(A:Ask x)(h:rdp (aw ks) x=some pls):W (bA [tD ks,.str x]) (fun r=>r=(.tuple (pls.map sD),[none,none])):=by
 have es:=jF (c:=10) (x:=x) (zau A.l (by decide));obtain⟨z0,zs,ez⟩:=sX x;have an:=A.n;have az:=A.z;unfold rdp at h;unfold ln at ez h an az;rw[ez]at h es an az;rw[zac]at an
 replace h:(match rdL zs with|none=>none|some pls=>if z0="plan"/\eJ (aw ks) (.tuple (pls.map sD))=true then some pls else none)=some pls:=h
 cases hr:rdL zs with
 |none=>rw[hr]at h;cases h
 |some ql=>
  rw[hr]at h
  replace h:(if z0="plan"/\eJ (aw ks) (.tuple (ql.map sD))=true then some ql else none)=some pls:=h
  by_cases c:z0="plan"/\eJ (aw ks) (.tuple (ql.map sD))=true
  case neg=>rw[if_neg c]at h;cases h
  rw[if_pos c]at h;cases h;obtain⟨rfl,c2⟩:=c;simp only[zar]at es;simp only[bA,qL,sW,ws,es];refine wm (x:=x) (fun z hz=>az z (zaj _ hz)) (by omega) hr fun o=>?_;simp only[ws];refine W.use (mK T.t (tW (by omega) (fun z hz=>az z (zaj _ hz)) hr)) ?_;rintro _ rfl;rw[c2];simp only[ws]
def vY(T:TX ks)(A:Ask x):aJ [tD ks,.str x]=noT (rdp (aw ks) x).isSome:=by
 have es:=jF (c:=10) (x:=x) (zau A.l (by decide));obtain⟨z0,zs,ez⟩:=sX x;have an:=A.n;have az:=A.z;unfold rdp;unfold ln at ez an az ⊢;rw[ez]at es an az ⊢;rw[zac]at an;have hz:∀z∈zs,(li z).length<=990:=fun z hz=>az z (zaj _ hz);simp only[zar]at es;show _=noT (match rdL zs with|none=>none|some pls=>if z0="plan"/\eJ (aw ks) (.tuple (pls.map sD))=true then some pls else none).isSome;have e0:aJ [tD ks,.str x]=dZ [some (tD ks),some (.str x),none,none]:=rfl;rw[e0];unfold dZ;have t1:(bE (tV (e1 (bw "str") (ae 1)))) [some (tD ks),some (.str x),none,none]=some (false,[some (tD ks),some (.str x),none,none]):=weq (by simp only[ws]);have s1:(sIf (bE (tV (e1 (bw "str") (ae 1)))) eG bc) [some (tD ks),some (.str x),none,none]=some (.nx [some (tD ks),some (.str x),none,none]):=weq (by simp only[ws]);have s2:(ao 2 (e2 dA (ae 1) (eC (.str "\n")))) [some (tD ks),some (.str x),none,none]=some (.nx [some (tD ks),some (.str x),some (.list (.str z0::zs.map .str)),none]):=weq (by simp only[sW,ws,es]);have l1:nLC (bO (eSl gW (ae 2) (bt (eC (.int 1))) bx)) (gN 0) cY bh (bf b8 (ac (ae 0) af)) [none] [some (tD ks),some (.str x),some (.list (.str z0::zs.map .str)),none]=noT (rdL zs).isSome:=by
  have i1:(bO (eSl gW (ae 2) (bt (eC (.int 1))) bx)) [some (tD ks),some (.str x),some (.list (.str z0::zs.map .str)),none]=some (zs.map .str,[some (tD ks),some (.str x),some (.list (.str z0::zs.map .str)),none]):=weq (by simp only[ws]);unfold nLC;rw[i1];show(if(zs.map PyData.str).length<=sizeLine then _ else none)=_;rw[if_pos (by rw[zad];exact sz (by omega))];exact LC (fun z h=>zau (hz z h) (by decide)) none
 simp only[nOr,dL,nIf,t1,s1,s2,l1,Option.bind_some,nNo,lq,Bool.false_eq_true,if_false];cases hr:rdL zs with
 |none=>rfl
 |some pls=>
  have s3:(ao 3 (eN io (ac (eLC true (bO (eSl gW (ae 2) (bt (eC (.int 1))) bx)) (gN 0) cY bh [none]) af))) [some (tD ks),some (.str x),some (.list (.str z0::zs.map .str)),none]=some (.nx [some (tD ks),some (.str x),some (.list (.str z0::zs.map .str)),some (.tuple (pls.map sD))]):=weq (by
   simp only[ws];refine wm (x:=x) hz (by omega) hr fun o=>?_;simp only[ws])
  have t2:(bOr (tV (e2 neD (e2 ixA (ae 2) (eC (.int 0))) (eC (.str "plan")))) (bE (tV (aq cM (ac (ae 0) (ac (ae 3) af)))))) [some (tD ks),some (.str x),some (.list (.str z0::zs.map .str)),some (.tuple (pls.map sD))]=some (!decide (z0="plan"/\eJ (aw ks) (.tuple (pls.map sD))=true),[some (tD ks),some (.str x),some (.list (.str z0::zs.map .str)),some (.tuple (pls.map sD))]):=weq (by
   by_cases c:z0="plan"
   ·simp only[ws,c];refine W.use (mK T.t (tW (by omega) hz hr)) ?_;rintro _ rfl;simp only[ws,true_and];cases eJ (aw ks) (.tuple (pls.map sD))<;>rfl
   ·simp only[ws,c,false_and,decide_false,Bool.not_false])
  show(((ao 3 _) _).bind _)=_;rw[s3];simp only[Option.bind_some,t2];by_cases c:z0="plan"/\eJ (aw ks) (.tuple (pls.map sD))=true
  ·rw[if_pos c,zaB c];rfl
  ·rw[if_neg c,zaA c];rfl
def LB(h:bw "str" t=some (.bool false)):aJ [tD ks,t]=some "NoText":=by
 have e0:aJ [tD ks,t]=dZ [some (tD ks),some t,none,none]:=rfl;have t1:(bE (tV (e1 (bw "str") (ae 1)))) [some (tD ks),some t,none,none]=some (true,[some (tD ks),some t,none,none]):=weq (by simp only[ws,h]);rw[e0];unfold dZ nOr nIf;rw[t1];rfl
theorem wA:∀(cs:List Nat) (a:Nat),a<=cs.foldl (fun acc c=>acc*10+(c-48)) a
 |[],a=>zav _
 |c::cs,a=>zau (by omega) (wA cs (a*10+(c-48)))
def LR:∀c,48<=c->c<=57->num (c-48)=⟨#[c]⟩:=by
 intro c h1 h2
 have:∀k,k<10->num k=⟨#[k+48]⟩:=by decide +kernel
 have e:=this (c-48) (by omega);rw[e,show c-48+48=c by omega]
def wK:num 10=⟨#[49,48]⟩/\num 11=⟨#[49,49]⟩/\num 12=⟨#[49,50]⟩:=by decide +kernel
def JQ(h:nT w=true)(h12:nV w<=12):w=num (nV w):=by
 unfold nT at h;simp only[zbk,decide_eq_true_eq,List.all_eq_true]at h;obtain⟨⟨h1,h2⟩,h3,h4⟩:=h;have dg:∀c∈li "0123456789",48<=c/\c<=57:=by decide +kernel
 obtain⟨⟨cs⟩⟩:=w
 replace h1:1<=cs.length:=h1
 replace h3:∀c∈cs,c∈li "0123456789":=h3
 have hv:nV ⟨⟨cs⟩⟩=cs.foldl (fun acc c=>acc*10+(c-48)) 0:=rfl;rw[hv]at h12 ⊢;have z0:∀c d r,cs=c::d::r->c≠48:=fun c d r e z=>by
  subst e z;rw[Bool.or_eq_true]at h4;rcases h4 with h4|h4
  ·have h5:=congrArg li (of_decide_eq_true h4)
   have:(48::d::r).length=1:=congrArg List.length h5;simp at this
  ·have h5:Txt.startswith ⟨⟨48::d::r⟩⟩ "0"=true:=by
    rw[iN];exact⟨d::r,rfl⟩
   rw[h5]at h4;cases h4
 match cs,h1,h3,h12,z0 with
 |[c],_,h3,h12,_=>
  obtain⟨a,b⟩:=dg c (h3 c (zaq ..));show _=num (0*10+(c-48));rw[Nat.zero_mul,Nat.zero_add,LR c a b]
 |[c,d],_,h3,h12,z0=>
  obtain⟨a,b⟩:=dg c (h3 c (zaq ..));obtain⟨a',b'⟩:=dg d (h3 d (by simp));have zc:=z0 c d [] rfl
  replace h12:(0*10+(c-48))*10+(d-48)<=12:=h12
  show _=num ((0*10+(c-48))*10+(d-48));have hc:c=49:=by omega
  subst hc;rcases(by omega:d=48\/d=49\/d=50)with rfl|rfl|rfl
  ·exact wK.1.symm
  ·exact wK.2.1.symm
  ·exact wK.2.2.symm
 |c::d::e::r,_,h3,h12,z0=>
  obtain⟨a,b⟩:=dg c (h3 c (zaq ..));have zc:=z0 c d (e::r) rfl
  have:=wA r (((0*10+(c-48))*10+(d-48))*10+(e-48))
  replace h12:r.foldl (fun acc c=>acc*10+(c-48)) (((0*10+(c-48))*10+(d-48))*10+(e-48))<=12:=h12
  omega
theorem yv:∀{n:Nat} {left:List Str} {ps:List (List Str)},sA n left=some ps->(∀ys∈ps,ys.length<=12)->left=wds ps
 |n,[],ps,h,_=>by
  have:ps=[]:=by cases n<;>exact(zat h).symm
  rw[this];rfl
 |0,_::_,_,h,_=>by cases h
 |n+1,w::r,ps,h,h12=>by
  rw[oW]at h;cases hp:pA (w::r)with
  |none=>rw[hp]at h;cases h
  |some q=>
   obtain⟨ys,r'⟩:=q;rw[hp]at h
   replace h:(sA n r').map (ys::·)=some ps:=h
   obtain⟨b',h1,rfl⟩:=zab.mp h;rw[pc]at hp;by_cases c:nT w=true/\nV w<=r.length
   case neg=>rw[if_neg c]at hp;cases hp
   rw[if_pos c]at hp;cases hp;have l12:=h12 (r.take (nV w)) (zaq ..);have ly:(r.take (nV w)).length=nV w:=by rw[zaE];omega
   have ih:=yv h1 fun zs hz=>h12 zs (zaj _ hz);show w::r=num (r.take (nV w)).length::(r.take (nV w))++wds b';rw[ly,<-JQ c.1 (by omega),<-ih,zaZ,List.take_append_drop]
def JM{rest:List Str}(h:ys.length<=12):pA (num ys.length::(ys++rest))=some (ys,rest):=by
 have k:∀n,n<13->nT (num n)=true/\nV (num n)=n:=by decide +kernel
 obtain⟨k1,k2⟩:=k ys.length (by omega);rw[pc,k2,if_pos ⟨k1,by rw[zae];omega⟩,List.take_left,List.drop_left]
theorem Ef:∀{n:Nat} {ps:List (List Str)},(∀ys∈ps,ys.length<=12)->(wds ps).length<=n->sA n (wds ps)=some ps
 |n,[],_,_=>by cases n<;>rfl
 |0,ys::ps,_,h=>absurd h (by show ¬(num ys.length::ys++wds ps).length<=0;rw[zae,zac];omega)
 |n+1,ys::ps,h12,h=>by
  replace h:(num ys.length::ys++wds ps).length<=n+1:=h
  rw[zae,zac]at h;show sA (n+1) (num ys.length::(ys++wds ps))=_;rw[oW,JM (h12 ys (zaq ..))];show(sA n (wds ps)).map (ys::·)=_;rw[Ef (fun zs hz=>h12 zs (zaj _ hz)) (by omega)];rfl
def Ly(T:TX ks)(h:isS (aw ks) (sD ps)=true):SX ps:=by
 rw[sD,xx]at h;simp only[zbk,decide_eq_true_eq,zad,List.all_map,List.all_eq_true]at h;obtain⟨h1,h2,h3,-⟩:=h;refine⟨h1,h2,fun ys hy=>?_⟩;have h4:=h3 ys hy
 replace h4:isP (aw ks) (pD ys)=true:=h4
 rw[pD,xy]at h4;simp only[zbk,decide_eq_true_eq,zad,List.all_map,List.all_eq_true]at h4;obtain⟨g1,g2,-⟩:=h4;refine⟨g1,fun y hy=>?_,fun y hy c hc=>?_⟩
 ·have h5:=g2 y hy
  replace h5:isW (aw ks) (.str y)=true:=h5
  rw[ti]at h5;simp only[zbk,decide_eq_true_eq]at h5;exact⟨h5.1,h5.2.1⟩
 ·have h5:=g2 y hy
  replace h5:isW (aw ks) (.str y)=true:=h5
  rw[ti]at h5;simp only[zbk,decide_eq_true_eq,List.all_eq_true]at h5;exact T.c c (h5.2.2 c hc)
def kZ(h:rdp L x=some pls):rdL (ln x).tail=some pls/\(ln x).headD ""="plan"/\eJ L (.tuple (pls.map sD))=true:=by
 unfold rdp at h;cases hr:rdL (ln x).tail with
 |none=>rw[hr]at h;cases h
 |some ql=>
  rw[hr]at h
  replace h:(if(ln x).headD ""="plan"/\eJ L (.tuple (ql.map sD))=true then some ql else none)=some pls:=h
  by_cases c:(ln x).headD ""="plan"/\eJ L (.tuple (ql.map sD))=true
  case neg=>rw[if_neg c]at h;cases h
  rw[if_pos c]at h;cases h;exact⟨rfl,c.1,c.2⟩
def nJ(T:TX ks)(h:rdp (aw ks) x=some pls):x=ptx pls/\(∀ps∈pls,SX ps)/\pls.length<=3:=by
 obtain⟨h1,h2,h3⟩:=kZ h;rw[uG]at h3;simp only[zbk,decide_eq_true_eq,zad,List.all_map,List.all_eq_true]at h3;obtain⟨l3,hs⟩:=h3;have sx:∀ps∈pls,SX ps:=fun ps hp=>Ly T (hs ps hp);refine⟨?_,sx,l3⟩;obtain⟨z,zs,ez⟩:=sX x;rw[ez]at h1 h2
 replace h1:rdL zs=some pls:=h1
 replace h2:z="plan":=h2
 have hj:=StrLaws.join_split x ⟨#[10]⟩;have e:zs=pls.map stx:=by
  obtain⟨l,g⟩:=i4 h1;refine List.ext_getElem? fun i=>?_;rw[zao];cases hi:zs[i]? with
  |none=>
   rw[List.getElem?_eq_none_iff]at hi;rw[zbj (by omega)];rfl
  |some y=>
   obtain⟨ps,p1,p2⟩:=g i y hi;have hp:=sx ps (zaX p1);have hw:wd y=wds ps:=yv p2 fun ys hy=>(hp.w ys hy).l12;rw[p1];show some y=some (stx ps);rw[stx,<-hw,wd,StrLaws.join_split]
 unfold ln at ez;rw[ez,h2,e]at hj;exact hj.symm
def yT(h:∀ps∈pls,SX ps):ln (ptx pls)=("plan":Str)::pls.map stx:=by
 refine iO (by simp) fun y hy=>?_;rcases zay.mp hy with rfl|hy
 ·decide +kernel
 ·obtain⟨ps,hp,rfl⟩:=zaz.mp hy;exact tO (h ps hp)
def ES(h:SX ps):stp (stx ps)=some ps:=by
 have hw:wd (stx ps)=wds ps:=by
  obtain⟨w1,-⟩:=fZ h.w;obtain⟨y0,hy0,-⟩:=tG h;exact iO (fun e=>by rw[e]at hy0;cases hy0) fun y hy z=>((w1 y hy).2.2 32 z).1 rfl
 unfold stp;rw[hw];exact Ef (fun ys hy=>(h.w ys hy).l12) (zav _)
def sV(z:Str)(zs:List Str):rdL (z::zs)=match stp z with
  |none=>none
  |some ps=>(rdL zs).map (ps::·):=rfl
theorem vZ:∀(zs ys:List Str),rdL (zs++ys)=(rdL zs).bind fun a=>(rdL ys).map (a++·)
 |[],ys=>by
  show rdL ys=(rdL ys).map ([]++·);cases rdL ys<;>rfl
 |z::zs,ys=>by
  rw[zaZ,sV,sV];cases stp z with
  |none=>rfl
  |some ps=>
   show(rdL (zs++ys)).map (ps::·)=_;rw[vZ zs ys];show _=((rdL zs).map (ps::·)).bind _;cases rdL zs with
   |none=>rfl
   |some a=>cases rdL ys<;>rfl
theorem qW:∀{pls:List (List (List Str))},(∀ps∈pls,SX ps)->rdL (pls.map stx)=some pls
 |[],_=>rfl
 |ps::pls,h=>by
  rw[zar,sV,ES (h ps (zaq ..))];show(rdL (pls.map stx)).map (ps::·)=_;rw[qW fun q hq=>h q (zaj _ hq)];rfl
def EY(T:TX ks)(g:GL ks pls):rdp (aw ks) (ptx pls)=some pls:=by
 have hs:∀ps∈pls,SX ps:=fun ps hp=>SX.of T (g.w ps hp);unfold rdp;rw[yT hs];show(match rdL (pls.map stx)with|none=>none|some pls=>if("plan":Str)="plan"/\eJ (aw ks) (.tuple (pls.map sD))=true then some pls else none)=_;rw[qW hs];exact if_pos ⟨rfl,g.is⟩
def sp(c:Nat):Bool:=decide (c=32) || decide (c=10)
def nc:Bool->List Nat->Bool
 |p,[]=>!p
 |p,c::r=>if sp c=true then !p&&nc true r else nc false r
theorem kz{c:Nat}(hc:sp c=true)(b:List Nat):∀(a:List Nat) (p:Bool),nc p (a++c::b)=(nc p a&&nc true b)
 |[],p=>by
  show(if sp c=true then !p&&nc true b else nc false b)=_;rw[if_pos hc];rfl
 |x::a,p=>by
  show(if sp x=true then !p&&nc true (a++c::b)else nc false (a++c::b))=((if sp x=true then !p&&nc true a else nc false a)&&nc true b);rw[kz hc b a true,kz hc b a false];split
  ·rw[Bool.and_assoc]
  ·rfl
theorem xa{c:Nat}(hc:sp c=true):∀ls:List (List Nat),ls≠[]->nc true (jn c ls)=ls.all (nc true)
 |[],h=>absurd rfl h
 |[y],_=>by rw[List.all_cons,List.all_nil,zbQ];rfl
 |y::z::r,_=>by
  show nc true (y++c::jn c (z::r))=_;rw[kz hc,xa hc (z::r) (by simp)];simp only[List.all_cons]
theorem wf:∀{w:List Nat} {p:Bool},(∀x∈w,sp x=false)->w≠[]->nc p w=true
 |[],_,_,h=>absurd rfl h
 |[x],p,h,_=>by
  show(if sp x=true then !p&&nc true []else nc false [])=true;rw[if_neg (by rw[h x (zaq ..)];exact zbl)];rfl
 |x::y::r,p,h,_=>by
  show(if sp x=true then !p&&nc true (y::r)else nc false (y::r))=true;rw[if_neg (by rw[h x (zaq ..)];exact zbl)];exact wf (fun a ha=>h a (zaj _ ha)) (by simp)
def JP(h:okc c):sp c=false:=by
 unfold sp;rw[zaA h.1,zaA h.2.1];rfl
def JU(h:SX ps):nc true (li (stx ps))=true:=by
 obtain⟨w1,-⟩:=fZ h.w;obtain⟨y0,hy0,-⟩:=tG h;unfold stx;rw[bv,xa rfl _ (fun e=>by rw[List.map_eq_nil_iff.mp e]at hy0;cases hy0),List.all_eq_true];intro l hl;obtain⟨w,hw,rfl⟩:=zaz.mp hl;obtain⟨a,-,c⟩:=w1 w hw;exact wf (fun x hx=>JP (c x hx)) fun e=>by rw[e]at a;cases a
def JV(h:∀ps∈pls,SX ps):nc true (li (ptx pls))=true:=by
 unfold ptx;rw[bv,xa rfl _ (by simp),List.all_eq_true];intro l hl;obtain⟨w,hw,rfl⟩:=zaz.mp hl;rcases zay.mp hw with rfl|hw
 ·decide +kernel
 ·obtain⟨ps,hp,rfl⟩:=zaz.mp hw;exact JU (h ps hp)
def hdB(l:List Nat):Bool:=decide (l.take 4=li "plan")&&match l.drop 4 with
 |[]=>true
 |c::_=>decide (c=10)
def t8(pls:List (List (List Str))):li (ptx pls)=li "plan"++(match pls with|[]=>[]|ps::r=>10::jn 10 ((ps::r).map fun q=>li (stx q))):=by
 unfold ptx;rw[bv];cases pls with
 |nil=>rw[zbo];rfl
 |cons ps r=>
  show li "plan"++10::jn 10 _=_;rw[zaR];rfl
def Km(pls:List (List (List Str))):hdB (li (ptx pls))=true:=by
 rw[t8];cases pls<;>rfl
def LX(T:TX ks)(h:nc true (li x)=false):rdp (aw ks) x=none:=by
 cases hr:rdp (aw ks) x with
 |none=>rfl
 |some pls=>
  obtain⟨e,sx,-⟩:=nJ T hr;rw[e,JV sx]at h;cases h
def LZ(T:TX ks)(h:hdB (li x)=false):rdp (aw ks) x=none:=by
 cases hr:rdp (aw ks) x with
 |none=>rfl
 |some pls=>
  obtain⟨e,-,-⟩:=nJ T hr;rw[e,Km]at h;cases h
theorem wp(c:Nat)(z:List Nat):∀ls:List (List Nat),ls≠[]->jn c (ls++[z])=jn c ls++c::z
 |[],h=>absurd rfl h
 |[y],_=>rfl
 |y::a::r,_=>by
  have:=wp c z (a::r) (by simp);show y++c::jn c (a::r++[z])=(y++c::jn c (a::r))++c::z;rw[this,zaD];rfl
def rn(hs:∀ps∈pls,SX ps)(h10:10∉li z):ln (ptx pls++"\n"++z)=(("plan":Str)::pls.map stx)++[z]:=by
 have e:ptx pls++"\n"++z=Str.join ⟨#[10]⟩ ((("plan":Str)::pls.map stx)++[z]):=wl (by
  rw[bv,zaC,List.map_singleton,wp _ _ _ (by simp),aW,aW,<-bv,zaD];rfl)
 rw[e];refine iO (by simp) fun y hy=>?_;rcases zax.mp hy with hy|hy
 ·rcases zay.mp hy with rfl|hy
  ·decide +kernel
  ·obtain⟨ps,hp,rfl⟩:=zaz.mp hy;exact tO (hs ps hp)
 ·rw[zaH.mp hy];exact h10
def Lu(L:List Nat)(z:Str):Prop:=∀ps,stp z=some ps->isS L (sD ps)=false
def Ft(T:TX ks)(hs:∀ps∈pls,SX ps)(h10:10∉li z)(hb:Lu (aw ks) z):rdp (aw ks) (ptx pls++"\n"++z)=none:=by
 cases hr:rdp (aw ks) (ptx pls++"\n"++z)with
 |none=>rfl
 |some ql=>
  obtain⟨h1,-,h3⟩:=kZ hr;rw[rn hs h10]at h1
  replace h1:rdL (pls.map stx++[z])=some ql:=h1
  rw[vZ,qW hs]at h1
  replace h1:(rdL [z]).map (pls++·)=some ql:=h1
  rw[sV]at h1;cases hz:stp z with
  |none=>rw[hz]at h1;cases h1
  |some ps=>
   rw[hz]at h1
   replace h1:some (pls++[ps])=some ql:=h1
   cases h1;rw[uG]at h3;simp only[zbk,List.all_map,List.all_append,List.all_cons,List.all_nil]at h3
   have:=hb ps hz;have h4:isS (aw ks) (sD ps)=true:=h3.2.2.1;rw[this]at h4;cases h4
theorem uE{c:Nat}:∀{ls:List (List Nat)},ls≠[]->(∀y∈ls,c∉y)->(jn c ls).count c+1=ls.length
 |[],h,_=>absurd rfl h
 |[y],_,h=>by
  show y.count c+1=1;rw[List.count_eq_zero.mpr (h y (zaq ..))]
 |y::z::r,_,h=>by
  have ih:=uE (ls:=z::r) (by simp) fun a ha=>h a (zaj _ ha);show(y++c::jn c (z::r)).count c+1=(z::r).length+1;rw[List.count_append,List.count_cons_self,List.count_eq_zero.mpr (h y (zaq ..))];omega
def ur(x:Str):(ln x).length=(li x).count 10+1:=by
 have e:=uE (c:=10) (ls:=(ln x).map li) (fun e=>oR _ _ (List.map_eq_nil_iff.mp e)) fun y hy=>by
  obtain⟨w,hw,rfl⟩:=zaz.mp hy;exact StrLaws.split_free x 10 w hw
 rw[<-bv,ln,StrLaws.join_split,zad]at e;exact e.symm
def JS(T:TX ks)(h:4<=(li x).count 10):rdp (aw ks) x=none:=by
 cases hr:rdp (aw ks) x with
 |none=>rfl
 |some pls=>
  obtain⟨h1,-,-⟩:=kZ hr;obtain⟨-,-,l3⟩:=nJ T hr;have l:=(i4 h1).1;rw[List.length_tail,ur]at l;omega
def yD(hs:∀ps∈pls,SX ps):(li (ptx pls)).count 10=pls.length:=by
 have:=ur (ptx pls);rw[yT hs,zac,zad]at this;omega
def ii(h:(li x).length<=989):Ask x:=⟨by omega,by have:=jE (c:=10) x;unfold ln;omega,fun z hz=>by have:=nG (c:=10) (x:=x) z hz;omega⟩
def qX(hs:∀ps∈pls,SX ps)(h2:pls.length<=2):(li (ptx pls)).length<=940/\4<=(li (ptx pls)).length:=by
 constructor
 ·unfold ptx;rw[bv]
  have:=mJ 10 455 ((("plan":Str)::pls.map stx).map li) (fun y hy=>by
   obtain⟨w,hw,rfl⟩:=zaz.mp hy;exact pO hs w hw)
  rw[zad,zac,zad]at this;have e:(jn 10 ((("plan":Str)::pls.map stx).map li)).length<=917:=by
   cases pls with
   |nil=>decide +kernel
   |cons a r=>
    have j2:=mJ 10 455 (((a::r).map stx).map li) (fun y hy=>by
     obtain⟨w,hw,rfl⟩:=zaz.mp hy;exact pO hs w (zaj _ hw))
    rw[zad,zad]at j2;show(li "plan"++10::jn 10 (((a::r).map stx).map li)).length<=917;rw[zae,zac,show(li "plan").length=4 by decide +kernel];omega
  omega
 ·rw[t8,zae,show(li "plan").length=4 by decide +kernel];omega
def vQ{a w:D}(h:aJ [a,t]=some "NoText")(b:MS):nH kn0 [] 4 b (bf aJ (ac (ae 0) (ac (ae 1) af))) (ao 3 (ae 4)) [some a,some t,some w,some .none,none]=some (.nx [some a,some t,some w,some (mR "NoText"),none]):=by
 have em:bf aJ (ac (ae 0) (ac (ae 1) af)) (hidE [] [some a,some t,some w,some .none,none])=aJ [a,t]:=rfl;unfold nH;rw[em,h];unfold pN;show((bf aJ (ac (ae 0) (ac (ae 1) af)) (hidE [] [some a,some t,some w,some .none,none])).bind _)=_;rw[em,h];rfl
def pR(h:aJ [tD ks,t]=some "NoText"){w:Int}:W (bX [tD ks,t,.int w]) (fun r=>r=(.bool true,[none,none,none])):=by
 have i0:dh kn0 xt0 (mR "NoText")=some (.bool false):=rfl;have i1:dh kn0 xt1 (mR "NoText")=some (.bool false):=rfl;have i2:dh kn0 eF (mR "NoText")=some (.bool true):=rfl;have i3:dh kn0 i8 (mR "NoText")=some (.bool true):=rfl;simp only[bX,jz,ws];by_cases c:w=0
 ·simp only[ws,c,decide_true];refine W.of (vQ h _) ?_;simp only[ws,i0,i1,i2,i3]
 ·simp only[ws,c,decide_false];refine W.of (vQ h _) ?_;simp only[ws,i0,i1,i2,i3]
def Kj:isB (.bool true) (.bool true)=some (.bool true):=rfl
def BI(T:TX ks)(A:Ask x):W (cr [tD ks,.str x]) (fun r=>r=(.bool true,[none,none])):=by
 have hr:=vY T A;have em:bf aJ (ac (ae 0) (ac (ae 1) af)) (hidE [] [some (tD ks),some (.str x),some .none])=aJ [tD ks,.str x]:=rfl;simp only[cr,iK,ws];cases hd:rdp (aw ks) x with
 |none=>
  rw[hd]at hr;have e:kW kn0 [] (ao 2 (aq bA (ac (ae 0) (ac (ae 1) af)))) (bf aJ (ac (ae 0) (ac (ae 1) af))) (aB (eC (.bool true))) [some (tD ks),some (.str x),some .none]=some (.rt (.bool true) [some (tD ks),some (.str x),some .none]):=by
   unfold kW;rw[em,hr];rfl
  refine W.of e ?_;simp only[ws]
 |some pls=>
  rw[hd]at hr;have eb:(ao 2 (aq bA (ac (ae 0) (ac (ae 1) af)))) [some (tD ks),some (.str x),some .none]=some (.nx [some (tD ks),some (.str x),some (.tuple (pls.map sD))]):=weq (by
   simp only[ws];refine W.use (zO T A hd) ?_;rintro _ rfl;simp only[ws])
  have e:kW kn0 [] (ao 2 (aq bA (ac (ae 0) (ac (ae 1) af)))) (bf aJ (ac (ae 0) (ac (ae 1) af))) (aB (eC (.bool true))) [some (tD ks),some (.str x),some .none]=some (.nx [some (tD ks),some (.str x),some (.tuple (pls.map sD))]):=by
   unfold kW;rw[em,hr];show nxO _=_;rw[eb];rfl
  obtain⟨ex,sx,l3⟩:=nJ T hd;obtain⟨h1,-,h3⟩:=kZ hd;obtain⟨z,zs,ez⟩:=sX x;have an:=A.n;have az:=A.z;rw[ez]at h1 an az
  replace h1:rdL zs=some pls:=h1
  rw[zac]at an;refine W.of e ?_;simp only[ws];refine W.use (mK T.t (tW (by omega) (fun y hy=>az y (zaj _ hy)) h1)) ?_;rintro _ rfl;rw[h3];simp only[ws,Kj];refine W.use (tR sx l3) ?_;rintro _ rfl;rw[<-ex];simp only[ws]
def jT(xs:List Nat)(n:Nat):bq xs none (some (n:Int))=xs.take n:=qt xs n
def eP(xs:List Nat)(n:Nat):bq xs (some (n:Int)) none=xs.drop n:=qu xs n
def iR(l:List Nat):li ⟨l.toArray⟩=l:=rfl
def h9(l:List Nat):(⟨l.toArray⟩:Str).length=l.length:=(ll _).symm
def i5(a b:Str):(a++b).length=a.length+b.length:=by rw[<-ll,aW,zae,ll,ll]
def xQ(hp:Pn n p)(hn:n<=50000)(l4:4<=(li x).length)(l9:(li x).length<=940){Q:D×En->Prop}(h:∀y p',(li y).length<=941->Pn (n+3) p'->Q (.str y,[some p',none])):W (dQ [p,.str x]) Q:=by
 have lx:=ll x;simp only[dQ,mj,ws];refine⟨szG (by omega),bR hp (by omega) (by omega) (by omega) fun a p1 a0 a1 hp1=>?_⟩;obtain⟨a,rfl⟩:=zaM a0;simp only[ws];refine bR hp1 (by omega) (by omega) (by omega) fun s p2 s0 s1 hp2=>?_;simp only[ws];refine⟨by decide +kernel,u9 s0 s1 fun c _=>?_⟩;simp only[ws];refine bR hp2 (by omega) (by omega) (by omega) fun w p3 w0 w1 hp3=>?_;simp only[ws];have sx:x.length<=sizeLine:=szG (by omega);by_cases hw:w=0
 ·have e1:(a:Int)+1=((a+1:Nat):Int):=by omega
  simp only[ws,hw,decide_true,e1];refine⟨sx,sx,?_⟩;rw[jT,eP];have l1:(x.cps.toList.take a).length+(x.cps.toList.drop (a+1)).length<=940:=by
   rw[zaE,zaF]
   have:x.cps.toList.length=x.length:=lx;omega
  refine⟨by rw[h9,h9];exact szG (by omega),h _ _ ?_ hp3⟩;rw[aW,zae,iR,iR];omega
 ·have e1:(a:Int)+w-1=((a+(w.toNat-1):Nat):Int):=by omega
  simp only[ws,hw,decide_false,e1];refine⟨sx,?_⟩;rw[jT];have l1:(x.cps.toList.take a).length+(x.cps.toList.drop (a+(w.toNat-1))).length<=940:=by
   rw[zaE,zaF]
   have:x.cps.toList.length=x.length:=lx;omega
  have lc:(mk1 c).length=1:=rfl;refine⟨by rw[h9,lc];exact szG (by omega),sx,?_⟩;rw[eP];refine⟨by rw[i5,lc,h9,h9];exact szG (by omega),h _ _ ?_ hp3⟩;rw[ll,i5,i5,lc,h9,h9];omega
def L4(is:List Nat):neD (.list (is.map fun k=>PyData.int (k:Nat))) (.list [])=some (.bool (!decide (is=[]))):=by
 have a1:aF (is.map fun k=>PyData.int ((k:Nat):Int))=true:=pX fun t ht=>by obtain⟨k,_,rfl⟩:=zaz.mp ht;rfl
 have a2:cc (is.map fun k=>PyData.int ((k:Nat):Int))<=0:=lG fun t ht=>by obtain⟨k,_,rfl⟩:=zaz.mp ht;exact zav _
 show grd _ _=_;unfold grd;rw[if_pos ⟨a1,rfl,by simp only[dq];omega⟩];cases is with
 |nil=>rfl
 |cons a r=>rfl
def Rf(ks:List Str)(t:D):Prop:=aJ [tD ks,t]=some "NoText"
def wU(T:TX ks)(A:Ask x)(h:rdp (aw ks) x=none):Rf ks (.str x):=by
 have:=vY T A;rw[h]at this;exact this
def Jf(h:SX ps):∃c r,li (stx ps)=c::r/\c≠112:=by
 cases ps with
 |nil=>have:=h.l1;simp at this
 |cons ys ps=>
  have l:=(h.w ys (zaq ..)).l12;have k:∀n,n<13->((li (num n)).head?≠none/\(li (num n)).head?≠some 112):=by decide +kernel
  obtain⟨k1,k2⟩:=k ys.length (by omega);cases hn:li (num ys.length)with
  |nil=>rw[hn]at k1;exact absurd rfl k1
  |cons c r=>
   rw[hn]at k2;have k3:c≠112:=fun z=>k2 (by rw[z];rfl);unfold stx;rw[bv];show ∃c r,jn 32 (li (num ys.length)::(ys++wds ps).map li)=c::r/\c≠112;rw[hn];cases(ys++wds ps).map li with
   |nil=>exact⟨c,r,rfl,k3⟩
   |cons a b=>exact⟨c,_,rfl,k3⟩
def JA(hs:∀ps∈pls,SX ps):∃tl,li (ptx pls)=112::108::97::110::tl/\(tl=[]\/∃c u,tl=10::c::u/\c≠112):=by
 rw[t8];cases pls with
 |nil=>exact⟨[],by decide +kernel,.inl rfl⟩
 |cons ps r=>
  obtain⟨c,q,e,k⟩:=Jf (hs ps (zaq ..));refine⟨_,rfl,.inr ?_⟩;show ∃c u,10::jn 10 (li (stx ps)::r.map fun q=>li (stx q))=10::c::u/\c≠112;rw[e];cases r.map fun q=>li (stx q)with
  |nil=>exact⟨c,q,rfl,k⟩
  |cons a b=>exact⟨c,_,rfl,k⟩
def fc{P:D->Prop}{a:D}(h:P a)(k:∀t∈ts,P t):∀t∈a::ts,P t:=List.forall_mem_cons.mpr ⟨h,k⟩
def f0{P:D->Prop}:∀t∈([]:List D),P t:=fun _ h=>nomatch h
def gj(T:TX ks)(e:li x=l)(hl:l.length<=989)(h:nc true l=false):Rf ks (.str x):=by
 subst e;exact wU T (ii hl) (LX T h)
def nI(T:TX ks)(e:li x=l)(hl:l.length<=989)(h:hdB l=false):Rf ks (.str x):=by
 subst e;exact wU T (ii hl) (LZ T h)
def kX(h:bw "str" t=some (.bool false)):Rf ks t:=LB h
def blB(x:Str):D->Bool
 |.int k=>decide ((li x)[k.toNat]?=some 32)
 |_=>false
def Au(T:TX ks)(hp:Pn n p)(hn:n<=50000)(g:GL ks pls)(l2:pls.length<=2){Q:D×En->Prop}(h:∀ts p',(∀t∈ts,Rf ks t)->ts.length<=40->Pn (n+1) p'->Q (.list ts,[some p',none])):W (dC [p,.tuple (pls.map sD)]) Q:=by
 have hs:∀ps∈pls,SX ps:=fun ps hp=>SX.of T (g.w ps hp);obtain⟨m1,m2⟩:=qX hs l2;simp only[dC,kL,ws];refine W.use (vR hs g.l3) ?_;rintro _ rfl;generalize hx:ptx pls=x at m1 m2;have lx:=ll x;have sx:x.length<=sizeLine:=szG (by omega);simp only[ws,zaL];refine⟨sx,?_⟩;refine⟨⟨by omega,by omega⟩,jV (blB x) (fun t=>t) (by rw[cQ];exact szG (by omega)) (fun t ht=>?_) (fun t ht _=>by simp only[ws,jr]) fun o=>?_⟩
 ·obtain⟨i,hi⟩:=List.mem_iff_getElem?.mp ht;obtain⟨h1,rfl⟩:=ge hi;obtain⟨c,hc⟩:∃c,(li x)[i]?=some c:=⟨_,zak (by omega)⟩;have e:atI (li x) (i:Int)=some c:=by rw[mX];exact hc
  simp only[jg,ws,Int.zero_add,e];refine⟨sx,?_⟩;have e2:decide (mk1 c=" ")=blB x (.int (i:Nat)):=by
   show _=decide ((li x)[(i:Int).toNat]?=some 32);rw[zaL,hc,decide_eq_decide];constructor
   ·intro z
    have:[c]=[32]:=congrArg li z;cases this;rfl
   ·intro z;rw[zat z];decide +kernel
  rw[e2]
 rw[List.map_id'];obtain⟨is,hb,hi⟩:∃is:List Nat,List.filter (blB x) (j6 0 x.length)=is.map (fun k=>.int (k:Nat))/\∀k∈is,k<x.length/\(li x)[k]?=some 32:=by
  refine⟨(List.range x.length).filter fun k=>decide ((li x)[k]?=some 32),?_,fun k hk=>?_⟩
  ·unfold j6;rw[List.filter_map];congr 1
   ·funext k
    simp
   ·refine List.filter_congr fun k _=>?_;show decide ((li x)[(0+(k:Int)).toNat]?=some 32)=_;rw[Int.zero_add,zaL]
  ·obtain⟨h1,h2⟩:=zby.mp hk;exact⟨zbn.mp h1,of_decide_eq_true h2⟩
 rw[hb];have l4:(⟨(bq x.cps.toList (some 4) none).toArray⟩:Str).length<=940:=by
  rw[h9,show(4:Int)=((4:Nat):Int)from rfl,eP,zaF]
  have:x.cps.toList.length=x.length:=lx;omega
 have s5:∀k:Nat,k<=10->k+x.length<=sizeLine/\x.length+k<=sizeLine/\k+(⟨(bq x.cps.toList (some 4) none).toArray⟩:Str).length<=sizeLine:=fun k hk=>⟨szG (by omega),szG (by omega),szG (by omega)⟩;have mm:(Txt.mul "\n0" (4-(pls.length:Int))).length<=10:=by
  rcases(by omega:pls.length=0\/pls.length=1\/pls.length=2)with e|e|e<;>rw[e]<;>decide +kernel
 simp only[ws,L4];refine⟨(s5 1 (by decide)).2.1,(s5 1 (by decide)).1,(s5 1 (by decide)).2.1,(s5 1 (by decide)).1,(s5 1 (by decide)).1,sx,(s5 4 (by decide)).2.2,sx,sx,sx,(s5 3 (by decide)).2.2,sx,(s5 5 (by decide)).2.2,sx,(s5 5 (by decide)).2.2,⟨by decide +kernel,by omega,by omega⟩,szG (by omega),szG (Nat.le_of_ble_eq_true rfl),?_⟩;obtain⟨tl,xl,ht⟩:=JA hs;have cn:=yD hs;rw[hx]at xl cn;have c4:(⟨(bq x.cps.toList (some 4) none).toArray⟩:Str)=⟨tl.toArray⟩:=by
  rw[show(4:Int)=((4:Nat):Int)from rfl,eP,show x.cps.toList=li x from rfl,xl];rfl
 have c5:(⟨(bq x.cps.toList (some 5) none).toArray⟩:Str)=⟨(tl.drop 1).toArray⟩:=by
  rw[show(5:Int)=((5:Nat):Int)from rfl,eP,show x.cps.toList=li x from rfl,xl];rfl
 have tll:tl.length+4=(li x).length:=by rw[xl];rfl
 have R0:∀t∈[PyData.str (x++" "),.str (" "++x),.str (x++"\n"),.str ("\n"++x),.str ("x"++x),.str ("Plan"++(⟨(bq x.cps.toList (some 4) none).toArray⟩:Str)),.str ⟨(bq x.cps.toList (some 4) none).toArray⟩,.str ⟨(bq x.cps.toList (some 5) none).toArray⟩,.str ("pla"++(⟨(bq x.cps.toList (some 4) none).toArray⟩:Str)),.str ("plan "++(⟨(bq x.cps.toList (some 4) none).toArray⟩:Str)),.str ("plans"++(⟨(bq x.cps.toList (some 4) none).toArray⟩:Str)),.str (x++Txt.mul "\n0" (4-(pls.length:Int))),.str "",.str "\n"],Rf ks t:=by
  rw[c4,c5];have la:∀a b:Str,(li a).length<=40->(li b).length<=940->(li a++li b).length<=989:=fun a b h1 h2=>by rw[zae];omega
  have lb:∀a:Str,(li a).length<=40->(li x++li a).length<=989:=fun a h1=>by rw[zae];omega
  have lt:(li (⟨tl.toArray⟩:Str)).length<=940:=by rw[iR];omega
  refine fc (gj T (aW _ _) (lb " " (by decide +kernel)) (by rw[show li " "=32::[]from rfl,kz rfl];exact zbR _)) (fc (gj T (aW _ _) (la " " x (by decide +kernel) m1) rfl) (fc (gj T (aW _ _) (lb "\n" (by decide +kernel)) (by rw[show li "\n"=10::[]from rfl,kz rfl];exact zbR _)) (fc (gj T (aW _ _) (la "\n" x (by decide +kernel) m1) rfl) ?_)));refine fc (nI T (aW _ _) (la "x" x (by decide +kernel) m1) (by rw[xl];rfl)) (fc (nI T (aW _ _) (la "Plan" _ (by decide +kernel) lt) rfl) (fc (gj T (iR _) (by omega) ?_) (fc ?_ (fc (nI T (aW _ _) (la "pla" _ (by decide +kernel) lt) ?_) (fc (nI T (aW _ _) (la "plan " _ (by decide +kernel) lt) rfl) (fc (nI T (aW _ _) (la "plans" _ (by decide +kernel) lt) rfl) ?_))))))
  ·rcases ht with rfl|⟨c,u,rfl,-⟩<;>rfl
  ·rcases ht with rfl|⟨c,u,rfl,hc⟩
   ·exact gj T (iR _) (by decide) rfl
   ·refine nI T (iR _) (by rw[zaF];omega) ?_;show hdB (c::u)=false;have q:decide ((c::u).take 4=li "plan")=false:=zaA fun z=>hc (zat (show some c=some 112 from congrArg List.head? z));unfold hdB;rw[q];rfl
  ·rw[iR];rcases ht with rfl|⟨c,u,rfl,-⟩<;>rfl
  ·refine fc (wU T (ii ?_) (JS T ?_)) (fc (gj T rfl (by decide) rfl) (fc (gj T rfl (by decide) rfl) f0))
   ·rw[aW,zae,ll (Txt.mul _ _)];omega
   ·rw[aW,List.count_append,cn];rcases(by omega:pls.length=0\/pls.length=1\/pls.length=2)with e|e|e<;>rw[e]<;>decide +kernel
 generalize hT:[PyData.str (x++" "),.str (" "++x),.str (x++"\n"),.str ("\n"++x),.str ("x"++x),.str ("Plan"++(⟨(bq x.cps.toList (some 4) none).toArray⟩:Str)),.str ⟨(bq x.cps.toList (some 4) none).toArray⟩,.str ⟨(bq x.cps.toList (some 5) none).toArray⟩,.str ("pla"++(⟨(bq x.cps.toList (some 4) none).toArray⟩:Str)),.str ("plan "++(⟨(bq x.cps.toList (some 4) none).toArray⟩:Str)),.str ("plans"++(⟨(bq x.cps.toList (some 4) none).toArray⟩:Str)),.str (x++Txt.mul "\n0" (4-(pls.length:Int))),.str "",.str "\n"]=ts0 at R0 ⊢;have hL:ts0.length=14:=by rw[<-hT];rfl
 clear hT;have RE:∀ts1,(∀t∈ts1,Rf ks t)->∀t∈ts1++[PyData.str " ",.str "plan\n",.none,.int 0,.bool true,.list [.str x],.tuple [.str x],.dict [],.tuple (pls.map sD),.list [],.list (dH x)],Rf ks t:=by
  intro ts1 h1 t ht;rcases zax.mp ht with ht|ht
  ·exact h1 t ht
  ·have e1:Rf ks (.str " "):=gj T rfl (by decide) rfl;have e2:Rf ks (.str "plan\n"):=gj T rfl (by decide +kernel) rfl;have ee:∀t∈[PyData.str " ",.str "plan\n",.none,.int 0,.bool true,.list [.str x],.tuple [.str x],.dict [],.tuple (pls.map sD),.list [],.list (dH x)],Rf ks t:=
    fc e1 (fc e2 (fc (kX (t:=.none) rfl) (fc (kX (t:=.int 0) rfl) (fc (kX (t:=.bool true) rfl) (fc (kX (t:=.list [.str x]) rfl) (fc (kX (t:=.tuple [.str x]) rfl) (fc (kX (t:=.dict []) rfl) (fc (kX (t:=.tuple (pls.map sD)) rfl) (fc (kX (t:=.list []) rfl) (fc (kX (t:=.list _) rfl) f0))))))))))
   exact ee t ht
 by_cases e:is=[]
 ·subst e;simp only[ws,decide_true,Bool.not_true];refine W.of (show qr _=some (.dict [],_)from rfl) ?_;simp only[ws];refine W.of (show iQ [.str x]=some (.list (dH x))from if_pos sx) ?_;simp only[ws];exact⟨szG (zau (Nat.add_le_add_right (Nat.le_of_eq hL) _) (Nat.le_of_ble_eq_true rfl)),h _ _ (RE _ R0) (by rw[zae,hL];exact Nat.le_of_ble_eq_true rfl) (hp.mono (by omega))⟩
 ·have nz:0<is.length:=List.length_pos_iff.mpr e;have il:is.length<=x.length:=by
   have:=congrArg List.length hb;rw[zad]at this;rw[<-this];exact zau (List.length_filter_le _ _) (Nat.le_of_eq (cQ ..))
  simp only[ws,zaA e,Bool.not_false];refine bR hp (by omega) (by omega) (by omega) fun r p' r0 r1 hp'=>?_;simp only[ws];refine u9 r0 (by rw[zad];exact r1) fun d hd=>?_;obtain⟨k,hk,rfl⟩:=zaz.mp hd;obtain⟨k1,k2⟩:=hi k hk;simp only[ws];have xk:x.cps.toList=li x:=rfl;have lk:∀z:Str,(li z).length=1->(li ((⟨(bq x.cps.toList none (some (k:Int))).toArray⟩:Str)++z++(⟨(bq x.cps.toList (some (k:Int)) none).toArray⟩:Str))).length<=989:=fun z hz=>by
   rw[aW,aW,zae,zae,hz,iR,iR,jT,eP,zaE,zaF,xk];omega
  have sk:∀z:Str,(li z).length=1->(⟨(bq x.cps.toList none (some (k:Int))).toArray⟩:Str).length+z.length<=sizeLine/\((⟨(bq x.cps.toList none (some (k:Int))).toArray⟩:Str)++z).length+(⟨(bq x.cps.toList (some (k:Int)) none).toArray⟩:Str).length<=sizeLine:=fun z hz=>by
   have:=lk z hz;rw[ll,i5]at this;have l1:=i5 (⟨(bq x.cps.toList none (some (k:Int))).toArray⟩:Str) z;exact⟨szG (by omega),szG (by omega)⟩
  obtain⟨u,hu⟩:∃u,(li x).drop k=32::u:=by
   rw[ll]at *;have k3:k<(li x).length:=by rw[ll];exact k1
   rw[zbI k3];rw[zak k3]at k2;rw[zat k2];exact⟨_,rfl⟩
  have rk:∀z:Str,(∃c,li z=[c]/\sp c=true)->Rf ks (.str ((⟨(bq x.cps.toList none (some (k:Int))).toArray⟩:Str)++z++(⟨(bq x.cps.toList (some (k:Int)) none).toArray⟩:Str))):=by
   rintro z ⟨c,hz,hc⟩;refine gj T rfl (lk z (by rw[hz];rfl)) ?_;rw[aW,aW,hz];show nc true (bq (li x) none (some (k:Int))++[c]++bq (li x) (some (k:Int)) none)=false;rw[jT,eP,hu,zaD];show nc true (_++c::(32::u))=false;rw[kz hc];exact zbR _
  have r1:=rk " " ⟨32,rfl,rfl⟩;have r2:=rk "\n" ⟨10,rfl,rfl⟩;obtain⟨q1,q2⟩:=sk " " rfl;obtain⟨q3,q4⟩:=sk "\n" rfl;refine⟨sx,q1,sx,q2,szG (by omega),sx,q3,sx,q4,szG (by rw[zae,hL];exact Nat.le_of_ble_eq_true rfl),?_⟩;refine W.of (show qr _=some (.dict [],_)from rfl) ?_;simp only[ws];refine W.of (show iQ [.str x]=some (.list (dH x))from if_pos sx) ?_;simp only[ws];refine⟨szG (by rw[zae,zae,hL];exact Nat.le_of_ble_eq_true rfl),h _ _ (RE _ ?_) (by rw[zae,zae,zae,hL];exact Nat.le_of_ble_eq_true rfl) hp'⟩;intro t ht;rcases zax.mp ht with ht|ht
  ·rcases zax.mp ht with ht|ht
   ·exact R0 t ht
   ·rw[zaH.mp ht];exact r1
  ·rw[zaH.mp ht];exact r2
structure NoL(L:List Nat)(z:Str):Prop where
 n:10∉li z
 l:(li z).length<=230
 b:Lu L z
def nb(w:Str):Prop:=32∉li w/\10∉li w
instance (w:Str):Decidable (nb w):=by unfold nb;infer_instance
def L5{ws:List Str}(e:li z=jn 32 (ws.map li)):z=Str.join ⟨#[32]⟩ ws:=by
 have:li z=li (Str.join ⟨#[32]⟩ ws):=by rw[e,bv]
 cases z with|mk a=>
 generalize Str.join ⟨#[32]⟩ ws=y at this;cases y with|mk b=>
 congr 1;exact Array.toList_inj.mp this
def nol(ws:List Str)(e:li z=jn 32 (ws.map li))(hne:ws≠[])(hw:∀w∈ws,nb w)(hl:(li z).length<=230)(h:∀ps,sA ws.length ws=some ps->isS L (sD ps)=false):NoL L z:=by
 refine⟨fun hx=>?_,hl,fun ps hp=>h ps ?_⟩
 ·rw[e]at hx;rcases uD 32 hx with hx|⟨y,hy,hx⟩
  ·cases hx
  ·obtain⟨w,hw',rfl⟩:=zaz.mp hy;exact(hw w hw').2 hx
 ·unfold stp wd at hp;rw[L5 e,iO hne fun y hy=>(hw y hy).1]at hp;exact hp
def cg(ws:List Str)(hw:∀w∈ws,nb w)(e:li z=jn 32 (ws.map li):=by rfl)(hne:ws≠[]:=by exact fun e=>nomatch e)(hl:(li z).length<=230:=by exact Nat.le_of_ble_eq_true rfl)(h:sA ws.length ws=none:=by rfl):NoL L z:=
 nol ws e hne hw hl fun ps hp=>by rw[h]at hp;cases hp
def j7(ws:List Str)(ps:List (List Str))(hw:∀w∈ws,nb w)(hp:isS L (sD ps)=true->False)(e:li z=jn 32 (ws.map li):=by rfl)(hne:ws≠[]:=by exact fun e=>nomatch e)(hl:(li z).length<=230:=by exact Nat.le_of_ble_eq_true rfl)(h:sA ws.length ws=some ps:=by rfl):NoL L z:=
 nol ws e hne hw hl fun ps' hp'=>by
  rw[h]at hp';cases hp';cases q:isS L (sD ps)with
  |false=>rfl
  |true=>exact(hp q).elim
def dU(h:isS L (sD ps)=true):ps.length<=5/\(∀ys∈ps,ys.length<=12/\ys.Nodup/\∀y∈ys,(li y).length<=6/\∀c∈li y,c∈L)/\∀ys∈ps.dropLast,fr ys=true:=by
 rw[sD,xx]at h;simp only[zbk,decide_eq_true_eq,zad,List.all_map,List.all_eq_true]at h;obtain⟨h1,h2,h3,h4⟩:=h;refine⟨h2,fun ys hy=>?_,fun ys hy=>?_⟩
 ·have h5:=h3 ys hy
  replace h5:isP L (pD ys)=true:=h5
  rw[pD,xy]at h5;simp only[zbk,decide_eq_true_eq,zad,List.all_map,List.all_eq_true]at h5;obtain⟨g1,g2,g3⟩:=h5;refine⟨g1,?_,fun y hy=>?_⟩
  ·rw[zaR]at g3
   have:(txt∘PyData.str:Str->Str)=id:=rfl;rw[this,List.map_id]at g3;exact g3
  ·have h6:=g2 y hy
   replace h6:isW L (.str y)=true:=h6
   rw[ti]at h6;simp only[zbk,decide_eq_true_eq,List.all_eq_true]at h6;exact⟨h6.2.1,h6.2.2⟩
 ·rw[<-List.map_dropLast]at h4;have h5:=h4 (pD ys) (List.mem_map_of_mem hy)
  replace h5:fr ((ys.map PyData.str).map txt)=true:=h5
  rw[zaR]at h5
  have:(txt∘PyData.str:Str->Str)=id:=rfl;rw[this,List.map_id]at h5;exact h5
section
variable(h32:c≠32)(h10:c≠10)
include h32 h10
def mD:nb (mk1 c):=⟨fun h=>h32 (zaH.mp h).symm,fun h=>h10 (zaH.mp h).symm⟩
def hW(n:Nat):nb ⟨(List.replicate n c).toArray⟩:=⟨fun h=>h32 (List.eq_of_mem_replicate h).symm,fun h=>h10 (List.eq_of_mem_replicate h).symm⟩
end
def NL(L:List Nat)(t:D):Prop:=∃z,t=.str z/\NoL L z
def NL.of(h:NoL L z):NL L (.str z):=⟨z,rfl,h⟩
def zd{b:Str}(ha:li a=li b++[32])(hne:ys≠[]):li (a++Str.join ⟨#[32]⟩ ys)=jn 32 ((b::ys).map li):=by
 rw[aW,bv,ha];cases ys with
 |nil=>exact absurd rfl hne
 |cons y r=>
  show(li b++[32])++jn 32 (li y::r.map li)=li b++32::jn 32 (li y::r.map li);rw[zaD];rfl
def qV(c n:Nat):(li (Str.join ⟨#[32]⟩ (List.replicate n (mk1 c)))).length<=2*n:=by
 rw[bv]
 have:=mJ 32 1 ((List.replicate n (mk1 c)).map li) (fun y hy=>by
  obtain⟨w,hw,rfl⟩:=zaz.mp hy;rw[List.eq_of_mem_replicate hw];exact zav _)
 rw[zad,zaN]at this;omega
def Jm{s:Str}(h:nT w=true)(hv:nV w=n):sA (n+1) (w::List.replicate n s)=some [List.replicate n s]:=by
 rw[oW,pc,if_pos ⟨h,by rw[zaN];omega⟩,hv];have e1:(List.replicate n s).drop n=[]:=List.drop_eq_nil_of_le (by rw[zaN];exact zav _);have e2:(List.replicate n s).take n=List.replicate n s:=List.take_of_length_le (by rw[zaN];exact zav _);show(sA n ((List.replicate n s).drop n)).map ((List.replicate n s).take n::·)=_;rw[e1,e2];cases n<;>rfl
def yz{b:Str}(h32:c≠32)(h10:c≠10)(ha:li a=li b++[32])(hb:nb b)(hn:13<=n)(hm:n<=100)(hl:(li a).length<=10)(h:nT b=true)(hv:nV b=n):NL L (.str (a++Str.join ⟨#[32]⟩ (List.replicate n (mk1 c)))):=by
 refine .of (j7 (b::List.replicate n (mk1 c)) [List.replicate n (mk1 c)] (fun w hw=>?_) (fun q=>?_) (zd ha fun e=>?_) (fun e=>nomatch e) ?_ ?_)
 ·rcases zay.mp hw with rfl|hw
  ·exact hb
  ·rw[List.eq_of_mem_replicate hw];exact mD h32 h10
 ·have:=((dU q).2.1 _ (zaq ..)).1;rw[zaN]at this;omega
 ·have:=congrArg List.length e;rw[zaN]at this;simp at this;omega
 ·have:=qV c n;rw[aW,zae];omega
 ·rw[zac,zaN];exact Jm h hv
def m1(h:P a):∀w∈[a],P w:=fun w hw=>by rw[zaH.mp hw];exact h
def mc{ws:List Str}(h:P a)(k:∀w∈ws,P w):∀w∈a::ws,P w:=List.forall_mem_cons.mpr ⟨h,k⟩
def frn(q:fr [mk1 c,Txt.mul (mk1 c) 2]=true):False:=((List.pairwise_cons.mp (of_decide_eq_true q)).1 _ (zaq ..)).1 ⟨[c],rfl⟩
def frm(q:fr [Txt.mul (mk1 c) 2,mk1 c]=true):False:=((List.pairwise_cons.mp (of_decide_eq_true q)).1 _ (zaq ..)).2 ⟨[c],rfl⟩
section
variable(h32:c≠32)(h10:c≠10)
include h32 h10
def IQ:NL L (.str ("1_0 "++Str.join ⟨#[32]⟩ (List.replicate 10 (mk1 c)))):=by
 refine .of (cg ("1_0"::List.replicate 10 (mk1 c)) (mc (by decide +kernel) fun w hw=>?_) (zd rfl fun e=>nomatch e) (fun e=>nomatch e) ?_ ?_)
 ·rw[List.eq_of_mem_replicate hw];exact mD h32 h10
 ·have:=qV c 10;rw[aW,zae,show(li "1_0 ").length=4 from rfl];omega
 ·rw[zac,oW,pc,if_neg fun e=>absurd e.1 (by decide +kernel)]
def fx0:∀t∈[PyData.str "",PyData.str " ",PyData.str "x",PyData.str "1",PyData.str ("2 "++mk1 c),PyData.str ("01 "++mk1 c),PyData.str "-1",PyData.str ("+1 "++mk1 c),PyData.str ("1 "++mk1 c++" 1")],NL L t:=by
 have hc:=mD h32 h10;have h2:nb (Txt.mul (mk1 c) 2):=hW h32 h10 2;have h7:nb (Txt.mul (mk1 c) 7):=hW h32 h10 7;exact fc (.of (cg [""] (m1 (by decide +kernel))))
  (fc (.of (cg ["",""] (mc (by decide +kernel) (m1 (by decide +kernel)))))
  (fc (.of (cg ["x"] (m1 (by decide +kernel))))
  (fc (.of (cg ["1"] (m1 (by decide +kernel))))
  (fc (.of (cg ["2",mk1 c] (mc (by decide +kernel) (m1 hc))))
  (fc (.of (cg ["01",mk1 c] (mc (by decide +kernel) (m1 hc))))
  (fc (.of (cg ["-1"] (m1 (by decide +kernel))))
  (fc (.of (cg ["+1",mk1 c] (mc (by decide +kernel) (m1 hc))))
  (fc (.of (cg ["1",mk1 c,"1"] (mc (by decide +kernel) (mc hc (m1 (by decide +kernel))))))
  (f0)))))))))
def fx1:∀t∈[PyData.str "1  ",PyData.str ("1 "++Txt.mul (mk1 c) 7),PyData.str ("1_0 "++Str.join ⟨#[32]⟩ (List.replicate 10 (mk1 c))),PyData.str ("_1 "++mk1 c),PyData.str ("1_ "++mk1 c),PyData.str "0_0",PyData.str ("2 "++mk1 c++" "++mk1 c),PyData.str "0 0 0 0 0 0",PyData.str ("0 0 0 0 0 1 "++mk1 c)],NL L t:=by
 have hc:=mD h32 h10;have h2:nb (Txt.mul (mk1 c) 2):=hW h32 h10 2;have h7:nb (Txt.mul (mk1 c) 7):=hW h32 h10 7;exact fc (.of (cg ["1","",""] (mc (by decide +kernel) (mc (by decide +kernel) (m1 (by decide +kernel))))))
  (fc (.of (j7 ["1",Txt.mul (mk1 c) 7] [[Txt.mul (mk1 c) 7]] (mc (by decide +kernel) (m1 h7)) fun q=>absurd (((dU q).2.1 _ (zaq ..)).2.2 _ (zaq ..)).1 (show ¬7<=6 by decide)))
  (fc (IQ h32 h10)
  (fc (.of (cg ["_1",mk1 c] (mc (by decide +kernel) (m1 hc))))
  (fc (.of (cg ["1_",mk1 c] (mc (by decide +kernel) (m1 hc))))
  (fc (.of (cg ["0_0"] (m1 (by decide +kernel))))
  (fc (.of (j7 ["2",mk1 c,mk1 c] [[mk1 c,mk1 c]] (mc (by decide +kernel) (mc hc (m1 hc))) fun q=>absurd ((dU q).2.1 _ (zaq ..)).2.1 fun k=>(zbb.mp k).1 (zaq ..)))
  (fc (.of (j7 ["0","0","0","0","0","0"] [[],[],[],[],[],[]] (mc (by decide +kernel) (mc (by decide +kernel) (mc (by decide +kernel) (mc (by decide +kernel) (mc (by decide +kernel) (m1 (by decide +kernel))))))) fun q=>absurd (dU q).1 (show ¬6<=5 by decide)))
  (fc (.of (j7 ["0","0","0","0","0","1",mk1 c] [[],[],[],[],[],[mk1 c]] (mc (by decide +kernel) (mc (by decide +kernel) (mc (by decide +kernel) (mc (by decide +kernel) (mc (by decide +kernel) (mc (by decide +kernel) (m1 hc))))))) fun q=>absurd (dU q).1 (show ¬6<=5 by decide)))
  (f0)))))))))
def fx2:∀t∈[PyData.str "00",PyData.str ("1 "++mk1 c++" "),PyData.str "0 ",PyData.str ("2 "++mk1 c++" "++Txt.mul (mk1 c) 2++" 0"),PyData.str ("2 "++Txt.mul (mk1 c) 2++" "++mk1 c++" 1 "++mk1 c),PyData.str "10",PyData.str "0 -",PyData.str "0 x"],NL L t:=by
 have hc:=mD h32 h10;have h2:nb (Txt.mul (mk1 c) 2):=hW h32 h10 2;have h7:nb (Txt.mul (mk1 c) 7):=hW h32 h10 7;exact fc (.of (cg ["00"] (m1 (by decide +kernel))))
  (fc (.of (cg ["1",mk1 c,""] (mc (by decide +kernel) (mc hc (m1 (by decide +kernel))))))
  (fc (.of (cg ["0",""] (mc (by decide +kernel) (m1 (by decide +kernel)))))
  (fc (.of (j7 ["2",mk1 c,Txt.mul (mk1 c) 2,"0"] [[mk1 c,Txt.mul (mk1 c) 2],[]] (mc (by decide +kernel) (mc hc (mc h2 (m1 (by decide +kernel))))) fun q=>frn ((dU q).2.2 _ (zaq ..))))
  (fc (.of (j7 ["2",Txt.mul (mk1 c) 2,mk1 c,"1",mk1 c] [[Txt.mul (mk1 c) 2,mk1 c],[mk1 c]] (mc (by decide +kernel) (mc h2 (mc hc (mc (by decide +kernel) (m1 hc))))) fun q=>frm ((dU q).2.2 _ (zaq ..))))
  (fc (.of (cg ["10"] (m1 (by decide +kernel))))
  (fc (.of (cg ["0","-"] (mc (by decide +kernel) (m1 (by decide +kernel)))))
  (fc (.of (cg ["0","x"] (mc (by decide +kernel) (m1 (by decide +kernel)))))
  (f0))))))))
def fx3:∀t∈[PyData.str ("0 2 "++mk1 c++" "++Txt.mul (mk1 c) 2++" 1 "++Txt.mul (mk1 c) 2),PyData.str ("1 "++mk1 c++" 00"),PyData.str "plan",PyData.str ("12 "++mk1 c),PyData.str "0  0",PyData.str ("13"++" "++Str.join ⟨#[32]⟩ (List.replicate 13 (mk1 c))),PyData.str ("1 "++mk1 c++" 13"),PyData.str ("100 "++Str.join ⟨#[32]⟩ (List.replicate 100 (mk1 c)))],NL L t:=by
 have hc:=mD h32 h10;have h2:nb (Txt.mul (mk1 c) 2):=hW h32 h10 2;have h7:nb (Txt.mul (mk1 c) 7):=hW h32 h10 7;exact fc (.of (j7 ["0","2",mk1 c,Txt.mul (mk1 c) 2,"1",Txt.mul (mk1 c) 2] [[],[mk1 c,Txt.mul (mk1 c) 2],[Txt.mul (mk1 c) 2]] (mc (by decide +kernel) (mc (by decide +kernel) (mc hc (mc h2 (mc (by decide +kernel) (m1 h2)))))) fun q=>frn ((dU q).2.2 _ (zaj _ (zaq ..)))))
  (fc (.of (cg ["1",mk1 c,"00"] (mc (by decide +kernel) (mc hc (m1 (by decide +kernel))))))
  (fc (.of (cg ["plan"] (m1 (by decide +kernel))))
  (fc (.of (cg ["12",mk1 c] (mc (by decide +kernel) (m1 hc))))
  (fc (.of (cg ["0","","0"] (mc (by decide +kernel) (mc (by decide +kernel) (m1 (by decide +kernel))))))
  (fc (yz (b:="13") h32 h10 rfl (by decide +kernel) (by decide) (by decide) (by decide +kernel) (by decide +kernel) (by decide +kernel))
  (fc (.of (cg ["1",mk1 c,"13"] (mc (by decide +kernel) (mc hc (m1 (by decide +kernel))))))
  (fc (yz (b:="100") h32 h10 rfl (by decide +kernel) (by decide) (by decide) (by decide +kernel) (by decide +kernel) (by decide +kernel))
  (f0))))))))
def L7:∀t∈[PyData.str "",PyData.str " ",PyData.str "x",PyData.str "1",PyData.str ("2 "++mk1 c),PyData.str ("01 "++mk1 c),PyData.str "-1",PyData.str ("+1 "++mk1 c),PyData.str ("1 "++mk1 c++" 1")]++([PyData.str "1  ",PyData.str ("1 "++Txt.mul (mk1 c) 7),PyData.str ("1_0 "++Str.join ⟨#[32]⟩ (List.replicate 10 (mk1 c))),PyData.str ("_1 "++mk1 c),PyData.str ("1_ "++mk1 c),PyData.str "0_0",PyData.str ("2 "++mk1 c++" "++mk1 c),PyData.str "0 0 0 0 0 0",PyData.str ("0 0 0 0 0 1 "++mk1 c)]++([PyData.str "00",PyData.str ("1 "++mk1 c++" "),PyData.str "0 ",PyData.str ("2 "++mk1 c++" "++Txt.mul (mk1 c) 2++" 0"),PyData.str ("2 "++Txt.mul (mk1 c) 2++" "++mk1 c++" 1 "++mk1 c),PyData.str "10",PyData.str "0 -",PyData.str "0 x"]++([PyData.str ("0 2 "++mk1 c++" "++Txt.mul (mk1 c) 2++" 1 "++Txt.mul (mk1 c) 2),PyData.str ("1 "++mk1 c++" 00"),PyData.str "plan",PyData.str ("12 "++mk1 c),PyData.str "0  0",PyData.str ("13"++" "++Str.join ⟨#[32]⟩ (List.replicate 13 (mk1 c))),PyData.str ("1 "++mk1 c++" 13"),PyData.str ("100 "++Str.join ⟨#[32]⟩ (List.replicate 100 (mk1 c)))]))),NL L t:=by
 intro t ht;rcases zax.mp ht with ht|ht
 ·exact fx0 h32 h10 t ht
 ·rcases zax.mp ht with ht|ht
  ·exact fx1 h32 h10 t ht
  ·rcases zax.mp ht with ht|ht
   ·exact fx2 h32 h10 t ht
   ·exact fx3 h32 h10 t ht
def Eo{d:Nat}(hd:d≠32)(hd':d≠10)(hL:d∉L):NL L (.str ("1 "++mk1 d))/\NL L (.str ("2 "++mk1 c++" "++mk1 c++mk1 d)):=by
 have hc:=mD h32 h10;have hdn:=mD hd hd';have h2:nb (mk1 c++mk1 d):=⟨fun h=>by rw[aW]at h;rcases zax.mp h with h|h;exact hc.1 h;exact hdn.1 h,fun h=>by rw[aW]at h;rcases zax.mp h with h|h;exact hc.2 h;exact hdn.2 h⟩;refine⟨.of (j7 ["1",mk1 d] [[mk1 d]] (List.forall_mem_cons.mpr ⟨by decide +kernel,fun w hw=>by rw[zaH.mp hw];exact hdn⟩) fun q=>?_),.of (j7 ["2",mk1 c,mk1 c++mk1 d] [[mk1 c,mk1 c++mk1 d]] (List.forall_mem_cons.mpr ⟨by decide +kernel,List.forall_mem_cons.mpr ⟨hc,fun w hw=>by rw[zaH.mp hw];exact h2⟩⟩) fun q=>?_)⟩
 ·exact hL ((((dU q).2.1 _ (zaq ..)).2.2 _ (zaq ..)).2 d (zaq ..))
 ·exact hL ((((dU q).2.1 _ (zaq ..)).2.2 _ (zaj _ (zaq ..))).2 d (by rw[aW];exact zbf _ (zaq ..)))
end
def adL(a:Str):D->D
 |.str w=>.str (a++w)
 |_=>.none
def AO(T:TX ks){Q:D×En->Prop}(h:∀ts,(∀t∈ts,NL (aw ks) t)->ts.length<=50->Q (.list ts,[none])):W (dD [tD ks]) Q:=by
 obtain⟨z,r,rfl⟩:∃z r,ks=z::r:=by
  cases ks with
  |nil=>exact absurd T.t.l1 (by decide)
  |cons z r=>exact⟨z,r,rfl⟩
 obtain⟨c,y,hz⟩:∃c y,li z=c::y:=by
  cases e:li z with
  |nil=>exact absurd e (T.f z (zaq ..))
  |cons c y=>exact⟨c,y,rfl⟩
 have lz:(li z).length<=12:=by
  have:=T.t.l12;simp only[aw,zar,List.flatten_cons,zae]at this;omega
 have sz':z.length<=sizeLine:=by rw[<-ll];exact szG (by omega)
 have e0:atI (li z) 0=some c:=by rw[show(0:Int)=((0:Nat):Int)from rfl,mX,hz];rfl
 have ej:=rq T.t;simp only[dD,kO,ws];have ei:ixA (tD (z::r)) (.int 0)=some (.str z):=weq (by
  simp only[tD,ws];exact W.of (show(List.map PyData.str (z::r))[0]?=some (.str z)from rfl) rfl)
 refine W.of ei ?_;simp only[ws,e0];refine⟨sz',?_⟩;have jL:∀n:Nat,n<=100->joinD " " [.list (List.replicate n [PyData.str (mk1 c)]).flatten]=some (.str (Str.join ⟨#[32]⟩ (List.replicate n (mk1 c)))):=fun n hn=>by
  have e1:(List.replicate n [PyData.str (mk1 c)]).flatten=(List.replicate n (mk1 c)).map PyData.str:=by
   rw[List.map_replicate];clear hn
   induction n with
   |zero=>rfl
   |succ n ih=>rw[List.replicate_succ,List.flatten_cons,ih,List.replicate_succ];rfl
  rw[e1];exact jb (c:=32) (B:=1) (fun y hy=>by rw[List.eq_of_mem_replicate hy];exact zav _) (by rw[zaN];omega)
 refine⟨⟨by show 1<=4000;decide,by decide,by decide⟩,jV (fun t=>match t with|.str w=>!ck (sgs (z::r)) w|_=>false) (fun t=>t) (szG (by decide)) (fun t ht=>?_) (fun t ht _=>by simp only[ws,jw]) fun o=>?_⟩
 ·obtain⟨d,hd,rfl⟩:=zaz.mp ht;simp only[jh,ws,ej]
 rw[List.map_id'];generalize hS:List.filter _ (dH "aZ0~")=ss;have jl:∀n:Nat,n<=100->(Str.join ⟨#[32]⟩ (List.replicate n (mk1 c))).length<=200:=fun n hn=>by
  have:=qV c n;rw[ll]at this;omega
 have mL:∀n:Nat,n<=100->mE (.list [PyData.str (mk1 c)]) (.int (n:Nat))=some (.list (List.replicate n [PyData.str (mk1 c)]).flatten):=fun n hn=>by
  have k1:[PyData.str (mk1 c)].length*n<=sizeLine:=szG (by show 1*n<=_;omega);have k2:(-(2 ^ 63:Int)<=(n:Int)/\(n:Int)<2 ^ 63):=⟨by omega,by omega⟩;show grd (_/\_/\_) (PyData.list (List.replicate (n:Int).toNat [PyData.str (mk1 c)]).flatten)=_;rw[zaL];exact if_pos ⟨k2.1,k2.2,k1⟩
 have m10:mE (.list [PyData.str (mk1 c)]) (.int 10)=_:=mL 10 (by decide);have m13:mE (.list [PyData.str (mk1 c)]) (.int 13)=_:=mL 13 (by decide);have m100:mE (.list [PyData.str (mk1 c)]) (.int 100)=_:=mL 100 (by decide);have j10:=jL 10 (by decide);have j13:=jL 13 (by decide);have j100:=jL 100 (by decide);have l10:=jl 10 (by decide);have l13:=jl 13 (by decide);have l100:=jl 100 (by decide);generalize (List.replicate 10 [PyData.str (mk1 c)]).flatten=t10 at j10 m10;generalize (List.replicate 13 [PyData.str (mk1 c)]).flatten=t13 at j13 m13;generalize (List.replicate 100 [PyData.str (mk1 c)]).flatten=t100 at j100 m100;generalize gy10:Str.join ⟨#[32]⟩ (List.replicate 10 (mk1 c))=y10 at j10 l10;generalize gy13:Str.join ⟨#[32]⟩ (List.replicate 13 (mk1 c))=y13 at j13 l13;generalize gy100:Str.join ⟨#[32]⟩ (List.replicate 100 (mk1 c))=y100 at j100 l100;have c32:c≠32/\c≠10:=by
  have:=T.c c (by simp only[aw,zar,List.flatten_cons,hz];exact zbe _ (zaq ..));exact⟨this.1,this.2.1⟩
 have lss:ss.length<=4:=by
  rw[<-hS];exact List.length_filter_le _ _
 have hs:∀t∈ss,∃d,t=.str (mk1 d)/\d≠32/\d≠10/\d∉aw (z::r):=fun t ht=>by
  rw[<-hS]at ht;obtain⟨h1,h2⟩:=zby.mp ht;obtain⟨d,hd,rfl⟩:=zaz.mp h1;have k:∀d∈li "aZ0~",d≠32/\d≠10:=by decide +kernel
  refine⟨d,rfl,(k d hd).1,(k d hd).2,fun hm=>?_⟩;have h3:ck (sgs (z::r)) (mk1 d)=true:=(Kl _ _).mpr (by
   obtain⟨a,b,e⟩:=List.append_of_mem hm;show[d] <:+: li (sgs (z::r));rw[show li (sgs (z::r))=aw (z::r)from p0 _,e];exact⟨a,b,by simp⟩)
  replace h2:(!ck (sgs (z::r)) (mk1 d))=true:=h2
  rw[h3]at h2;cases h2
 simp only[ws,m10,m13,m100,j10,j13,j100]
 repeat' refine And.intro ?_ ?_
 all_goals first
  |exact szG (Nat.le_of_ble_eq_true rfl)
  |exact szG (zau (Nat.add_le_add_left l10 _) (Nat.le_of_ble_eq_true rfl))
  |exact szG (zau (Nat.add_le_add_left l13 _) (Nat.le_of_ble_eq_true rfl))
  |exact szG (zau (Nat.add_le_add_left l100 _) (Nat.le_of_ble_eq_true rfl))
  |decide
  |exact Nat.le_of_ble_eq_true rfl
  |skip
 generalize hG:(PyData.str ""::_:List D)=ts0;have l0:ts0.length=34:=by rw[<-hG];rfl
 have F:∀t∈ts0,NL (aw (z::r)) t:=by
  rw[<-hG,<-gy10,<-gy13,<-gy100];exact L7 c32.1 c32.2
 clear hG;refine fG (adL "1 ") (szG (by omega)) (fun t ht=>?_) fun o1=>?_
 ·obtain⟨d,rfl,-⟩:=hs t ht;simp only[ws,jv,adL]
  first|exact⟨szG (Nat.le_of_ble_eq_true rfl),rfl⟩|exact szG (Nat.le_of_ble_eq_true rfl)
 simp only[ws];refine⟨szG (by omega),fG (adL ("2 "++mk1 c++" "++mk1 c)) (szG (by omega)) (fun t ht=>?_) fun o2=>?_⟩
 ·obtain⟨d,rfl,-⟩:=hs t ht;simp only[ws,ju,adL];exact⟨szG (Nat.le_of_ble_eq_true rfl),szG (Nat.le_of_ble_eq_true rfl),szG (Nat.le_of_ble_eq_true rfl),szG (Nat.le_of_ble_eq_true rfl)⟩
 simp only[ws];refine⟨szG (by simp only[zae,zad];omega),h _ (fun t ht=>?_) (by simp only[zae,zad];omega)⟩;rcases zax.mp ht with ht|ht
 ·rcases zax.mp ht with ht|ht
  ·exact F t ht
  ·obtain⟨u,hu,rfl⟩:=zaz.mp ht;obtain⟨d,rfl,d1,d2,d3⟩:=hs u hu;exact(Eo c32.1 c32.2 d1 d2 d3).1
 ·obtain⟨u,hu,rfl⟩:=zaz.mp ht;obtain⟨d,rfl,d1,d2,d3⟩:=hs u hu;exact(Eo c32.1 c32.2 d1 d2 d3).2
def Fx(T:TX ks)(hs:∀ps∈pls,SX ps)(l3:pls.length<=2)(h:NoL (aw ks) z):Rf ks (.str (ptx pls++"\n"++z)):=by
 refine wU T ⟨?_,?_,?_⟩ (Ft T hs h.n h.b)
 ·have:=(qX hs l3).1
  have:=h.l;rw[aW,aW,zae,zae,show(li "\n").length=1 from rfl];omega
 ·rw[rn hs h.n,zae,zac,zad];show _+1<=990;omega
 ·rw[rn hs h.n];intro y hy;have hl:=h.l;rcases zax.mp hy with hy|hy
  ·rcases zay.mp hy with rfl|hy
   ·exact Nat.le_of_ble_eq_true rfl
   ·obtain⟨ps,hp,rfl⟩:=zaz.mp hy
    have:=vV (hs ps hp);omega
  ·rw[zaH.mp hy];omega
def AT:J2 ye:=by
 intro ns hl
 suffices W (ye [.list (ns.map .int)]) (fun r=>∃ψ,r=(.bool true,ψ))by
  obtain⟨r,e,ψ,rfl⟩:=this.ex;exact⟨ψ,e⟩
 simp only[ws,ye,Ls];refine xV (k:=0) fun p hp=>?_;simp only[ws];refine W.use (Lo hp (by omega)) ?_;rintro _ ⟨ks,p1,rfl,T,hp1⟩;simp only[ws];refine W.use (Fg T hp1 (by omega)) ?_;rintro _ ⟨pls,p2,rfl,g,l2,hp2⟩;have hs:∀ps∈pls,SX ps:=fun ps hp=>SX.of T (g.w ps hp);obtain⟨m1,m2⟩:=qX hs l2;have A:Ask (ptx pls):=ii (by omega);have rd:=zO T A (EY T g);have lx:=ll (ptx pls);simp only[ws];refine W.use (vR hs g.l3) ?_;rintro _ rfl;simp only[ws];refine xV (k:=28) fun q0 hq0=>?_;simp only[ws];refine W.use rd ?_;rintro _ rfl;simp only[ws];refine W.use (vX T g) ?_;rintro _ rfl;simp only[ws];refine Au T hq0 (by omega) g l2 fun ts q1 ht htl hq1=>?_;simp only[ws];refine jU (fun i en=>∃q o5,en=[some (.list (ns.map .int)),some q,some (tD ks),some (.tuple (pls.map sD)),some (.str (ptx pls)),o5,none,none]/\Pn (29+i) q) ⟨q1,none,rfl,hq1⟩ (fun i t en hi ⟨q,o5,e,hq⟩=>?_) fun en ⟨q,o5,e,hq⟩=>?_
 ·subst e;have hil:i<ts.length:=by
   obtain⟨k,-⟩:=zah.mp hi;exact k
  simp only[ws,An];refine bR hq (by omega) (by decide) (by decide) fun w q' _ _ hq'=>?_;simp only[ws];refine W.use (pR (ht t (zaX hi))) ?_;rintro _ rfl;simp only[ws];exact⟨q',_,rfl,hq'⟩
 subst e;simp only[ws];refine AO T fun us hu hul=>?_;simp only[ws];refine jU (fun i en=>∃q o6,en=[some (.list (ns.map .int)),some q,some (tD ks),some (.tuple (pls.map sD)),some (.str (ptx pls)),o5,o6,none]/\Pn (69+i) q) ⟨q,none,rfl,hq.mono (by omega)⟩ (fun i t en hi ⟨q,o6,e,hq⟩=>?_) fun en ⟨q,o6,e,hq⟩=>?_
 ·subst e;have hil:i<us.length:=by
   obtain⟨k,-⟩:=zah.mp hi;exact k
  obtain⟨z,rfl,hz⟩:=hu t (zaX hi);have zl:=hz.l;rw[ll]at zl;simp only[ws,Am];refine⟨szG (by show _+1<=_;omega),szG (by rw[i5];show _+1+_<=_;omega),?_⟩;refine bR hq (by omega) (by decide) (by decide) fun w q' _ _ hq'=>?_;simp only[ws];refine W.use (pR (Fx T hs l2 hz)) ?_;rintro _ rfl;simp only[ws];exact⟨q',_,rfl,hq'⟩
 subst e;simp only[ws];refine⟨⟨by decide,by decide⟩,?_⟩;have e24:Int.toNat 24=24:=rfl;rw[e24];refine jU (fun i en=>∃q o7,en=[some (.list (ns.map .int)),some q,some (tD ks),some (.tuple (pls.map sD)),some (.str (ptx pls)),o5,o6,o7]/\Pn (119+3*i) q) ⟨q,none,rfl,hq.mono (by omega)⟩ (fun i t en hi ⟨q,o7,e,hq⟩=>?_) fun en ⟨q,o7,e,hq⟩=>?_
 ·subst e;obtain⟨hi,rfl⟩:=ge hi;simp only[ws,Al];refine xQ hq (by omega) m2 m1 fun y q' yl hq'=>?_;simp only[ws];refine W.use (BI T (ii (by omega))) ?_;rintro _ rfl;simp only[ws];exact⟨q',_,rfl,hq'⟩
 subst e;simp only[ws];refine W.use rd ?_;rintro _ rfl;simp only[ws];refine W.use (vX T g) ?_;rintro _ rfl;simp only[ws];exact⟨_,rfl⟩
end W59
set_option maxHeartbeats 4000000
namespace W59
variable{w:World}{K:zbS}{mg:Str->Option Value}{h:Heap}
open PySem L2
def ut{α β:Type}{us:List α}{x0:β}(h:us.length=[x0].length):∃a0,us=[a0]:=by
 cases us with
 |nil=>cases h
 |cons a0 r=>exact⟨a0,by rw[za6.mp (show r.length=0 from Nat.succ.inj h)]⟩
def MU{α β:Type}{us:List α}{x0 x1:β}(h:us.length=[x0,x1].length):∃a0 a1,us=[a0,a1]:=by
 cases us with
 |nil=>cases h
 |cons a0 r=>obtain⟨a1,rfl⟩:=ut (us:=r) (x0:=x1) (Nat.succ.inj h);exact⟨a0,a1,rfl⟩
section
variable{P:Program}{base:Heap}{k dr:Nat}{x:Str}{ps:List Str}{dps:List Nat}{f:Addr}{st:Stmt}{sp:L2.Sp}
abbrev Ln(x:Str)(st:Stmt)(ps:List Str):Prop:=∀(kV doc pm:Value) (an:Option Addr) (cdv ct:Value) (us:List Value),us.length=ps.length->bindArgs (PySem.W.fnOf x x (dB st) (bW st) (ak st) .none kV doc pm an cdv ct) ⟨us,[]⟩=pure (ps.zip us)
def _root_.L2.Kn.up{j:Nat}(G:Kn P w K mg base j x ps sp)(h:j<=k:=by decide):Kn P w K mg base k x ps sp:=G.mono h
def knA(d:Df K x st f)(X:K.In h)(G:h.Ns mainGlobals mg)(ok:∀fd,Fun K x x st f fd->FnOk P w K mg base CX0 k f fd ps sp)(b:Ln x st ps:=by intro _ _ _ _ _ _ us hl;rcases us with _|⟨_,_|⟨_,_|⟨_,_|⟨_,_|⟨_,_⟩⟩⟩⟩⟩<;>first|rfl|cases hl):Kn P w K mg base k x ps sp:=d.kn X G b ok
def LW(d:Df K x st f)(X:K.In h)(G:h.Ns mainGlobals mg)(b:Ln x st ps:=by intro _ _ _ _ _ _ us hl;rcases us with _|⟨_,_|⟨_,_|⟨_,_|⟨_,_|⟨_,_⟩⟩⟩⟩⟩<;>first|rfl|cases hl):Kn P w K mg base k x ps (spF K dps dr fun _=>none):=d.none X G b
end
def all_mk{l:PySem.W.OpenLaw}{fa f0 f1 f2 f3 f4 f5 f6 f7 f8 f9 f10 f11 f12 f13 f14 f15 f16 f17 f18 f19 f20 f21 f22 f23 f24 f25 f26 f27 f28 f29 f30 f31:Addr}{tk0:Tok}{tk1:Tok}{tk2:Tok}{tk3:Tok}{tk4:Tok}{tk5:Tok}{tk6:Tok}(X:K.In h)(G:h.Ns mainGlobals mg)(hfa:mg "law"=some (.ref fa))
  (d0:Df K "_law_pen" m6 f0)
  (d1:Df K "_law_mixed" ki f1)
  (d2:Df K "_law_take" lT f2)
  (d3:Df K "_law_tongue" gu f3)
  (d4:Df K "_law_any_tongue" fV f4)
  (d5:Df K "_law_part" gw f5)
  (d6:Df K "_law_plan" iW f6)
  (d7:Df K "_law_text" lR f7)
  (d8:Df K "_law_no_texts" e9 f8)
  (d9:Df K "_law_no_lines" cz f9)
  (d10:Df K "_law_same" iV f10)
  (d11:Df K "word_ahead" gZ f11)
  (d12:Df K "is_number_text" eD f12)
  (d13:Df K "number_ahead" fL f13)
  (d14:Df K "part_ahead" fH f14)
  (d15:Df K "step_of" lL f15)
  (d16:Df K "are_unlike" kh f16)
  (d17:Df K "signs_of" m5 f17)
  (d18:Df K "is_word" lN f18)
  (d19:Df K "is_told_word" iB f19)
  (d20:Df K "is_part" lQ f20)
  (d21:Df K "words_that_begin" dz f21)
  (d22:Df K "none_begins_another" cu f22)
  (d23:Df K "is_step" ji f23)
  (d24:Df K "is_plan" lP f24)
  (d25:Df K "read_plan" dN f25)
  (d26:Df K "_law_is_refused" fU f26)
  (d27:Df K "show_step" lM f27)
  (d28:Df K "show_plan" iU f28)
  (d29:Df K "_law_shown_again" fy f29)
  (d30:Df K "_law_changed" iC f30)
  (d31:Df K "law" pz f31)
  (y0:PySem.W.nsIn K mainGlobals "MOST_FIGURES"=some (some (.int 80 tk0)))
  (y1:PySem.W.nsIn K mainGlobals "FIGURES"=some (some (.str "0123456789" tk1)))
  (y2:PySem.W.nsIn K mainGlobals "MOST_SIGNS_OF_A_WORD"=some (some (.int 60 tk2)))
  (y3:PySem.W.nsIn K mainGlobals "MOST_SIGNS_TOLD"=some (some (.int 6 tk3)))
  (y4:PySem.W.nsIn K mainGlobals "MOST_WORDS_OF_A_PART"=some (some (.int 12 tk4)))
  (y5:PySem.W.nsIn K mainGlobals "MOST_PARTS"=some (some (.int 5 tk5)))
  (y6:PySem.W.nsIn K mainGlobals "MOST_STEPS"=some (some (.int 3 tk6)))
  (qNoText:PySem.W.nsIn K mainGlobals "NoText"=some (some (.ref (clK K "NoText"))))
  (qWordError:PySem.W.nsIn K mainGlobals "WordError"=some (some (.ref (clK K "WordError"))))
  (qNoTongue:PySem.W.nsIn K mainGlobals "NoTongue"=some (some (.ref (clK K "NoTongue"))))
  (qNoSentence:PySem.W.nsIn K mainGlobals "NoSentence"=some (some (.ref (clK K "NoSentence"))))
  (qTooMany:PySem.W.nsIn K mainGlobals "TooMany"=some (some (.ref (clK K "TooMany"))))
  (qTooMuch:PySem.W.nsIn K mainGlobals "TooMuch"=some (some (.ref (clK K "TooMuch"))))
  (qNoNumber:PySem.W.nsIn K mainGlobals "NoNumber"=some (some (.ref (clK K "NoNumber"))))
  (qNoWord:PySem.W.nsIn K mainGlobals "NoWord"=some (some (.ref (clK K "NoWord"))))
  (qNoFit:PySem.W.nsIn K mainGlobals "NoFit"=some (some (.ref (clK K "NoFit"))))
  (qElder:PySem.W.nsIn K mainGlobals "Elder"=some (some (.ref (clK K "Elder"))))
  (qNear:PySem.W.nsIn K mainGlobals "Near"=some (some (.ref (clK K "Near"))))
  (qNoBack:PySem.W.nsIn K mainGlobals "NoBack"=some (some (.ref (clK K "NoBack"))))
  (qNoLine:PySem.W.nsIn K mainGlobals "NoLine"=some (some (.ref (clK K "NoLine"))))
  (qNoName:PySem.W.nsIn K mainGlobals "NoName"=some (some (.ref (clK K "NoName"))))
  (rNoText:PySem.W.excIn K (clK K "NoText") vE "ValueError.__new__"=true)
  (rWordError:PySem.W.excIn K (clK K "WordError") vE "ValueError.__new__"=true)
  (bNoText:xL K kn0 "NoText"=true)
  (bWordError:xL K kn0 "WordError"=true)
  (tValueError:kT K kn0 eF (.type "ValueError")=true)
  (tNoText:kT K kn0 i8 (.ref (clK K "NoText"))=true)
  (tt0:oP K kn0 xt0 (List.map Value.ref [clK K "NoTongue",clK K "NoSentence",clK K "TooMany",clK K "TooMuch",clK K "NoNumber",clK K "NoWord",clK K "NoFit",clK K "Elder",clK K "Near",clK K "NoBack"])=true)
  (tt1:oP K kn0 xt1 (List.map Value.ref [clK K "NoLine",clK K "NoName"])=true)
  (z0:PySem.W.nsIn K mainGlobals "ValueError"=some none)
  (z1:PySem.W.nsIn K mainGlobals "abs"=some none)
  (z2:PySem.W.nsIn K mainGlobals "all"=some none)
  (z3:PySem.W.nsIn K mainGlobals "bool"=some none)
  (z4:PySem.W.nsIn K mainGlobals "int"=some none)
  (z5:PySem.W.nsIn K mainGlobals "isinstance"=some none)
  (z6:PySem.W.nsIn K mainGlobals "len"=some none)
  (z7:PySem.W.nsIn K mainGlobals "list"=some none)
  (z8:PySem.W.nsIn K mainGlobals "max"=some none)
  (z9:PySem.W.nsIn K mainGlobals "min"=some none)
  (z10:PySem.W.nsIn K mainGlobals "range"=some none)
  (z11:PySem.W.nsIn K mainGlobals "repr"=some none)
  (z12:PySem.W.nsIn K mainGlobals "set"=some none)
  (z13:PySem.W.nsIn K mainGlobals "str"=some none)
  (z14:PySem.W.nsIn K mainGlobals "tuple"=some none)
  (z15:PySem.W.nsIn K mainGlobals "zip"=some none):
  ∃fd:FuncData,(∀(s:Shared) (v:Value),BindsTo s fd ⟨[v],[]⟩ [("_law_script",v)])/\∀base:Heap,K.In base->base.Ns mainGlobals mg->FnOk l.prog w K mg base CX0 9 fa fd ["_law_script"] (pJ K):=by
 have e:=hfa.symm.trans (za8 X G d31.a);cases e;have v0:=za8 X G y0;have v1:=za8 X G y1;have v2:=za8 X G y2;have v3:=za8 X G y3;have v4:=za8 X G y4;have v5:=za8 X G y5;have v6:=za8 X G y6;have mqNoText:=za8 X G qNoText;have mqWordError:=za8 X G qWordError;have mqNoTongue:=za8 X G qNoTongue;have mqNoSentence:=za8 X G qNoSentence;have mqTooMany:=za8 X G qTooMany;have mqTooMuch:=za8 X G qTooMuch;have mqNoNumber:=za8 X G qNoNumber;have mqNoWord:=za8 X G qNoWord;have mqNoFit:=za8 X G qNoFit;have mqElder:=za8 X G qElder;have mqNear:=za8 X G qNear;have mqNoBack:=za8 X G qNoBack;have mqNoLine:=za8 X G qNoLine;have mqNoName:=za8 X G qNoName;have HNoText:ExcK K mg kn0 "NoText":=⟨bNoText,mqNoText,rNoText⟩;have HWordError:ExcK K mg kn0 "WordError":=⟨bWordError,mqWordError,rWordError⟩;have m:=fun {x:Str} (z:PySem.W.nsIn K mainGlobals x=some none)=>PySem.W.mg_none_of X G z;have T:Bl mg:=⟨(m z0),(m z1),(m z2),(m z3),(m z4),(m z5),(m z6),(m z7),(m z8),(m z9),(m z10),(m z11),(m z12),(m z13),(m z14),(m z15)⟩;obtain⟨oc,od,kV,dc,pm,an,cd,ct,sl,ll,lc⟩:=d31.l;have FL:=qc (st:=pz) ll lc d31.k;refine⟨PySem.W.fnOf "law" "law" (dB pz) (bW pz) (ak pz) .none kV dc pm an cd ct,fun s v=>.of_eq rfl,fun base _ _=>?_⟩;have g0:qz l.prog w K mg base 1:=knA d0 X G fun _ F=>w6 (k:=0) T     F;have g1:nh l.prog w K mg base 1:=knA d1 X G fun _ F=>ug (k:=0) T     F;have g2:cw l.prog w K mg base 2:=knA d2 X G fun _ F=>vA (k:=1) T  g1.up   F;have g3:me l.prog w K mg base 3:=knA d3 X G fun _ F=>sL (k:=2) T  g2.up   F;have g4:iG l.prog w K mg base 4:=knA d4 X G fun _ F=>n8 (k:=3) T  g3.up g2.up   F;have g5:oG l.prog w K mg base 3:=knA d5 X G fun _ F=>vC (k:=2) T  g2.up   F;have g6:oF l.prog w K mg base 4:=knA d6 X G fun _ F=>vB (k:=3) T  g2.up g5.up   F;have g7:kj l.prog w K mg base 1:=knA d7 X G fun _ F=>vz (k:=0) T     F;have g8:jW l.prog w K mg base 3:=knA d8 X G fun _ F=>pU (k:=2) T  g7.up g2.up   F;have g9:jX l.prog w K mg base 1:=knA d9 X G fun _ F=>pV (k:=0) T     F;have g10r0:Kn l.prog w K mg base 0 "_law_same" ["_law_got","_law_due"] (spF K [0,0] 3 (aX 0)):=LW d10 X G;have g10r1:Kn l.prog w K mg base 1 "_law_same" ["_law_got","_law_due"] (spF K [0,0] 3 (aX 1)):=knA d10 X G fun _ F=>dS (k:=0) T  g10r0 F;have g10r2:Kn l.prog w K mg base 2 "_law_same" ["_law_got","_law_due"] (spF K [0,0] 3 (aX 2)):=knA d10 X G fun _ F=>dS (k:=1) T  g10r1 F;have g10r3:Kn l.prog w K mg base 3 "_law_same" ["_law_got","_law_due"] (spF K [0,0] 3 (aX 3)):=knA d10 X G fun _ F=>dS (k:=2) T  g10r2 F;have g10r4:Kn l.prog w K mg base 4 "_law_same" ["_law_got","_law_due"] (spF K [0,0] 3 (aX 4)):=knA d10 X G fun _ F=>dS (k:=3) T  g10r3 F;have g10r5:Kn l.prog w K mg base 5 "_law_same" ["_law_got","_law_due"] (spF K [0,0] 3 (aX 5)):=knA d10 X G fun _ F=>dS (k:=4) T  g10r4 F;have g10:Kn l.prog w K mg base 6 "_law_same" ["_law_got","_law_due"] (spF K [0,0] 3 (aX 6)):=knA d10 X G fun _ F=>dS (k:=5) T  g10r5 F;have g11:jj l.prog w K mg base 1:=knA d11 X G fun _ F=>ud (k:=0) T     F;have g11N:KnX l.prog w K mg base 1 "word_ahead" ["left"] (spN K [1] (clK K) bK):=d11.knX X G (fun _ _ _ _ _ _ us hl=>by obtain⟨a0,rfl⟩:=ut hl;rfl) fun _ F=>uX (k:=0) T   mqNoText rNoText F;have g12:jk l.prog w K mg base 1:=knA d12 X G fun _ F=>pd (k:=0) T v0 v1    F;have g13:kG l.prog w K mg base 2:=knA d13 X G fun _ F=>rf (k:=1) T  g11.up g12.up   F;have g13N:KnX l.prog w K mg base 2 "number_ahead" ["left"] (spN K [1] (clK K) bI):=d13.knX X G (fun _ _ _ _ _ _ us hl=>by obtain⟨a0,rfl⟩:=ut hl;rfl) fun _ F=>rE (k:=1) T  g11.up g12.up (g11N.mono (by decide)) mqNoText rNoText F;have g14:m7 l.prog w K mg base 3:=knA d14 X G fun _ F=>ue (k:=2) T  g13.up g11.up   F;have g14N:KnX l.prog w K mg base 3 "part_ahead" ["left"] (spN K [1] (clK K) bz):=d14.knX X G (fun _ _ _ _ _ _ us hl=>by obtain⟨a0,rfl⟩:=ut hl;rfl) fun _ F=>uY (k:=2) T  g13.up g11.up (g13N.mono (by decide)) mqNoText rNoText F;have g15:su l.prog w K mg base 4:=knA d15 X G fun _ F=>yI (k:=3) T  g14.up   F;have g15N:KnX l.prog w K mg base 4 "step_of" ["text"] (spN K [0] (clK K) b8):=d15.knX X G (fun _ _ _ _ _ _ us hl=>by obtain⟨a0,rfl⟩:=ut hl;rfl) fun _ F=>zX (k:=3) T  g14.up (g14N.mono (by decide)) F;have g16:m9 l.prog w K mg base 1:=knA d16 X G fun _ F=>uf (k:=0) T     F;have g17:qy l.prog w K mg base 1:=knA d17 X G fun _ F=>w4 (k:=0) T     F;have g18:sv l.prog w K mg base 2:=knA d18 X G fun _ F=>yJ (k:=1) T v2 g17.up   F;have g19:kH l.prog w K mg base 3:=knA d19 X G fun _ F=>rg (k:=2) T v3 g18.up   F;have g20:sy l.prog w K mg base 4:=knA d20 X G fun _ F=>yM (k:=3) T v4 g16.up g19.up   F;have g21:ij l.prog w K mg base 1:=knA d21 X G fun _ F=>mB (k:=0) T     F;have g22:gh l.prog w K mg base 2:=knA d22 X G fun _ F=>kw (k:=1) T  g21.up   F;have g23:sw l.prog w K mg base 5:=knA d23 X G fun _ F=>yK (k:=4) T v5 g20.up g22.up   F;have g24:m8 l.prog w K mg base 6:=knA d24 X G fun _ F=>yL (k:=5) T v6 g23.up   F;have g25:hU l.prog w K mg base 7:=knA d25 X G fun _ F=>vy (k:=6) T  g15.up g24.up   F;have g25N:KnX l.prog w K mg base 7 "read_plan" ["tongue","text"] (spN K [0,0] (clK K) aJ):=d25.knX X G (fun _ _ _ _ _ _ us hl=>by obtain⟨a0,a1,rfl⟩:=MU hl;rfl) fun _ F=>vI (k:=6) T  g15.up g24.up (g15N.mono (by decide)) mqNoText rNoText F;have g26:iF l.prog w K mg base 8:=knA d26 X G fun _ F=>n6 (k:=7) T  g25.up (g25N.mono (by decide)) HNoText HWordError tValueError mqNoText tNoText mqNoTongue mqNoSentence mqTooMany mqTooMuch mqNoNumber mqNoWord mqNoFit mqElder mqNear mqNoBack tt0 mqNoLine mqNoName tt1  F;have g27:oB l.prog w K mg base 1:=knA d27 X G fun _ F=>vw (k:=0) T     F;have g28:oE l.prog w K mg base 2:=knA d28 X G fun _ F=>vx (k:=1) T  g27.up   F;have g29:ik l.prog w K mg base 8:=knA d29 X G fun _ F=>mC (k:=7) T  g25.up g24.up g28.up (g25N.mono (by decide)) HNoText  F;have g30:kI l.prog w K mg base 3:=knA d30 X G fun _ F=>rh (k:=2) T  g2.up   F;exact(LS (k:=8) T  g0.up g4.up g6.up g7.up g8.up g9.up g10.up g25.up g26.up g29.up g2.up g30.up   FL).imp fun vs H Q E h=>J1 AT h
def walk{l:PySem.W.OpenLaw}{q:Program}{f':List Str}{XP:(Str->Option Value)->Heap->Prop}{YP:World->Heap->Prop}{d:DefRec}{K:Params->zbS}(hn:l.most=some 63)(hdf:d.params.defaults=[])(hq:PyProof.Rows.importsNone q=true)
  (hY:∀(w:World) (h:Heap),YP w h->(K w.params).In h)
  (F:∀(w:World) (mg:Str->Option Value) (fa:Addr) (h:Heap),(K w.params).In h->h.Ns mainGlobals mg->mg d.name=some (.ref fa) ->
   ∃fd:FuncData,(∀(s:Shared) (u:Value),BindsTo s fd ⟨[u],[]⟩ [("_law_script",u)])/\∀base:Heap,(K w.params).In base->base.Ns mainGlobals mg->FnOk l.prog w (K w.params) mg base CX0 9 fa fd ["_law_script"] (pJ (K w.params))):
  PySem.W.WalkO q f' XP YP l.row.toRowW d [] (fun f vs=>PySem.call f vs):=
 L2.walk_of (n:=63) (k:=9) (x:="_law_script") (CX:=fun _=>CX0) (sp:=fun w=>pJ (K w.params)) hn (by decide) hdf ⟨rfl,by decide,by decide,rfl⟩ hq hY F (fun _ _ a ns hl hO hS=>⟨a,ns,rfl,hS,hO,hl,fun _=>rfl⟩) fun _ _ _ _ _ z=>z
end W59
open PySem PySem.W PyProof.Rows
set_option maxRecDepth 100000 in
set_option maxHeartbeats 0 in
theorem PySem.Challenge.cw_wordrules_k59_no_plan_texts_holds : PySem.Challenge.rw_wordrules_k59_no_plan_texts.Holds := by
 w_on;o_law;k_head;(case hw=>w_witness2)
 k_fill
 refine W59.walk (l:=PySem.Challenge.rw_wordrules_k59_no_plan_texts) rfl rfl rfl (fun w h Y=>PySem.W.kIn_of Y) ?F
 case F=>
  intro w mg fa h KX G hmg;refine' W59.all_mk KX G hmg (.mk' ?_ ?_ ?_ ?_) (.mk' ?_ ?_ ?_ ?_) (.mk' ?_ ?_ ?_ ?_) (.mk' ?_ ?_ ?_ ?_) (.mk' ?_ ?_ ?_ ?_) (.mk' ?_ ?_ ?_ ?_) (.mk' ?_ ?_ ?_ ?_) (.mk' ?_ ?_ ?_ ?_) (.mk' ?_ ?_ ?_ ?_) (.mk' ?_ ?_ ?_ ?_) (.mk' ?_ ?_ ?_ ?_) (.mk' ?_ ?_ ?_ ?_) (.mk' ?_ ?_ ?_ ?_) (.mk' ?_ ?_ ?_ ?_) (.mk' ?_ ?_ ?_ ?_) (.mk' ?_ ?_ ?_ ?_) (.mk' ?_ ?_ ?_ ?_) (.mk' ?_ ?_ ?_ ?_) (.mk' ?_ ?_ ?_ ?_) (.mk' ?_ ?_ ?_ ?_) (.mk' ?_ ?_ ?_ ?_) (.mk' ?_ ?_ ?_ ?_) (.mk' ?_ ?_ ?_ ?_) (.mk' ?_ ?_ ?_ ?_) (.mk' ?_ ?_ ?_ ?_) (.mk' ?_ ?_ ?_ ?_) (.mk' ?_ ?_ ?_ ?_) (.mk' ?_ ?_ ?_ ?_) (.mk' ?_ ?_ ?_ ?_) (.mk' ?_ ?_ ?_ ?_) (.mk' ?_ ?_ ?_ ?_) (.mk' ?_ ?_ ?_ ?_) ?_ ?_ ?_ ?_ ?_ ?_ ?_ ?kx0 ?kx1 ?kx2 ?kx3 ?kx4 ?kx5 ?kx6 ?kx7 ?kx8 ?kx9 ?kx10 ?kx11 ?kx12 ?kx13 ?kx14 ?kx15 ?kx16 ?kx17 ?kx18 ?kx19 ?kx20 ?kx21 ?_ ?_ ?_ ?_ ?_ ?_ ?_ ?_ ?_ ?_ ?_ ?_ ?_ ?_ ?_ ?_
  case kx0=>kernel_rfl
  case kx1=>kernel_rfl
  case kx2=>kernel_rfl
  case kx3=>kernel_rfl
  case kx4=>kernel_rfl
  case kx5=>kernel_rfl
  case kx6=>kernel_rfl
  case kx7=>kernel_rfl
  case kx8=>kernel_rfl
  case kx9=>kernel_rfl
  case kx10=>kernel_rfl
  case kx11=>kernel_rfl
  case kx12=>kernel_rfl
  case kx13=>kernel_rfl
  case kx14=>kernel_rfl
  case kx15=>kernel_rfl
  case kx16=>kernel_rfl
  case kx17=>kernel_rfl
  case kx18=>kernel_rfl
  case kx19=>kernel_rfl
  case kx20=>kernel_rfl
  case kx21=>kernel_rfl
  all_goals (try k_is)

