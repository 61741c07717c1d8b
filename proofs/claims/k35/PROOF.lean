import PyProof.Rows.All
import Wide.All
import OpenK.AllK
import Wide.FinOn
import Lean
import PyProof.EqAt
import PyProof.EqKinds
import PyProof.TupleCall
import PyProof.NeKinds
import PyProof.ConsumeWalk
import PyProof.ZipIter
import PyProof.EnumMake
import PyProof.EnumFor
import PyProof.StrWalks
import PyProof.ListStr
import PyProof.SliceStr2
import PyProof.StrBlockI
import PyProof.Rows.StrWeight2
import PyProof.Rows.ZipGen
import PyProof.Rows.StrIndexOr
import PyProof.Draws
import PyProof.RaisesStr
import PyProof.Rows.StrCountLaw
import PyProof.SumWalk
import PyProof.ReprRoads
import PyProof.ReprLen
import PyProof.CallFns
import PyProof.SumAny
import PyProof.SumAnyB
import KE.KRevIter
import PyProof.Rows.SetFrom
import PySem.Challenge.RW_wordrules_k35_one_within_the_other
set_option Elab.async false
set_option linter.all false
set_option maxRecDepth 100000
set_option compiler.extract_closed false
noncomputable section
section
open PySem PyProof.Rows
def zaa:=@Option.bind_eq_some_iff
def zab:=@Option.map_eq_some_iff
def zac:=@List.length_cons
def zad:=@List.length_map
def zae:=@List.length_append
def zaf:=@Heap.get?_push_of_some
def zag:=@Nat.lt_of_lt_of_le
def zah:=@List.getElem?_eq_some_iff
def zai:=@List.size_toArray
def zaj:=@List.mem_cons_of_mem
def zak:=@List.getElem?_eq_getElem
def zal:=@Heap.lt_size
def zam:=@wpAny_bind
def zan:=@Heap.get?_push_size
def zao:=@List.getElem?_map
def zap:=@List.not_mem_nil
def zaq:=@List.mem_cons_self
def zar:=@List.map_cons
def zas:=@List.lookup_cons
def zat:=@Option.some.inj
def zau:=@Nat.le_trans
def zav:=@Nat.le_refl
def zaw:=@Nat.ne_of_lt
def zax:=@List.mem_append
def zay:=@List.mem_cons
def zaz:=@List.mem_map
def zaA:=@decide_eq_false
def zaB:=@decide_eq_true
def zaC:=@List.map_append
def zaE:=@List.length_take
def zaF:=@List.length_drop
def zaH:=@List.mem_singleton
def zaI:=@Nat.lt_irrefl
def zaK:=@List.getElem_mem
def zaL:=@Int.toNat_natCast
def zaN:=@List.length_replicate
def zaO:=@List.getElem?_set_ne
def zaP:=@List.getElem?_set_self
def zaQ:=@List.take_length
def zaR:=@List.map_map
def zaS:=@List.getElem?_append_left
def zaT:=@wpAny_pure
def zaU:=@PySem.mem_of_lookup
def zaV:=@List.length_set
def zaW:=@Nat.le_of_lt
def zaX:=@List.mem_of_getElem?
def zaY:=@Array.length_toList
def zaZ:=@List.cons_append
def za1:=@Prod.mk.injEq
def za3:=@Nat.zero_add
def za5:=@List.getElem?_cons_succ
def za6:=@List.length_eq_zero_iff
def za7:=@PySem.W.mg_none_of
def za8:=@PySem.W.mg_of
def za9:=@Int.emod_nonneg
def zba:=@Int.emod_lt_of_pos
def zbb:=@List.nodup_cons
def zbe:=@List.length_range
def zbf:=@List.mem_append_left
def zbg:=@List.mem_append_right
def zbh:=@List.getD_eq_getElem?_getD
def zbi:=@decide_eq_true_iff
def zbj:=@Nat.zero_le
def zbk:=@Bool.and_self
def zbl:=@List.getElem?_eq_none
def zbm:=@Bool.and_eq_true
def zbn:=@Bool.false_ne_true
def zbo:=@List.find?_cons
def zbp:=@decide_eq_false_iff_not
def zbq:=@List.getElem?_of_mem
def zbr:=@List.mem_range
def zbs:=@List.append_nil
def zbu:=@List.filter_cons_of_pos
def zbv:=@Heap.size_push
def zbw:=@List.map_congr_left
def zbz:=@Heap.get?_update_other
def zbA:=@wpAny_truthy_bool
def zbB:=@wpAny_callSpecial?_slot
def zbC:=@List.mem_filter
def zbD:=@List.getElem?_drop
def zbF:=@List.find?_eq_none
def zbH:=@List.getElem?_append_right
def zbJ:=@Nat.lt_of_le_of_lt
def zbK:=@Int.zero_add
def zbM:=@List.mem_or_eq_of_mem_set
def zbP:=@beq_eq_false_iff_ne
def zbR:=@wpAny_holding
def zbT:=@Bool.and_true
def zbU:=@Bool.and_false
abbrev zbV:=PySem.W.Frag
end
namespace PySem.W.Fast
def tw10077213908362950237:=0
def tw10081061992684860904:=0
def tw1012207851587219935:=0
def tw10297406372360584684:=0
def tw10298039614084269640:=0
def tw10363735581392477212:=0
def tw10382151888183984117:=0
def tw10383585033601119277:=0
def tw1050079857546192216:=0
def tw1052078450872818156:=0
def tw10641185211337710359:=0
def tw10694630560895372931:=0
def tw1073807102753289747:=0
def tw10749813850791302557:=0
def tw10855530824264422526:=0
def tw10942335368877708429:=0
def tw11010209605312416483:=0
def tw11057335616742364773:=0
def tw11062271060438603372:=0
def tw11110445531179635939:=0
def tw1112422999141809005:=0
def tw11191767721715727568:=0
def tw11214384251428707401:=0
def tw11254949050971774714:=0
def tw113255406244099555:=0
def tw11400998585437625930:=0
def tw11420422839762889058:=0
def tw11477915903234626341:=0
def tw11559913401360179540:=0
def tw11752613586793672922:=0
def tw11786277604129611800:=0
def tw11805543356692879559:=0
def tw11887968322106680915:=0
def tw11961316337152670397:=0
def tw12004883429460608723:=0
def tw12011888223850902334:=0
def tw12138913910659755378:=0
def tw12436963933445177671:=0
def tw12526812388678076854:=0
def tw12531404257184879851:=0
def tw12643522597014320902:=0
def tw1268306412579746422:=0
def tw12785947911541388446:=0
def tw12792341975737105529:=0
def tw12833180425557027458:=0
def tw12882800349829661462:=0
def tw12884979879361371678:=0
def tw12917027800077616259:=0
def tw12966618461350352726:=0
def tw12990082756459587:=0
def tw13102290858690858976:=0
def tw13134816639680253472:=0
def tw13558526173268009741:=0
def tw13569405340094319194:=0
def tw13582310326570507225:=0
def tw13809846621653946779:=0
def tw13813820722719922942:=0
def tw13985275081415423933:=0
def tw140331894889303913:=0
def tw14049322706395561285:=0
def tw14364295416340394461:=0
def tw14400533251259526156:=0
def tw14474277408131468461:=0
def tw14514057142211173401:=0
def tw14579249812860318784:=0
def tw14741623383607940457:=0
def tw14766566159192706760:=0
def tw14912385776930423493:=0
def tw15077996834161718942:=0
def tw15158443825094634334:=0
def tw15237713053393717977:=0
def tw15245674307802023392:=0
def tw1529800925849328316:=0
def tw15330761200428127072:=0
def tw15411365406848397871:=0
def tw1560922744733676703:=0
def tw15895173460128588472:=0
def tw1633598064730292647:=0
def tw16480860693435271797:=0
def tw16511676350287475297:=0
def tw16515277089418309845:=0
def tw16731649810355513066:=0
def tw16756075619103554484:=0
def tw16756328847899025858:=0
def tw16757123928262660309:=0
def tw16827658224161953746:=0
def tw16973560265166349584:=0
def tw17193604452466755092:=0
def tw17227663371454454672:=0
def tw17231885572026759741:=0
def tw17253463563006016373:=0
def tw17362271497710317126:=0
def tw17384199967107151759:=0
def tw17418017132939164713:=0
def tw17458347832831503896:=0
def tw17592562997810264907:=0
def tw17607173433346215705:=0
def tw17692013813374510718:=0
def tw17728666438401632083:=0
def tw17742433202137092026:=0
def tw177504882689918551:=0
def tw17952854975762575654:=0
def tw18009330362579059441:=0
def tw1806222397378889656:=0
def tw18163786748560599891:=0
def tw18268855106907278519:=0
def tw18349982979819326562:=0
def tw18378216045268294536:=0
def tw1915094158164963643:=0
def tw1964522424713618879:=0
def tw2058276403266237163:=0
def tw216255730095483029:=0
def tw21795450428093536:=0
def tw2228117949715608858:=0
def tw228456384141787920:=0
def tw2480281212246996093:=0
def tw2490456907144137109:=0
def tw261720063851174875:=0
def tw2918871262190396823:=0
def tw2964267666339019934:=0
def tw3279554181469150800:=0
def tw3363821672082768643:=0
def tw3477855681906800247:=0
def tw3514399346228750027:=0
def tw3549410632492574522:=0
def tw3549630013973401100:=0
def tw3703976896614850761:=0
def tw3776318117368164724:=0
def tw4043914961248592612:=0
def tw407589917114444316:=0
def tw4094217652106786391:=0
def tw4141571516189600016:=0
def tw4322799482895023280:=0
def tw4416006524514632501:=0
def tw4476545547013596511:=0
def tw4489654600038179136:=0
def tw4509812216541436391:=0
def tw4532436127796548453:=0
def tw4536512960950971438:=0
def tw4639182586766435533:=0
def tw4661957046580408142:=0
def tw4702171141689053444:=0
def tw4906481872519792561:=0
def tw5047987046545400589:=0
def tw5224305153632844202:=0
def tw5240469189819248660:=0
def tw5360481546288062643:=0
def tw5400051202099332889:=0
def tw5452765493552467880:=0
def tw554130749392609153:=0
def tw560032080823015378:=0
def tw5645630446362489283:=0
def tw5747387784396144643:=0
def tw5752511050142948052:=0
def tw5784942663718214339:=0
def tw5808116436840128596:=0
def tw5879290083538456798:=0
def tw5892930760341164350:=0
def tw5899602586573820297:=0
def tw5926014530510424433:=0
def tw6051821214551183258:=0
def tw6185043349447754830:=0
def tw6298134114178849751:=0
def tw6401420005198540133:=0
def tw6522930148536641148:=0
def tw6530357809798691312:=0
def tw6589958593249533678:=0
def tw6620980044664622132:=0
def tw6662310444840642200:=0
def tw679621466896736286:=0
def tw6924178990439211218:=0
def tw6955320177476062662:=0
def tw6965876337746978794:=0
def tw7119628830225380100:=0
def tw71596519943427954:=0
def tw7247520337299863573:=0
def tw7378204850493770359:=0
def tw7574409006146993217:=0
def tw7709129361820971270:=0
def tw7743863994659924339:=0
def tw7943951190222920530:=0
def tw7982719605969143356:=0
def tw8172090455766991266:=0
def tw8200720162336427476:=0
def tw8232944770434347063:=0
def tw8385546547274066179:=0
def tw842566458199487774:=0
def tw8433695952011955084:=0
def tw8528202416247484464:=0
def tw854774258438813246:=0
def tw8728409023459553173:=0
def tw8762867058379829029:=0
def tw896745923033701292:=0
def tw9134764098269515389:=0
def tw9149473856539706603:=0
def tw9160485097046338549:=0
def tw9305504404874297958:=0
def tw9348090876354538332:=0
def tw9387780744427062248:=0
def tw9396538617415163840:=0
def tw9426202758150077574:=0
def tw9562158950630853347:=0
def tw9585963491191456193:=0
def tw9588111417427442359:=0
def tw9668540944053489676:=0
def tw9741864742892030236:=0
def tw979679370119096559:=0
end PySem.W.Fast
namespace L2
variable{w:World}{A:Around}{E Q:Value->Shared->Prop}{s s':Shared}{a b dx C f:Addr}{u:Value}{h h':Heap}{P:Program}{x q qual:Str}{e c tg:Expr}{K:zbV}{ts:List (Addr×Str)}{n t' i j k:Nat}{ρ:List (Addr×Obj)}{g':Array GenState}{d':Drawn}{ch fp:List Addr}{N ps:List Str}{M:Model}{pos p:Pos}{op:CmpOp}{es:List Expr}{g:Int->Int->Int}{body:List Stmt}{us:List Value}{mA mg:Str->Option Value}{fd:FuncData}{scope:Scope}
open PySem PySem.Spec PyProof.Rows
abbrev Key:=Sum Int Str
noncomputable def jz:Key->Value->Bool
 |.inl k,v=>Value.isInt k v
 |.inr x,v=>Value.isStrOf x v
noncomputable def EQ(w:World):Key->Int
 |.inl k=>hashInt k
 |.inr x=>hashStr w x
def aY:∀{k:Key} {v:Value},jz k v=true->(∃i t,k=Sum.inl i/\v=Value.int i t)\/(∃x t,k=Sum.inr x/\v=Value.str x t)
 |.inl i,v,h=>by
  obtain⟨t,e⟩:=Value.isInt_shape (k:=i) (v:=v) h;exact .inl ⟨i,t,rfl,e⟩
 |.inr x,v,h=>by
  obtain⟨t,e⟩:=Value.isStrOf_shape (x:=x) (v:=v) h;exact .inr ⟨x,t,rfl,e⟩
def vd(i:Int)(t:Tok):jz (.inl i) (.int i t)=true:=by simp[jz,Value.isInt]
def vc(x:Str)(t:Tok):jz (.inr x) (.str x t)=true:=by simp[jz,Value.isStrOf]
def vb(a b:Int):decide ((Sum.inl a:Key)=Sum.inl b)=(a==b):=by
 by_cases e:a=b
 .subst e;simp
 .have h:¬(Sum.inl a:Key)=Sum.inl b:=λq=>e (Sum.inl.inj q);rw[zaA h];exact(zbP.mpr e).symm
def u8(a b:Str):decide ((Sum.inr a:Key)=Sum.inr b)=decide (a=b):=by
 by_cases e:a=b
 .subst e;simp
 .have h:¬(Sum.inr a:Key)=Sum.inr b:=λq=>e (Sum.inr.inj q);rw[zaA h,zaA e]
def va(a:Int)(b:Str):decide ((Sum.inl a:Key)=Sum.inr b)=false:=zaA (λq=>nomatch q)
def u9(a:Str)(b:Int):decide ((Sum.inr a:Key)=Sum.inl b)=false:=zaA (λq=>nomatch q)
def bh(prog:Program)(w:World):PySem.KeyKind prog w Key where
 is:=jz
 hash:=EQ w
 inj:=λv a b ha hb=>by
  rcases aY ha with⟨i,t,rfl,rfl⟩|⟨x,t,rfl,rfl⟩
  .rcases aY hb with⟨j,u,rfl,e⟩|⟨y,u,rfl,e⟩
   .injection e with e1 _;rw[e1]
   .exact nomatch e
  .rcases aY hb with⟨j,u,rfl,e⟩|⟨y,u,rfl,e⟩
   .exact nomatch e
   .injection e with e1 _;rw[e1]
 byValue:=λk v h=>by
  rcases aY h with⟨i,t,rfl,rfl⟩|⟨x,t,rfl,rfl⟩<;>rfl
 pyHash:=λhv h=>by
  rcases aY hv with⟨i,t,rfl,rfl⟩|⟨x,t,rfl,rfl⟩
  .exact wpAny_pyHash_int h
  .exact wpAny_pyHash_str h
 eqBool:=λhu hv h=>by
  rcases aY hu with⟨i,t,rfl,rfl⟩|⟨x,t,rfl,rfl⟩
  .rcases aY hv with⟨j,u,rfl,rfl⟩|⟨y,u,rfl,rfl⟩
   .rw[vb]at h;exact wpAny_eqBool_int h
   .rw[va]at h;exact SeqAt.EqAt.int_str i t y u _ _ _ _ h
  .rcases aY hv with⟨j,u,rfl,rfl⟩|⟨y,u,rfl,rfl⟩
   .rw[u9]at h;exact SeqAt.EqAt.str_int x t j u _ _ _ _ h
   .rw[u8]at h;exact wpAny_eqBool_str h
 «strs»:=λk x t v h=>by
  rcases aY h with⟨i,u,rfl,e⟩|⟨y,u,rfl,e⟩
  .exact nomatch e
  .injection e with e1 _
   subst e1;cases v<;>rfl
def qG(prog:Program)(w:World)(i:Int)(t:Tok):(bh prog w).is (.inl i) (.int i t)=true:=vd i t
def qF(prog:Program)(w:World)(x:Str)(t:Tok):(bh prog w).is (.inr x) (.str x t)=true:=vc x t
section
variable{prog:Program}   
def vl{Q:Int->Shared->Prop}(h:Q (reduceHash 0xFCA86420) { s with toks:=s.toks+1 }):wpAny (model prog w) A (pyHash .none) Q E s:=by
 have ty:s.TypeIs .none "NoneType":=rfl;show wpAny _ _ (pyHashByItsType .none) Q E s;refine PySem.W.pyHash_slot ty F.slot_NoneType_hash F.entry_NoneType_hash (F.args_NoneType_hash_1 _) (by decide) (.inl rfl) ?_;obtain⟨hp,g,d,tk,os⟩:=s;unfold Builtin.«NoneType.__hash__»
 wp_walk
 exact⟨_,_,rfl,h⟩
def l9:Option Key->Value->Bool
 |none,.none=>true
 |none,_=>false
 |some k,v=>jz k v
def bU{v:Value}(h:l9 none v=true):v=.none:=by
 cases v<;>first|rfl|cases h
def bx(prog:Program)(w:World):PySem.KeyKind prog w (Option Key) where
 is:=l9
 hash:=λk=>match k with
  |none=>reduceHash 0xFCA86420
  |some k=>EQ w k
 inj:=λv a b ha hb=>by
  cases a with
  |none=>
   cases b with
   |none=>rfl
   |some k=>
    rw[bU ha]at hb;cases k<;>cases hb
  |some k=>
   cases b with
   |none=>
    rw[bU hb]at ha;cases k<;>cases ha
   |some j=>rw[(bh prog w).inj v k j ha hb]
 byValue:=λk v h=>by
  cases k with
  |none=>rw[bU h];rfl
  |some k=>exact(bh prog w).byValue k v h
 pyHash:=λ{A E s k v Q} hv h=>by
  cases k with
  |none=>rw[bU hv];exact vl h
  |some k=>exact(bh prog w).pyHash (k:=k) hv h
 eqBool:=λ{A E s a b u v Q} hu hv h=>by
  cases a with
  |none=>
   rw[bU hu];cases b with
   |none=>
    rw[bU hv];unfold PySem.eqBool;exact zam (wpAny_rule (zaT (by simpa using h)))
   |some k=>
    have e:decide ((none:Option Key)=some k)=false:=rfl;rw[e]at h;rcases aY hv with⟨i,t,rfl,rfl⟩|⟨x,t,rfl,rfl⟩
    .exact SeqAt.EqAt.none_int i t _ _ _ _ h
    .exact SeqAt.EqAt.none_str x t _ _ _ _ h
  |some k=>
   cases b with
   |none=>
    rw[bU hv];have e:decide (some k=(none:Option Key))=false:=rfl;rw[e]at h;rcases aY hu with⟨i,t,rfl,rfl⟩|⟨x,t,rfl,rfl⟩
    .exact SeqAt.EqAt.int_none i t _ _ _ _ h
    .exact SeqAt.EqAt.str_none x t _ _ _ _ h
   |some j=>
    refine(bh prog w).eqBool (a:=k) (b:=j) hu hv ?_;have e:decide (k=j)=decide (some k=some j):=by
     rw[decide_eq_decide];exact⟨λz=>by rw[z],λz=>zat z⟩
    rw[e];exact h
 «strs»:=λk x t v h=>by
  cases k with
  |none=>cases h
  |some k=>exact(bh prog w).strs k x t v h
end
inductive V where
 |non|bl (b:Bool)|int (i:Int)|str (x:Str)|byt (b:Array UInt8)|flt (b:UInt64)|ref (a:Addr)|ty (n:String)
 deriving DecidableEq
variable{v y:V}{vs:List V}
def RelV:V->Value->Prop
 |.non,u=>u=Value.none
 |.bl b,u=>u=Value.bool b
 |.int i,u=>∃t,u=Value.int i t
 |.str x,u=>∃t,u=Value.str x t
 |.byt b,u=>∃t,u=Value.bytes b t
 |.flt b,u=>∃t,u=Value.float b t
 |.ref a,u=>u=Value.ref a
 |.ty n,u=>u=Value.type n
abbrev Vals:List V->List Value->Prop:=Paired RelV
def Vals.length{xs:List V}{us:List Value}(r:Vals xs us):xs.length=us.length:=Paired.length r
theorem Vals.get:∀{xs:List V} {us:List Value} {i:Nat} {x:V},Vals xs us->xs[i]?=some x->∃u,us[i]?=some u/\RelV x u
 |_,_,_,_,.nil,e=>by simp at e
 |_,_,0,_,.cons r _,e=>by simp at e;subst e;exact⟨_,rfl,r⟩
 |_,_,i+1,x,.cons _ t,e=>by
  obtain⟨u,h1,h2⟩:=Vals.get (i:=i) (x:=x) t (by simpa using e);exact⟨u,by simpa using h1,h2⟩
theorem Vals.set{x:V}{u:Value}(r:RelV x u):∀{xs:List V} {us:List Value} (i:Nat),Vals xs us->Vals (xs.set i x) (us.set i u)
 |_,_,_,.nil=>.nil
 |_,_,0,.cons _ t=>.cons r t
 |_,_,i+1,.cons q t=>.cons q (Vals.set r i t)
theorem Vals.append:∀{xs ys:List V} {us ws:List Value},Vals xs us->Vals ys ws->Vals (xs++ys) (us++ws)
 |_,_,_,_,.nil,s=>s
 |_,_,_,_,.cons r t,s=>.cons r (Vals.append t s)
def RelO:Option V->Option Value->Prop
 |some v,some u=>RelV v u
 |none,none=>True
 |_,_=>False
def KV{κ:Type}:List (κ×V)->List (κ×Value)->Prop:=Paired λ(p:κ×V) (q:κ×Value)=>p.1=q.1/\RelV p.2 q.2
noncomputable def kV:Key->V
 |.inl i=>.int i
 |.inr x=>.str x
def oV:Option Key->V
 |none=>.non
 |some k=>kV k
inductive HO where
 |lst (xs:List V)
 |tup (xs:List V)
 |dK (kvs:List (Key×V))|dT (kvs:List (List (Option Key)×V)) (ad:Addr->Prop)
 |set (S:Int->Bool) (n:Nat)
 |ins (C dx:Addr) (fs:List (Str×V))
 |own (x:Addr)
 |xd (fs:List (Str×V))
 |met (f x:Addr)
 |rng (lo hi:Int)
 |frz (o:Obj) (u:HO)
 |tbl (q:Str)
 |ext (φ:Heap->Prop)
variable{o:HO}
abbrev Hp:=Addr->Option HO
variable{H H':Hp}
noncomputable def upd(H:Hp)(a:Addr)(o:HO):Hp:=λb=>if b=a then some o else H b
def ao:upd H a o a=some o:=by unfold upd;rw[if_pos rfl]
def au(h:b≠a):upd H a o b=H b:=by unfold upd;rw[if_neg h]
def sL{u:HO}(h:H a=some o)(h':H b=some u)(d:o≠u):a≠b:=by
 intro e;subst e;rw[h]at h';exact d (zat h')
def a8(h:H a=some o)(h':H b=none):a≠b:=by
 intro e;subst e;rw[h]at h';cases h'
def IsTupN(h:Heap)(a:Addr)(its:Array Value):Prop:=∃o,h.get? a=some o/\o.cls=.type "tuple"/\∃n,o.data=.seq its n/\o.dict=none
def IsTupN.tup{h:Heap}{a:Addr}{its:Array Value}(x:IsTupN h a its):IsTup h a its:=by
 obtain⟨o,h1,h2,n,h3,_⟩:=x;exact⟨o,h1,h2,n,h3⟩
def IsTupN.lt{its:Array Value}(x:IsTupN h a its):a<h.objs.size:=zal x.choose_spec.1
section
variable(P:Program)(w:World)
def ObjOk(H:Hp)(h:Heap)(a:Addr):HO->Prop
 |.lst xs=>xs.length<=sizeLine/\∃(its:List Value) (n:Nat),Vals xs its/\h.get? a=some { cls:=.type "list",data:=.seq its.toArray n }
 |.tup xs=>xs.length<=sizeLine/\∃its:List Value,Vals xs its/\IsTupN h a its.toArray
 |.dK kvs=>kvs.length<=sizeLine/\(a==sysModules)=false/\∃vs,KV kvs vs/\h.DictOf (bh P w) a vs
 |.dT kvs ad=>kvs.length<=sizeLine/\(a==sysModules)=false/\∃xs:List (List (Option Key)×Addr×Value),
   Paired (λ(p:List (Option Key)×V) (q:List (Option Key)×Addr×Value)=>p.1=q.1/\(H q.2.1=some (.tup (p.1.map oV))/\ad q.2.1)/\RelV p.2 q.2.2) kvs xs /\
   ∃o es ep,h.get? a=some o/\o.ExactDict/\o.data=.dict es ep/\es.toList=xs.map (entryOfKey (tupleKind (bx P w)))/\(xs.map (·.1)).Nodup
 |.set S n=>h.SetOf (intKind P w) a S n
 |.ins C dx fs=>H dx=some (.own a)/\fs.length<=1000/\dx≠a/\h.get? a=some (PySem.W.instObj C dx) /\
   ∃mA,h.Ns1 dx mA/\(∀f,RelO (fs.lookup f) (mA f))/\PySem.Within mA (fs.map (·.1))
 |.own _=>∃o,h.get? a=some o
 |.xd fs=>∃mA,h.Ns1 a mA/\∀f,RelO (fs.lookup f) (mA f)
 |.rng lo hi=>∃t u v,h.get? a=some { cls:=.type "range",data:=.fields #[.int lo t,.int hi u,.int 1 v] }
 |.frz o u=>h.get? a=some o/\ObjOk H h a u
 |.tbl q=>∃ps:Array Value,h.get? a=some { cls:=.none,data:=.fields ps }/\TriplesOk ps.toList/\∀pos cv,codeAmong pos ps.toList=some cv->∃c oc vs t,cv=.ref c/\H c=some (.frz oc (.own a))/\oc.data=.fields vs/\vs[1]?=some (.str q t)
 |.met f x=>h.get? a=some (PySem.W.methodObj (.ref f) (.ref x))
 |.ext φ=>φ h/\(∃o,h.get? a=some o)/\∀h1 h2:Heap,φ h1->(∀o,h1.get? a=some o->h2.get? a=some o)->φ h2
def HOk(H:Hp)(h:Heap):Prop:=∀a o,H a=some o->ObjOk P w H h a o
end
theorem ObjOk.lt(x:ObjOk P w H h a o):a<h.objs.size:=by
 cases o with
 |lst xs=>obtain⟨_,_,_,_,e⟩:=x;exact zal e
 |tup xs=>obtain⟨_,_,_,p⟩:=x;exact p.lt
 |dK kvs=>obtain⟨_,_,_,_,o,_,_,e,_⟩:=x;exact zal e
 |dT kvs ad=>obtain⟨_,_,_,_,o,_,_,e,_⟩:=x;exact zal e
 |set S n=>obtain⟨o,_,_,_,e,_⟩:=x;exact zal e
 |ins C dx fs=>obtain⟨_,_,_,e,_⟩:=x;exact zal e
 |own y=>obtain⟨_,e⟩:=x;exact zal e
 |xd fs=>obtain⟨_,⟨_,_,_,e,_⟩,_⟩:=x;exact zal e
 |rng lo hi=>obtain⟨_,_,_,e⟩:=x;exact zal e
 |frz ob u=>obtain⟨e,_⟩:=x;exact zal e
 |tbl q=>obtain⟨ps,e,_⟩:=(show ∃ps:Array Value,h.get? a=some { cls:=.none,data:=.fields ps }/\_ from x);exact zal e
 |met f y=>exact zal (show h.get? a=some _ from x)
 |ext φ=>obtain⟨_,⟨_,e⟩,_⟩:=x;exact zal e
theorem Paired.mapP{α β:Type}{F G:α->β->Prop}:∀{l₁:List α} {l₂:List β},Paired F l₁ l₂->(∀a b,F a b->G a b)->Paired G l₁ l₂
 |_,_,.nil,_=>.nil
 |_,_,.cons r t,f=>.cons (f _ _ r) (Paired.mapP t f)
def Kpt:HO->Prop
 |.tup _=>True
 |.frz _ (.own _)=>True
 |_=>False
def ObjOk.stay(x:ObjOk P w H h a o)(k:∀b u,(b=a\/H b=some (.own a))->h.get? b=some u->h'.get? b=some u)
  (ho:∀b,H b=some (.own a)->H' b=some (.own a)) (htk:∀b u,Kpt u->H b=some u->H' b=some u):ObjOk P w H' h' a o:=by
 have ht:∀b xs,H b=some (.tup xs)->H' b=some (.tup xs):=λb xs e=>htk b _ trivial e
 induction o with
 |lst xs=>obtain⟨z,its,n,r,e⟩:=x;exact⟨z,its,n,r,k _ _ (.inl rfl) e⟩
 |tup xs=>obtain⟨z,its,r,ob,e,c⟩:=x;exact⟨z,its,r,ob,k _ _ (.inl rfl) e,c⟩
 |dK kvs=>obtain⟨z,y,vs,r,ob,es,ep,e,c⟩:=x;exact⟨z,y,vs,r,ob,es,ep,k _ _ (.inl rfl) e,c⟩
 |dT kvs ad=>
  obtain⟨z,y,xs,r,ob,es,ep,e,c⟩:=x;exact⟨z,y,xs,Paired.mapP r λp q z=>⟨z.1,⟨ht _ _ z.2.1.1,z.2.1.2⟩,z.2.2⟩,ob,es,ep,k _ _ (.inl rfl) e,c⟩
 |set S n=>obtain⟨ob,es,ep,t,e,c⟩:=x;exact⟨ob,es,ep,t,k _ _ (.inl rfl) e,c⟩
 |ins C dx fs=>
  obtain⟨d,z,ne,e,mA,⟨od,es,ep,e2,c⟩,r⟩:=x;exact⟨ho _ d,z,ne,k _ _ (.inl rfl) e,mA,⟨od,es,ep,k _ _ (.inr d) e2,c⟩,r⟩
 |own y=>obtain⟨ob,e⟩:=x;exact⟨ob,k _ _ (.inl rfl) e⟩
 |xd fs=>obtain⟨mA,⟨od,es,ep,e,c⟩,r⟩:=x;exact⟨mA,⟨od,es,ep,k _ _ (.inl rfl) e,c⟩,r⟩
 |rng lo hi=>obtain⟨t,u,v,e⟩:=x;exact⟨t,u,v,k _ _ (.inl rfl) e⟩
 |frz ob u ih=>obtain⟨e,q⟩:=x;exact⟨k _ _ (.inl rfl) e,ih q⟩
 |tbl q=>
  obtain⟨ps,e,t1,t2⟩:=(show ∃ps:Array Value,h.get? a=some { cls:=.none,data:=.fields ps }/\_ from x);exact⟨ps,k a _ (.inl rfl) e,t1,λpos cv hc=>by
   obtain⟨c,oc,vs,t,q1,q2,q3⟩:=t2 pos cv hc;exact⟨c,oc,vs,t,q1,htk _ _ trivial q2,q3⟩⟩
 |met f y=>
  have e:h.get? a=some (PySem.W.methodObj (.ref f) (.ref y)):=x;show h'.get? a=some (PySem.W.methodObj (.ref f) (.ref y));exact k a _ (.inl rfl) e
 |ext φ=>obtain⟨p,⟨o,e⟩,st⟩:=x;exact⟨st _ _ p λo q=>k _ _ (.inl rfl) q,⟨o,k _ _ (.inl rfl) e⟩,st⟩
def HOk.lt(x:HOk P w H h)(e:H a=some o):a<h.objs.size:=(x a o e).lt
def HOk.fresh(x:HOk P w H h)(e:h.objs.size<=a):H a=none:=by
 cases q:H a with
 |none=>rfl
 |some u=>exact absurd (zag (x.lt q) e) (zaI _)
def HOk.kept(x:HOk P w H h)(k:∀b u,h.get? b=some u->h'.get? b=some u):HOk P w H h':=λa o e=>
 (x a o e).stay (λb u _ q=>k b u q) (λ_ q=>q) λ_ _ _ q=>q
def HOk.laid(x:HOk P w H h)(k:∀b u,h.get? b=some u->h'.get? b=some u)(hp:h.objs.size<=a)(new:ObjOk P w (upd H a o) h' a o):HOk P w (upd H a o) h':=λb u e=>by
 have hn:=x.fresh hp;by_cases hb:b=a
 .subst hb;rw[ao]at e;cases e;exact new
 .rw[au hb]at e;exact(x b u e).stay (λc v _ q=>k c v q) (λc q=>by rw[au (a8 q hn)];exact q) λc xs _ q=>by rw[au (a8 q hn)];exact q
def Rd(H:Hp)(a:Addr)(u:HO):Prop:=H a=some u\/∃o,H a=some (.frz o u)
def Rd.ok{u:HO}(r:Rd H a u)(x:HOk P w H h):ObjOk P w H h a u:=by
 rcases r with r|⟨o,r⟩
 .exact x a u r
 .obtain⟨_,q⟩:=x a _ r;exact q
def Mut:Option HO->Prop
 |some (.lst _)=>True
 |some (.dK _)=>True
 |some (.dT _ _)=>True
 |some (.set _ _)=>True
 |some (.ins _ _ _)=>True
 |some (.ext _)=>True
 |_=>False
section
variable{x e:Addr}{o':HO}
def HOk.write(ok:HOk P w H h)(mu:Mut (H x))(he:e=x\/H e=some (.own x))(k:∀b u,b≠e->h.get? b=some u->h'.get? b=some u)(heo:∃u,h'.get? e=some u)
  (new:ObjOk P w (upd H x o') h' x o'):HOk P w (upd H x o') h':=λb u q=>by
 have nown:∀c y,H c=some (.own y)->c≠x:=λc y r z=>by subst z;rw[r]at mu;exact mu
 have ntup:∀c u,Kpt u->H c=some u->c≠x:=λc u ku r z=>by
  subst z;rw[r]at mu;cases u with
  |tup _=>exact mu
  |frz _ _=>exact mu
  |_=>exact ku
 by_cases hb:b=x
 .subst hb;rw[ao]at q;cases q;exact new
 .rw[au hb]at q;by_cases hbe:b=e
  .have q':H b=some (.own x):=by
    rcases he with z|z
    .exact absurd (hbe.trans z) hb
    .rw[hbe];exact z
   rw[q]at q';cases q';obtain⟨v,hv⟩:=heo;exact⟨v,by rw[hbe];exact hv⟩
  .refine(ok b u q).stay (λc v hc r=>k c v ?_ r) (λc r=>by rw[au (nown c b r)];exact r) λc u ku r=>by rw[au (ntup c u ku r)];exact r
   rcases hc with rfl|hc
   .exact hbe
   .rintro rfl;rcases he with z|z
    .exact nown c b hc z
    .rw[hc]at z;cases z;exact hb rfl
end
structure Un(fs ex:List Addr)(H H':Hp)(h h':Heap):Prop where
 keep:∀b o,h.get? b=some o->H b=none->b∉fs->b∉ex->h'.get? b=some o
 slot:∀b o,h.get? b=some o->H b=none->b∈fs->b∉ex->∃sl,h'.get? b=some { o with slots:=sl }
 free:∀b o,h.get? b=some o->H b=none->b∉ex->H' b=none
 there:∀b o,h.get? b=some o->b∉ex->∃o',h'.get? b=some o'
 tups:∀b xs,H b=some (.tup xs)->H' b=some (.tup xs)
 frzs:∀b o u,H b=some (.frz o u)->H' b=some (.frz o u)
 tbls:∀b ps,H b=some (.tbl ps)->H' b=some (.tbl ps)
section
variable{fs fs' ex ex':List Addr}{H1 H2:Hp}{h1 h2:Heap}{x e:Addr} 
def Un.any(u:Un fs ex H H1 h h1){ob:Obj}(q:h.get? b=some ob)(n:H b=none)(hx:b∉ex):∃sl,h1.get? b=some { ob with slots:=sl }:=by
 by_cases hb:b∈fs
 .exact u.slot b ob q n hb hx
 .exact⟨ob.slots,u.keep b ob q n hb hx⟩
def Un.trans(a:Un fs ex H H1 h h1)(b:Un fs ex H1 H2 h1 h2):Un fs ex H H2 h h2 where
 keep:=λc ob q n hc hx=>b.keep c ob (a.keep c ob q n hc hx) (a.free c ob q n hx) hc hx
 slot:=λc ob q n hc hx=>by
  obtain⟨sl,e1⟩:=a.slot c ob q n hc hx;obtain⟨sl',e2⟩:=b.slot c _ e1 (a.free c ob q n hx) hc hx;exact⟨sl',e2⟩
 free:=λc ob q n hx=>by
  obtain⟨o',e1⟩:=a.there c ob q hx;exact b.free c o' e1 (a.free c ob q n hx) hx
 there:=λc ob q hx=>by
  obtain⟨o',e1⟩:=a.there c ob q hx;exact b.there c o' e1 hx
 tups:=λc xs q=>b.tups c xs (a.tups c xs q)
 frzs:=λc ob xs q=>b.frzs c ob xs (a.frzs c ob xs q)
 tbls:=λc ps q=>b.tbls c ps (a.tbls c ps q)
def Un.kept(k:∀b u,h.get? b=some u->h'.get? b=some u):Un fs ex H H h h':=
 ⟨λb ob q _ _ _=>k b ob q,λb ob q _ _ _=>⟨ob.slots,k b ob q⟩,λ_ _ _ n _=>n,λb ob q _=>⟨ob,k b ob q⟩,λ_ _ q=>q,λ_ _ _ q=>q,λ_ _ q=>q⟩
def Un.refl:Un fs ex H H h h:=Un.kept λ_ _ q=>q
def Un.laid(k:∀b u,h.get? b=some u->h'.get? b=some u)(hp:h.objs.size<=a)(hn:H a=none):Un fs ex H (upd H a o) h h' where
 keep:=λb u q _ _ _=>k b u q
 slot:=λb u q _ _ _=>⟨u.slots,k b u q⟩
 free:=λb u q n _=>by rw[au (zaw (zag (zal q) hp))];exact n
 there:=λb u q _=>⟨u,k b u q⟩
 tups:=λb xs q=>by rw[au (a8 q hn)];exact q
 frzs:=λb u xs q=>by rw[au (a8 q hn)];exact q
 tbls:=λb ps q=>by rw[au (a8 q hn)];exact q
def Un.write(mu:Mut (H x))(he:e=x\/H e=some (.own x))(k:∀b u,b≠e->h.get? b=some u->h'.get? b=some u)(heo:∃u,h'.get? e=some u):Un fs ex H (upd H x o) h h':=by
 have hx:∀b,H b=none->b≠x:=λb n z=>by subst z;rw[n]at mu;exact mu
 have hb:∀b,H b=none->b≠e:=λb n z=>by
  subst z;rcases he with r|r
  .exact hx b n r
  .rw[n]at r;cases r
 have hm:∀b u,H b=some u->¬Mut (some u)->b≠x:=λb u q nm z=>by subst z;rw[q]at mu;exact nm mu
 refine⟨λb u q n _ _=>k b u (hb b n) q,λb u q n _ _=>⟨u.slots,k b u (hb b n) q⟩,λb u q n _=>by rw[au (hx b n)];exact n,λb u q _=>?_,
  λb xs q=>by rw[au (hm b _ q λz=>z)];exact q,λb u xs q=>by rw[au (hm b _ q λz=>z)];exact q,λb ps q=>by rw[au (hm b _ q λz=>z)];exact q⟩
 by_cases hbe:b=e
 .subst hbe;exact heo
 .exact⟨u,k b u hbe q⟩
end
noncomputable def trk(h:Heap)(H:Hp):List Addr:=(List.range h.objs.size).filter λa=>(H a).isSome
def jC(h:Heap)(H:Hp):Heap:=PySem.W.hideAll h (trk h H)
def vi(h:Heap)(H:Hp):(jC h H).objs.size=h.objs.size:=PySem.W.hideAll_size _ _
def wZ{o:Obj}(e:h.get? b=some o)(n:H b=none):(jC h H).get? b=some o:=
 PySem.W.hideAll_get _ e λhm=>by
  have q:(H b).isSome=true:=(zbC.mp hm).2;rw[n]at q;simp at q
def Bh{o:Obj}(e:(jC h H).get? b=some o):h.get? b=some o/\H b=none:=by
 have e':h.get? b=some o:=PySem.W.of_hideAll (trk h H) e;refine⟨e',?_⟩;cases q:H b with
 |none=>rfl
 |some x=>
  have hm:b∈trk h H:=zbC.mpr ⟨zbr.mpr (zal e'),by simp[q]⟩;have z:(jC h H).get? b=none:=PySem.W.hideAll_none (trk h H) hm;rw[z]at e;cases e
noncomputable def B8(g h:Heap)(L:Addr):List (Addr×Obj):=(List.range h.objs.size).filterMap λa=>if a=L\/(g.get? a).isSome=true then none else(h.get? a).map λo=>(a,o)
def rest(g h:Heap)(L d:Addr):List (Addr×Obj):=(B8 g h L).filter λp=>decide (p.1≠d)
structure Mod(K:zbV)(mg:Str->Option Value)(base:Heap):Prop where
 kin:K.In base
 glob:base.Ns mainGlobals mg
 blt:∃mb,base.Ns builtinsNs mb/\∀x:Str,x≠"__name__"->mb x=bootBuiltins x
 nolimit:base.NoLimit
 mods:∃mm,base.Ns sysModules mm
 bm:∃(bm:Addr) (o:Obj),mg "__builtins__"=some (.ref bm)/\bm≠builtinsNs/\base.get? bm=some o/\o.cls=.type "module"/\o.dict=some builtinsNs/\o.data=.plain
def mkR(P:Addr)(q:Str):Obj:={ cls:=.none,data:=.fields #[.ref P,.str q 0] }
noncomputable def isR(q:Addr×Obj):Bool:=match q.2.data with
 |.fields _=>decide (q.1=mainGlobals)
 |_=>false
def bu(K:zbV)(ts:List (Addr×Str)):zbV:=K.filter (λq=>!isR q)++ts.map λt=>(mainGlobals,mkR t.1 t.2)
def Rg(K:zbV)(P:Addr)(q:Str):Prop:=(mainGlobals,mkR P q)∈K
theorem sO{b:Addr}{q:Str}:∀{ts:List (Addr×Str)},ts.lookup b=some q->(b,q)∈ts
 |[],h=>nomatch h
 | (a,u)::r,h=>by
  rw[zas]at h;by_cases e:b=a
  .subst e
   have:(b==b)=true:=by simp
   rw[this]at h;cases h;exact zaq
  .have:(b==a)=false:=by simp[e]
   rw[this]at h;exact zaj _ (sO h)
def Rg.of{P:Addr}(h:Rg (bu K ts) P q):(P,q)∈ts:=by
 rcases zax.mp h with h|h
 .have:=(zbC.mp h).2;simp[isR,mkR]at this
 .obtain⟨⟨P',q'⟩,h1,h2⟩:=zaz.mp h;have e:=(Prod.mk.inj h2).2;unfold mkR at e;injection e with _ _ e _
  injection e with e
  injection e with e
  injection e with e1 e
  injection e with e2 _
  injection e1 with e1
  injection e2 with e2 _
  subst e1 e2;exact h1
def Rg.mk{P:Addr}(h:(P,q)∈ts):Rg (bu K ts) P q:=zbg _ (zaz.mpr ⟨_,h,rfl⟩)
def qx{og:Obj}{es:Array DictEntry}(hg:K.lookup mainGlobals=some og)(hd:og.data=.dict es n)(b:Addr):(bu K ts).lookup b=K.lookup b:=by
 have hr:∀(b:Addr) (ts:List (Addr×Str)),b≠mainGlobals->(ts.map λt=>(mainGlobals,mkR t.1 t.2)).lookup b=none:=λb ts hb=>by
  induction ts with
  |nil=>rfl
  |cons t r ih=>
   rw[zar,zas]
   have:(b==mainGlobals)=false:=by simpa using hb
   rw[this];exact ih
 unfold bu
 induction K with
 |nil=>cases hg
 |cons p r ih=>
  obtain⟨a,o⟩:=p;rw[zas]at hg ⊢;by_cases ha:mainGlobals=a
  .subst ha;have hb0:(mainGlobals==mainGlobals)=true:=by simp
   rw[hb0]at hg;cases hg
   have:(!isR (mainGlobals,og))=true:=by simp[isR,hd]
   rw[zbu (by simpa using this),zaZ,zas];by_cases hb:b=mainGlobals
   .subst hb;rw[hb0]
   .have:(b==mainGlobals)=false:=by simpa using hb
    rw[this];have key:∀r:zbV,(r.filter (λq=>!isR q)++ts.map λt=>(mainGlobals,mkR t.1 t.2)).lookup b=r.lookup b:=λr=>by
     induction r with
     |nil=>exact hr b ts hb
     |cons p r ih=>
      obtain⟨a,o⟩:=p;by_cases hp:(!isR (a,o))=true
      .rw[zbu (by simpa using hp),zaZ,zas,zas,ih]
      .rw[List.filter_cons_of_neg (by simpa using hp),zas,ih];have ea:a=mainGlobals:=by
        unfold isR at hp;split at hp<;>simp_all
       subst ea;rw[this]
    exact key r
  .have hn:(mainGlobals==a)=false:=by simpa using ha
   rw[hn]at hg;have hp:(!isR (a,o))=true:=by
    unfold isR;split
    .simpa using λz=>ha z.symm
    .rfl
   rw[zbu (by simpa using hp),zaZ,zas,ih hg]
structure Cx where
 prog:Program
 w:World
 K:zbV
 mg:Str->Option Value
 base:Heap
 A:Around
 N:List Str
 s₀:Shared
 H₀:Hp
 env:Env
 outer:List Env
 stack:List Env
 ex:List Addr
 fn:Str->Bool
 calm:Bool
 pn:List (Addr×Obj)
 xe:Value->Shared->Prop
 hide:Nat->Option V:=λ_=>none
variable{X:Cx}
noncomputable def frs(l:List Env):List Addr:=l.filterMap (·.frame)
abbrev Cx.fs(X:Cx):List Addr:=frs X.outer
def Vis(sc:Scope)(x:Str):Prop:=sc.names.lookup x=some .local\/sc.names.lookup x=some .cell\/sc.names.lookup x=some .free
def Loc(sc:Scope)(x:Str):Prop:=sc.names.lookup x=some .local\/sc.names.lookup x=some .cell
def HI(env:Env)(h:Heap)(m:Str->Option Value)(x:Str)(u:Value):Prop:=
 (env.kindOf x=some .local/\m x=some u)\/((env.kindOf x=some .cell\/env.kindOf x=some .free)/\∃c,env.cells.lookup x=some c/\h.IsCell c (some u))
structure Cx.Ok(X:Cx):Prop where
 mod:Mod X.K X.mg X.base
 kind:X.env.scope.kind=.function
 glob:X.env.globals=mainGlobals
 blt:X.env.builtins=builtinsNs
 above:X.s₀.heap.objs.size<=X.env.locals
 inj:∀x y c,X.env.cells.lookup x=some c->X.env.cells.lookup y=some c->x=y
 has:∀x,(X.env.kindOf x=some .cell\/X.env.kindOf x=some .free)->∃c,X.env.cells.lookup x=some c
 cab:∀x c,X.fn x=true->X.env.cells.lookup x=some c->X.s₀.heap.objs.size<=c
 hd:X.calm=true->X.A.handled=none
 frames:X.A.frames=some X.stack
 stk:X.stack=X.outer\/(X.stack=X.env::X.outer/\X.env.frame=some X.env.locals)
 exf:∀b∈X.ex,b≠X.env.locals/\∀x c,X.env.cells.lookup x=some c->c≠b
 bs:∀b o,X.base.get? b=some o->X.s₀.heap.get? b=some o/\X.H₀ b=none
 bsz:X.base.objs.size<=X.s₀.heap.objs.size
 noex:∀b o,X.base.get? b=some o->b∉X.ex
 exfs:∀b∈X.ex,b∉X.fs
 funs:X.s₀.heap.FunFrames X.base X.outer
 frf:∀b∈X.fs,X.H₀ b=none
 reg:∀P q,Rg X.K P q->X.H₀ P=some (.tbl q)
structure Inv(X:Cx)(ρ:List (Addr×Obj))(σ:List (Option V))(H:Hp)(s:Shared):Prop where
 ok:X.Ok
 os:s.os=X.s₀.os
 bare:AllBare s.gens
 base:Un X.fs X.ex X.H₀ H X.s₀.heap s.heap
 loc:∃m,s.heap.Ns X.env.locals m/\∀(i:Nat) (x:Str) (v:V),X.N[i]?=some x->σ[i]?=some (some v)->Vis X.env.scope x->∃u,RelV v u/\HI X.env s.heap m x u
 cell:∀x c,X.env.cells.lookup x=some c->∃v,s.heap.IsCell c v
 free:H X.env.locals=none
 freeC:∀x c,X.env.cells.lookup x=some c->H c=none
 pin:∀p∈X.pn++ρ,s.heap.get? p.1=some p.2/\H p.1=none/\p.1≠X.env.locals/\p.1∉X.fs/\∀v,p.2.data≠.cell v
 hok:HOk X.prog X.w H s.heap
 len:σ.length=X.N.length
 hid:∀i u,X.hide i=some u->(∀v,σ[i]?=some (some v)->v=u)/\∀x,X.N[i]?=some x->¬Vis X.env.scope x
section
variable{σ:List (Option V)}  
def Cx.Ok.nofr(ok:X.Ok){o:Obj}(e:X.base.get? b=some o):b∉X.fs:=λhb=>by
 have:=(ok.funs.mem hb).1;rw[e]at this;cases this
def Inv.bs(I:Inv X ρ σ H s):∀b o,X.base.get? b=some o->s.heap.get? b=some o/\H b=none:=λb o e=>
 ⟨I.base.keep b o (I.ok.bs b o e).1 (I.ok.bs b o e).2 (I.ok.nofr e) (I.ok.noex b o e),I.base.free b o (I.ok.bs b o e).1 (I.ok.bs b o e).2 (I.ok.noex b o e)⟩
def Inv.bk(I:Inv X ρ σ H s):∀b o,X.base.get? b=some o->s.heap.get? b=some o:=λb o e=>(I.bs b o e).1
def Inv.mod(I:Inv X ρ σ H s):Mod X.K X.mg X.base:=I.ok.mod
def Inv.kIn(I:Inv X ρ σ H s):X.K.In s.heap:=I.ok.mod.kin.keeps I.bk
def Inv.lt(I:Inv X ρ σ H s):X.env.locals<s.heap.objs.size:=let⟨_,hn,_⟩:=I.loc;hn.lt
def Inv.sz(I:Inv X ρ σ H s):X.s₀.heap.objs.size<=s.heap.objs.size:=zau I.ok.above (zaW I.lt)
def Inv.nofs(I:Inv X ρ σ H s)(h:s.heap.objs.size<=a):a∉X.fs:=λhb=>by
 obtain⟨_,o,ho,_⟩:=I.ok.funs.mem hb;exact absurd (zag (zal ho) (zau I.sz h)) (zaI _)
def Inv.cne(I:Inv X ρ σ H s):∀x c,X.env.cells.lookup x=some c->c≠X.env.locals:=λx c e z=>by
 obtain⟨v,o,ho,hd⟩:=I.cell x c e;obtain⟨m,⟨o',es,ep,ho',hd',_⟩,_⟩:=I.loc;rw[z,ho']at ho;cases ho;rw[hd']at hd;cases hd
theorem Inv.funs(I:Inv X ρ σ H s):s.heap.FunFrames X.base X.outer:=by
 have all:∀(l:List Env),(∀b∈frs l,b∈X.fs)->X.s₀.heap.FunFrames X.base l->s.heap.FunFrames X.base l:=by
  intro l
  induction l with
  |nil=>intro _ _;trivial
  |cons env r ih=>
   intro hs hl;obtain⟨hk,⟨L,o,hf,hn,ho,hd⟩,hr⟩:=hl;have hL:L∈X.fs:=hs L (by unfold frs;rw[List.filterMap_cons,hf];exact zaq);obtain⟨sl,e⟩:=I.base.slot L o ho (I.ok.frf L hL) hL λz=>I.ok.exfs L z hL;exact⟨hk,⟨L,_,hf,hn,e,hd⟩,ih (λb hb=>hs b (by unfold frs;rw[List.filterMap_cons,hf];exact zaj _ hb)) hr⟩
 exact all X.outer (λ_ hb=>hb) I.ok.funs
def Inv.stack(I:Inv X ρ σ H s):s.heap.FunFrames X.base X.stack:=by
 rcases I.ok.stk with e|⟨e,hf⟩
 .rw[e];exact I.funs
 .rw[e];obtain⟨m,hn,_⟩:=I.loc;refine .cons (by rw[I.ok.kind];decide) hf hn ?_ I.funs;exact Heap.get?_none_of_le (zau I.ok.bsz I.ok.above)
def Inv.stkSub(I:Inv X ρ σ H s):∀b∈frs X.stack,b∈X.env.locals::X.fs:=λb hb=>by
 rcases I.ok.stk with e|⟨e,hf⟩
 .rw[e]at hb;exact zaj _ hb
 .rw[e]at hb;unfold frs at hb;rw[List.filterMap_cons,hf]at hb;exact hb
def Inv.stkFree(I:Inv X ρ σ H s):∀b∈frs X.stack,H b=none:=λb hb=>by
 rcases zay.mp (I.stkSub b hb)with e|hb
 .rw[e];exact I.free
 .obtain⟨_,o,ho,_⟩:=I.ok.funs.mem hb;exact I.base.free b o ho (I.ok.frf b hb) λz=>I.ok.exfs b z hb
def Inv.step(I:Inv X ρ σ H s)
  (hch:∀b∈ch,(b∈X.ex\/X.s₀.heap.objs.size<=b)/\b≠X.env.locals/\(∀x c,X.env.cells.lookup x=some c->c≠b)/\∀p∈X.pn++ρ,p.1≠b)
  (keep:∀b o,b≠X.env.locals->b∉X.fs->b∉ch->s.heap.get? b=some o->H b=none->h'.get? b=some o)
  (slot:∀b o,b≠X.env.locals->b∈X.fs->b∉ch->s.heap.get? b=some o->H b=none->∃sl,h'.get? b=some { o with slots:=sl }) (free:∀b o,b∉ch->s.heap.get? b=some o->H b=none->H' b=none)
  (there:∀b o,b∉ch->s.heap.get? b=some o->∃o',h'.get? b=some o')
  (tups:∀b xs,H b=some (.tup xs)->H' b=some (.tup xs)) (frzs:∀b o u,H b=some (.frz o u)->H' b=some (.frz o u)) (tbls:∀b ps,H b=some (.tbl ps)->H' b=some (.tbl ps))
  (ns:∀m,s.heap.Ns X.env.locals m->h'.Ns X.env.locals m) (hok:HOk X.prog X.w H' h') (hg:AllBare g'):
  Inv X ρ σ H' { s with heap:=h',gens:=g',drawn:=d',toks:=t' }:=by
 have neL:∀b o,X.s₀.heap.get? b=some o->b≠X.env.locals:=λb o e=>zaw (zag (zal e) I.ok.above);have neC:∀b o,X.s₀.heap.get? b=some o->b∉X.ex->b∉ch:=λb o e hx hb=>by
  rcases(hch b hb).1 with z|z
  .exact hx z
  .exact absurd (zag (zal e) z) (zaI _)
 have cellK:∀x c,X.env.cells.lookup x=some c->∀v,s.heap.IsCell c v->h'.IsCell c v:=λx c e v ⟨o,ho,hd⟩=>by
  have nch:c∉ch:=λz=>(hch c z).2.2.1 x c e rfl;by_cases hc:c∈X.fs
  .obtain⟨sl,q⟩:=slot c o (I.cne x c e) hc nch ho (I.freeC x c e);exact⟨_,q,hd⟩
  .exact⟨o,keep c o (I.cne x c e) hc nch ho (I.freeC x c e),hd⟩
 refine⟨I.ok,I.os,hg,⟨λb o e n hb hx=>?_,λb o e n hb hx=>?_,λb o e n hx=>?_,λb o e hx=>?_,λb xs e=>tups b xs (I.base.tups b xs e),λb o xs e=>frzs b o xs (I.base.frzs b o xs e),λb ps e=>?_⟩,?_,λx c e=>?_,?_,λx c e=>?_,λp hp=>?_,hok,I.len,I.hid⟩
 .exact keep b o (neL b o e) hb (neC b o e hx) (I.base.keep b o e n hb hx) (I.base.free b o e n hx)
 .obtain⟨sl,e1⟩:=I.base.slot b o e n hb hx;obtain⟨sl',e2⟩:=slot b _ (neL b o e) hb (neC b o e hx) e1 (I.base.free b o e n hx);exact⟨sl',e2⟩
 .obtain⟨o',e1⟩:=I.base.there b o e hx;exact free b o' (neC b o e hx) e1 (I.base.free b o e n hx)
 .obtain⟨o',e1⟩:=I.base.there b o e hx;exact there b o' (neC b o e hx) e1
 .exact tbls b ps (I.base.tbls b ps e)
 .obtain⟨m,hn,hl⟩:=I.loc;refine⟨m,ns m hn,λi x v e1 e2 e3=>?_⟩;obtain⟨u,r,l⟩:=hl i x v e1 e2 e3;refine⟨u,r,?_⟩;rcases l with l|⟨k,c,e,z⟩
  .exact .inl l
  .exact .inr ⟨k,c,e,cellK x c e _ z⟩
 .obtain⟨v,z⟩:=I.cell x c e;exact⟨v,cellK x c e v z⟩
 .obtain⟨m,⟨o,_,_,ho,_⟩,_⟩:=I.loc;exact free _ o (λz=>(hch _ z).2.1 rfl) ho I.free
 .obtain⟨v,o,ho,hd⟩:=I.cell x c e;exact free c o (λz=>(hch c z).2.2.1 x c e rfl) ho (I.freeC x c e)
 .obtain⟨e,n,ne,nf,d⟩:=I.pin p hp;have nch:p.1∉ch:=λz=>(hch p.1 z).2.2.2 p hp rfl;exact⟨keep p.1 p.2 ne nf nch e n,free p.1 p.2 nch e n,ne,nf,d⟩
def Inv.un(I:Inv X ρ σ H s)(u:Un X.fs [] H H' s.heap h')(hok:HOk X.prog X.w H' h'):Inv X ρ σ H' { s with heap:=h',toks:=t' }:=by
 obtain⟨m,⟨o,es,ep,ho,r⟩,_⟩:=id I.loc;obtain⟨sl,hL⟩:=u.any ho I.free (by simp);exact I.step (g':=s.gens) (d':=s.drawn) (ch:=[]) (λ_ z=>nomatch z) (λb o _ hb _ e n=>u.keep b o e n hb (by simp)) (λb o _ hb _ e n=>u.slot b o e n hb (by simp)) (λb o _ e n=>u.free b o e n (by simp)) (λb o _ e=>u.there b o e (by simp)) u.tups u.frzs u.tbls (λm' hm=>by
  obtain⟨o',es',ep',ho',r'⟩:=hm;rw[ho]at ho';cases ho';exact⟨_,es',ep',hL,r'⟩) hok I.bare
def Inv.call(I:Inv X ρ σ H s)(u:Un (frs X.stack) ch H H' s.heap h')(hok:HOk X.prog X.w H' h')(hg:AllBare g')
  (hch:∀b∈ch,(b∈X.ex\/X.s₀.heap.objs.size<=b)/\b≠X.env.locals/\(∀x c,X.env.cells.lookup x=some c->c≠b)/\∀p∈X.pn++ρ,p.1≠b):
  Inv X ρ σ H' { s with heap:=h',gens:=g',drawn:=d',toks:=t' }:=by
 obtain⟨m,⟨o,es,ep,ho,r⟩,_⟩:=id I.loc;obtain⟨sl,hL⟩:=u.any ho I.free λz=>(hch _ z).2.1 rfl;exact I.step (ch:=ch) hch (λb o hL hb hc e n=>u.keep b o e n (λz=>(zay.mp (I.stkSub b z)).elim hL hb) hc) (λb o _ _ hc e n=>u.any e n hc) (λb o hc e n=>u.free b o e n hc) (λb o hc e=>u.there b o e hc) u.tups u.frzs u.tbls (λm' hm=>by
  obtain⟨o',es',ep',ho',r'⟩:=hm;rw[ho]at ho';cases ho';exact⟨_,es',ep',hL,r'⟩) hok hg
def Inv.turned{it:Addr}(I:Inv X ρ σ H s)(k:∀b o,b≠it->s.heap.get? b=some o->h'.get? b=some o)(hn:H it=none)(hL:it≠X.env.locals)
  (h1:it∈X.ex\/X.s₀.heap.objs.size<=it) (h2:∀x c,X.env.cells.lookup x=some c->c≠it) (h3:∀p∈X.pn++ρ,p.1≠it):Inv X ρ σ H { s with heap:=h',toks:=t' }:=by
 have nit:∀b u,H b=some u->b≠it:=λb u e z=>by rw[z,hn]at e;cases e
 refine I.step (g':=s.gens) (d':=s.drawn) (ch:=[it]) (λb hb=>?_) (λb o _ _ hc e _=>k b o (λz=>hc (by simp[z])) e) (λb o _ _ hc e _=>⟨o.slots,k b o (λz=>hc (by simp[z])) e⟩) (λ_ _ _ _ n=>n)
  (λb o hc e=>⟨o,k b o (λz=>hc (by simp[z])) e⟩) (λ_ _ e=>e) (λ_ _ _ e=>e) (λ_ _ e=>e) (λm hm=>?_) (λb u e=>?_) I.bare
 .have e:b=it:=by simpa using hb
  subst e;exact⟨h1,hL,h2,h3⟩
 .obtain⟨o,es,ep,ho,r⟩:=hm;exact⟨o,es,ep,k _ o (Ne.symm hL) ho,r⟩
 .refine(I.hok b u e).stay (λc v hc q=>k c v ?_ q) (λ_ q=>q) λ_ _ _ q=>q;rcases hc with z|z
  .rw[z];exact nit b u e
  .exact nit c _ z
def Inv.tok(I:Inv X ρ σ H s)(t:Nat):Inv X ρ σ H { s with toks:=t }:=I.un (h':=s.heap) (t':=t) Un.refl I.hok
def Inv.kept{t':Nat}(I:Inv X ρ σ H s)(k:∀b u,s.heap.get? b=some u->h'.get? b=some u):Inv X ρ σ H { s with heap:=h',toks:=t' }:=I.un (Un.kept k) (I.hok.kept k)
def Inv.laid{a:Addr}{o:HO}{t':Nat}(I:Inv X ρ σ H s)(k:∀b u,s.heap.get? b=some u->h'.get? b=some u)(hp:s.heap.objs.size<=a)(new:ObjOk X.prog X.w (upd H a o) h' a o):
  Inv X ρ σ (upd H a o) { s with heap:=h',toks:=t' }:=I.un (Un.laid k hp (I.hok.fresh hp)) (I.hok.laid k hp new)
def Inv.write{x e:Addr}{o:HO}{t':Nat}(I:Inv X ρ σ H s)(mu:Mut (H x))(he:e=x\/H e=some (.own x))(k:∀b u,b≠e->s.heap.get? b=some u->h'.get? b=some u)(heo:∃u,h'.get? e=some u)
  (new:ObjOk X.prog X.w (upd H x o) h' x o):Inv X ρ σ (upd H x o) { s with heap:=h',toks:=t' }:=I.un (Un.write mu he k heo) (I.hok.write mu he k heo new)
def Inv.pins_of{pins':List (Addr×Obj)}(I:Inv X ρ σ H s)(h:∀p∈pins',s.heap.get? p.1=some p.2/\H p.1=none/\p.1≠X.env.locals/\p.1∉X.fs/\∀v,p.2.data≠.cell v):Inv X pins' σ H s:=
 ⟨I.ok,I.os,I.bare,I.base,I.loc,I.cell,I.free,I.freeC,λp hp=>(zax.mp hp).elim (λz=>I.pin p (zbf _ z)) (h p),I.hok,I.len,I.hid⟩
def Inv.hidSet{w:Option V}(I:Inv X ρ σ H s)(hi:X.N[i]?=some x)(hx:Vis X.env.scope x):∀j u,X.hide j=some u->(∀v,(σ.set i w)[j]?=some (some v)->v=u)/\∀x,X.N[j]?=some x->¬Vis X.env.scope x:=λj u e=>by
 have ne:i≠j:=λz=>by
  subst z;exact(I.hid i u e).2 x hi hx
 exact⟨λv q=>(I.hid j u e).1 v (by rwa[zaO ne]at q),(I.hid j u e).2⟩
def pD(hN:N.Nodup)(a:N[i]?=some x)(b:N[j]?=some x):i=j:=by
 obtain⟨h1,e1⟩:=zah.mp a;obtain⟨h2,e2⟩:=zah.mp b;exact(List.getElem_inj hN).mp (e1.trans e2.symm)
def nJ{Q:Unit->Shared->Prop}(I:Inv X ρ σ H s)(hN:X.N.Nodup)(hi:X.N[i]?=some x)(hx:Loc X.env.scope x)(r:RelV v u)
  (h:∀s',Inv X ρ (σ.set i (some v)) H s'->(∃a,Heap.SameBut a s.heap s'.heap/\(a=X.env.locals\/X.env.cells.lookup x=some a))->Q () s') (hf:X.fn x=true\/X.env.scope.names.lookup x=some .local:=by first|exact .inl rfl|exact .inr rfl|assumption):wpAny M A (storeName X.env x u) Q E s:=by
 obtain⟨m,hn,hl⟩:=id I.loc;have hcls:(X.env.scope.kind==.class || (X.env.scope.kind==.module&&X.env.locals != X.env.globals))=false:=by rw[I.ok.kind];rfl
 have hiσ:i<σ.length:=by rw[I.len];exact(zah.mp hi).1
 have cne:=I.cne;have tracked:∀{a:Addr} {h':Heap},(∃o,s.heap.get? a=some o/\H a=none)->Heap.SameBut a s.heap h'->HOk X.prog X.w H h':=λ{a h'} ha hs b ob e=>by
  obtain⟨_,_,hfree⟩:=ha;refine(I.hok b ob e).stay (λc w' hc q=>(hs.2 c ?_).trans q) (λ_ q=>q) λ_ _ _ q=>q;rintro rfl;rcases hc with rfl|hc
  .rw[hfree]at e;cases e
  .rw[hfree]at hc;cases hc
 rcases hx with hk|hk
 .refine wpAny_storeName_local hk hn (λh' hn' hs=>?_) hcls;obtain⟨oL,_,_,hoL,_⟩:=id hn;refine h _ ⟨I.ok,I.os,I.bare,⟨λb o e n hb hx=>?_,λb o e n hb hx=>?_,I.base.free,λb o e hx=>?_,I.base.tups,I.base.frzs,I.base.tbls⟩,⟨_,hn',λj y v' e1 e2 e3=>?_⟩,λy c e=>?_,I.free,I.freeC,λp hp=>?_,tracked ⟨oL,hoL,I.free⟩ hs,by simpa using I.len,I.hidSet hi (.inl hk)⟩ ⟨_,hs,.inl rfl⟩
  .exact(hs.2 b (zaw (zag (zal e) I.ok.above))).trans (I.base.keep b o e n hb hx)
  .obtain⟨sl,e1⟩:=I.base.slot b o e n hb hx;exact⟨sl,(hs.2 b (zaw (zag (zal e) I.ok.above))).trans e1⟩
  .obtain⟨o',e1⟩:=I.base.there b o e hx;exact⟨o',(hs.2 b (zaw (zag (zal e) I.ok.above))).trans e1⟩
  .by_cases hj:j=i
   .subst hj;rw[hi]at e1;cases e1;rw[zaP hiσ]at e2;cases e2;exact⟨u,r,.inl ⟨hk,by simp⟩⟩
   .rw[zaO (Ne.symm hj)]at e2;obtain⟨u',r',q⟩:=hl j y v' e1 e2 e3;refine⟨u',r',?_⟩;rcases q with⟨k,e⟩|⟨k,c,e,z⟩
    .refine .inl ⟨k,?_⟩
     have:y≠x:=λe=>hj (pD hN e1 (e▸hi));simp[this,e]
    .exact .inr ⟨k,c,e,z.sameBut hs (cne y c e)⟩
  .obtain⟨w',z⟩:=I.cell y c e;exact⟨w',z.sameBut hs (cne y c e)⟩
  .obtain⟨e,n,ne,nf,d⟩:=I.pin p hp;exact⟨(hs.2 p.1 ne).trans e,n,ne,nf,d⟩
 .have hfn:X.fn x=true:=by
   rcases hf with z|z
   .exact z
   .rw[z]at hk;cases hk
  obtain⟨c,hc⟩:=I.ok.has x (.inl hk);obtain⟨w',z⟩:=I.cell x c hc;refine wpAny_storeName_cell I.ok.kind hk hc z (λh' hc' hs=>?_);obtain⟨oc,hoc,hocd⟩:=id z;refine h { s with heap:=h' } ⟨I.ok,I.os,I.bare,⟨λb o e n hb hx=>?_,λb o e n hb hx=>?_,I.base.free,λb o e hx=>?_,I.base.tups,I.base.frzs,I.base.tbls⟩,⟨m,hn.sameBut hs (Ne.symm (cne x c hc)),λj y v' e1 e2 e3=>?_⟩,λy c' e=>?_,I.free,I.freeC,λp hp=>?_,tracked ⟨oc,hoc,I.freeC x c hc⟩ hs,by simpa using I.len,I.hidSet hi (.inr (.inl hk))⟩ ⟨c,hs,.inr hc⟩
  .exact(hs.2 b (zaw (zag (zal e) (I.ok.cab x c hfn hc)))).trans (I.base.keep b o e n hb hx)
  .obtain⟨sl,e1⟩:=I.base.slot b o e n hb hx;exact⟨sl,(hs.2 b (zaw (zag (zal e) (I.ok.cab x c hfn hc)))).trans e1⟩
  .obtain⟨o',e1⟩:=I.base.there b o e hx;exact⟨o',(hs.2 b (zaw (zag (zal e) (I.ok.cab x c hfn hc)))).trans e1⟩
  .by_cases hj:j=i
   .subst hj;rw[hi]at e1;cases e1;rw[zaP hiσ]at e2;cases e2;exact⟨u,r,.inr ⟨.inl hk,c,hc,hc'⟩⟩
   .rw[zaO (Ne.symm hj)]at e2;obtain⟨u',r',q⟩:=hl j y v' e1 e2 e3;refine⟨u',r',?_⟩;rcases q with q|⟨k,c',e,z'⟩
    .exact .inl q
    .refine .inr ⟨k,c',e,z'.sameBut hs ?_⟩;rintro rfl;exact hj (pD hN e1 (I.ok.inj _ _ _ e hc▸hi))
  .by_cases hcc:c'=c
   .subst hcc;exact⟨_,hc'⟩
   .obtain⟨w2,z2⟩:=I.cell y c' e;exact⟨w2,z2.sameBut hs hcc⟩
  .obtain⟨e,n,ne,nf,d⟩:=I.pin p hp;refine⟨(hs.2 p.1 ?_).trans e,n,ne,nf,d⟩;intro q;rw[q,hoc]at e;have q':oc=p.2:=zat e;exact d w' (by rw[<-q'];exact hocd)
def oX{Q:Unit->Shared->Prop}(I:Inv X ρ σ H s)(hN:X.N.Nodup)(hi:X.N[i]?=some x)(hx:Loc X.env.scope x)(r:RelV v u)
  (h:∀s',Inv X ρ (σ.set i (some v)) H s'->Q () s') (hf:X.fn x=true\/X.env.scope.names.lookup x=some .local:=by first|exact .inl rfl|exact .inr rfl|assumption):wpAny M A (storeName X.env x u) Q E s:=
 nJ I hN hi hx r (λs' I' _=>h s' I') hf
def Inv.call'(I:Inv X ρ σ H s)(ho:s'.os=s.os)(u:Un (frs X.stack) ch H H' s.heap s'.heap)(hok:HOk X.prog X.w H' s'.heap)(hg:AllBare s'.gens)
  (hch:∀b∈ch,(b∈X.ex\/X.s₀.heap.objs.size<=b)/\b≠X.env.locals/\(∀x c,X.env.cells.lookup x=some c->c≠b)/\∀p∈X.pn++ρ,p.1≠b):Inv X ρ σ H' s':=by
 obtain⟨h',g',d',t',o'⟩:=s';have e:o'=s.os:=ho;subst e;exact I.call (g':=g') (t':=t') (d':=d') u hok hg hch
end
abbrev XK:=Value->Option Addr->Hp->Prop
abbrev St:=List (Option V)
variable{σ:St}
abbrev VK:=V->Hp->Prop
abbrev TE:=St->Hp->VK->Prop
variable{ta tb t te:TE}
abbrev TT:=St->Hp->(Bool->Hp->Prop)->Prop
variable{tc:TT}
abbrev TA:=St->Hp->(List V->Hp->Prop)->Prop
structure Ends where
 nx:St->Hp->Prop
 rt:VK
 bk:St->Hp->Prop:=λ_ _=>False
 ct:St->Hp->Prop:=λ_ _=>False
abbrev TS:=Ends->St->Hp->Prop
inductive EP(X:Cx)(ρ:List (Addr×Obj))(σ:St)(Q:VK)(u:Value)(s':Shared):Prop
 |mk (v:V) (H':Hp) (I:Inv X ρ σ H' s') (r:RelV v u) (q:Q v H')
inductive TP(X:Cx)(ρ:List (Addr×Obj))(σ:St)(Q:Bool->Hp->Prop)(b:Bool)(s':Shared):Prop
 |mk (H':Hp) (I:Inv X ρ σ H' s') (q:Q b H')
inductive AP(X:Cx)(ρ:List (Addr×Obj))(σ:St)(Q:List V->Hp->Prop)(us:List Value)(s':Shared):Prop
 |mk (vs:List V) (H':Hp) (I:Inv X ρ σ H' s') (r:Vals vs us) (q:Q vs H')
inductive SP1(X:Cx)(ρ:List (Addr×Obj))(N:St->Hp->Prop)(s':Shared):Prop
 |mk (σ':St) (H':Hp) (I:Inv X ρ σ' H' s') (q:N σ' H')
inductive SP2(X:Cx)(ρ:List (Addr×Obj))(N:VK)(u:Value)(s':Shared):Prop
 |mk (v:V) (σ':St) (H':Hp) (I:Inv X ρ σ' H' s') (r:RelV v u) (q:N v H')
def SP(X:Cx)(ρ:List (Addr×Obj))(D:Ends)(f:Flow)(s':Shared):Prop:=
 match f with
 |.next=>SP1 X ρ D.nx s'
 |.brk=>SP1 X ρ D.bk s'
 |.cont=>SP1 X ρ D.ct s'
 |.ret u=>SP2 X ρ D.rt u s'
def PE(X:Cx)(e:Expr)(t:TE):Prop:=
 ∀(ρ:List (Addr×Obj)) (s:Shared) (σ:St) (H:Hp) (Q:VK),Inv X ρ σ H s->t σ H Q->wpAny (model X.prog X.w) X.A (eval e X.env) (EP X ρ σ Q) X.xe s
structure QE(X:Cx)(e:Expr)(t:TE):Prop where
 h:PE X e t
def PT(X:Cx)(e:Expr)(t:TT):Prop:=
 ∀(ρ:List (Addr×Obj)) (s:Shared) (σ:St) (H:Hp) (Q:Bool->Hp->Prop),Inv X ρ σ H s->t σ H Q->wpAny (model X.prog X.w) X.A (isTrue e X.env (eval e X.env)) (TP X ρ σ Q) X.xe s
structure QT(X:Cx)(e:Expr)(t:TT):Prop where
 h:PT X e t
def PW(X:Cx)(e:Expr)(t:TT):Prop:=
 ∀(χ:Sem Value) (ρ:List (Addr×Obj)) (s:Shared) (σ:St) (H:Hp) (Q:Bool->Hp->Prop),Inv X ρ σ H s->t σ H Q->wpAny (model X.prog X.w) X.A (isTrue e X.env χ) (TP X ρ σ Q) X.xe s
structure QW(X:Cx)(e:Expr)(t:TT):Prop where
 h:PW X e t
def PW.pt{t:TT}(h:PW X e t):PT X e t:=h _
def PA(X:Cx)(es:List Expr)(t:TA):Prop:=
 ∀(pos:Pos) (ρ:List (Addr×Obj)) (s:Shared) (σ:St) (H:Hp) (Q:List V->Hp->Prop),Inv X ρ σ H s->t σ H Q->wpAny (model X.prog X.w) X.A (spliced (backTo pos (starEach es X.env))) (AP X ρ σ Q) X.xe s
structure QA(X:Cx)(e:List Expr)(t:TA):Prop where
 h:PA X e t
def PS(X:Cx)(st:Stmt)(t:TS):Prop:=
 ∀(ρ:List (Addr×Obj)) (s:Shared) (σ:St) (H:Hp) (D:Ends),Inv X ρ σ H s->t D σ H->wpAny (model X.prog X.w) X.A (exec st X.env) (SP X ρ D) X.xe s
structure QS(X:Cx)(e:Stmt)(t:TS):Prop where
 h:PS X e t
def PSs(X:Cx)(st:List Stmt)(t:TS):Prop:=
 ∀(ρ:List (Addr×Obj)) (s:Shared) (σ:St) (H:Hp) (D:Ends),Inv X ρ σ H s->t D σ H->wpAny (model X.prog X.w) X.A (execs st X.env) (SP X ρ D) X.xe s
structure QSs(X:Cx)(e:List Stmt)(t:TS):Prop where
 h:PSs X e t
def thn{α:Type}{t:Sem α}{Q Q':α->Shared->Prop}(h:wpAny M A t Q E s)(hQ:∀a s,Q a s->Q' a s):wpAny M A t Q' E s:=wpAny_mono h hQ λ_ _ x=>x
section
noncomputable def fT(i:Nat):TE:=λσ H Q=>∃v,σ[i]?=some (some v)/\Q v H
noncomputable def tC(v:V):TE:=λ_ H Q=>Q v H
def cF(hN:X.N[i]?=some x)(hv:Vis X.env.scope x)(hd:(x==("__debug__":Str))=false:=by decide)(hcd:(x==("__classdict__":Str))=false:=by decide):PE X (.Name x pos) (fT i):=by
 intro ρ s σ H Q I h;obtain⟨v,e,h⟩:=h;obtain⟨m,hn,hl⟩:=I.loc;obtain⟨u,r,l⟩:=hl i x v hN e hv;have fin:EP X ρ σ Q u s:=⟨v,H,I,r,h⟩;rcases l with⟨hk,hm⟩|⟨hk,c,hc,hcell⟩
 .exact wpAny_Name (wpAny_loadName_local I.ok.kind hk hn hm fin) hd
 .rcases hk with hk|hk
  .exact wpAny_Name (wpAny_loadName_cell I.ok.kind hk hc hcell fin) hd
  .exact wpAny_Name (wpAny_loadName_free I.ok.kind hk hc hcell fin hcd) hd
def pe_int{i j pos}:PE X (.Constant (.int i) j pos) (tC (.int i)):=λ_ _ _ H _ I h=>wpAny_Constant_int ⟨.int i,H,I.tok _,⟨_,rfl⟩,h⟩
def pe_bl{b j pos}:PE X (.Constant (.bool b) j pos) (tC (.bl b)):=λ_ _ _ H _ I h=>Constant_bool ⟨.bl b,H,I,rfl,h⟩
def pe_non{j pos}:PE X (.Constant .none j pos) (tC .non):=λ_ _ _ H _ I h=>Constant_none ⟨.non,H,I,rfl,h⟩
def pe_str{x j pos}:PE X (.Constant (.str x) j pos) (tC (.str x)):=λ_ _ _ H _ I h=>Calls.Constant_str ⟨.str x,H,I.tok _,⟨_,rfl⟩,h⟩
def Gl(X:Cx)(x:Str):Prop:=X.env.kindOf x=some .globalImplicit
def nc(I:Inv X ρ σ H s)(hg:Gl X x)(hm:X.mg x=some u)(h:Q u s)
  (hd:(x==("__debug__":Str))=false:=by decide):wpAny (model X.prog X.w) X.A (eval (.Name x pos) X.env) Q E s:=
 Calls.Name_function_global I.ok.kind hg (Calls.loadGlobal_global (by rw[I.ok.glob];exact I.mod.glob.keeps I.bk) hm h) hd
def ie(I:Inv X ρ σ H s)(hg:Gl X x)(hm:X.mg x=none)(hv:bootBuiltins x=some u)(h:Q u s)
  (hn:x≠"__name__":=by decide) (hd:(x==("__debug__":Str))=false:=by decide):wpAny (model X.prog X.w) X.A (eval (.Name x pos) X.env) Q E s:=by
 obtain⟨mb,h1,h2⟩:=I.mod.blt;exact Calls.Name_function_global I.ok.kind hg (Calls.loadGlobal_builtin (by rw[I.ok.glob];exact I.mod.glob.keeps I.bk) hm (by rw[I.ok.blt];exact h1.keeps I.bk) ((h2 x hn).trans hv) h) hd
def A9(hg:Gl X x)(hm:X.mg x=some u)(r:RelV v u)(hd:(x==("__debug__":Str))=false:=by decide):PE X (.Name x pos) (tC v):=
 λ_ _ _ H _ I h=>nc I hg hm ⟨v,H,I,r,h⟩ hd
def Bd(hg:Gl X x)(hm:X.mg x=none)(hv:bootBuiltins x=some u)(r:RelV v u)(hn:x≠"__name__":=by decide)(hd:(x==("__debug__":Str))=false:=by decide):PE X (.Name x pos) (tC v):=
 λ_ _ _ H _ I h=>ie I hg hm hv ⟨v,H,I,r,h⟩ hn hd
variable{a b:Expr} 
def PC(X:Cx)(op:CmpOp)(a b:Expr)(t:TE):Prop:=
 ∀(ρ:List (Addr×Obj)) (s:Shared) (σ:St) (H:Hp) (Q:VK),Inv X ρ σ H s->t σ H Q ->
  wpAny (model X.prog X.w) X.A (eval a X.env) (λv s₁=>wpAny (model X.prog X.w) X.A (eval b X.env) (λu s₂=>wpAny (model X.prog X.w) X.A (compareOp op v u) (EP X ρ σ Q) X.xe s₂) X.xe s₁) X.xe s
def wC(b:Expr)(h:op≠.In)(h2:op≠.NotIn):behindInMarks op b=false:=by
 have e1:(op==CmpOp.In)=false:=by cases op<;>first|rfl|exact absurd rfl h
 have e2:(op==CmpOp.NotIn)=false:=by cases op<;>first|rfl|exact absurd rfl h2
 cases b<;>simp[behindInMarks,e1,e2]
def tB(t:TE):TT:=λσ H Q=>t σ H λx H1=>∃c,x=.bl c/\Q c H1
def uH(h:PC X op a b t)(h1:behindInMarks op b=false:=by first|exact wC _ (by decide) (by decide)|rfl):PT X (.Compare a [op] [b] pos) (tB t):=by
 intro ρ s σ H Q I hw;refine wpAny_isTrue_Compare1 (thn (h ρ s σ H _ I hw) λv s1 h1=>thn h1 λu s2 h2=>thn h2 λc s3 ⟨x,H1,I1,r1,q1⟩=>?_) h1;obtain⟨d,rfl,q⟩:=q1;cases r1;exact zbA ⟨H1,I1,q⟩
def Ei(h:PE X e t)(he:∀χ,isTrue e X.env χ=(do let v <-χ;standAt e.pos;holding [v] (truthy v)):=by intro _;rfl):PT X e (tB t):=by
 intro ρ s σ H Q I hw;refine isTrue_plain (thn (h ρ s σ H _ I hw) λv s1 ⟨x,H1,I1,r1,q1⟩=>?_) (he _);obtain⟨d,rfl,q⟩:=q1;cases r1;exact zbA ⟨H1,I1,q⟩
variable{tA tB':TT}{rest:List Expr}
def D8(t u:TT):TT:=λσ H Q=>t σ H λc H1=>if c=true then u σ H1 Q else Q false H1
def tOr(t u:TT):TT:=λσ H Q=>t σ H λc H1=>if c=true then Q true H1 else u σ H1 Q
def D0(t:TT):TT:=λσ H Q=>t σ H λc H1=>Q (!c) H1
def AZ(ha:PT X a tA):PW X (.BoolOp .And [a] pos) tA:=by
 intro wh ρ s σ H Q I h;refine isTrue_and (thn (ha ρ s σ H Q I h) λc s1 e=>?_);cases c with
 |true=>exact isTrue_and_nil e
 |false=>exact e
def Ef(ha:PT X a tA):PW X (.BoolOp .Or [a] pos) tA:=by
 intro wh ρ s σ H Q I h;refine isTrue_or (thn (ha ρ s σ H Q I h) λc s1 e=>?_);cases c with
 |false=>exact isTrue_or_nil e
 |true=>exact e
def Eg(ha:PT X a tA)(hb:PW X (.BoolOp .And (b::rest) pos) tB'):PW X (.BoolOp .And (a::b::rest) pos) (D8 tA tB'):=by
 intro wh ρ s σ H Q I h;refine isTrue_and (thn (ha ρ s σ H _ I h) λc s1 ⟨H1,I1,q1⟩=>?_);cases c with
 |true=>exact hb wh ρ s1 σ H1 Q I1 q1
 |false=>exact⟨H1,I1,q1⟩
def Gs(ha:PT X a tA)(hb:PW X (.BoolOp .Or (b::rest) pos) tB'):PW X (.BoolOp .Or (a::b::rest) pos) (tOr tA tB'):=by
 intro wh ρ s σ H Q I h;refine isTrue_or (thn (ha ρ s σ H _ I h) λc s1 ⟨H1,I1,q1⟩=>?_);cases c with
 |true=>exact⟨H1,I1,q1⟩
 |false=>exact hb wh ρ s1 σ H1 Q I1 q1
def Ej(ha:PT X a tA):PT X (.UnaryOp .Not a pos) (D0 tA):=by
 intro ρ s σ H Q I h;exact isTrue_not (thn (ha ρ s σ H (λc H1=>Q (!c) H1) I h) λ_ _ ⟨H1,I1,q⟩=>⟨H1,I1,q⟩)
noncomputable def Ai(ta tb:TE):TE:=λσ H Q=>ta σ H λx H1=>∃c,x=.bl c/\if c=true then tb σ H1 Q else Q (.bl false) H1
noncomputable def DZ(ta tb:TE):TE:=λσ H Q=>ta σ H λx H1=>∃c,x=.bl c/\if c=true then Q (.bl true) H1 else tb σ H1 Q
noncomputable def Ae(ta:TE):TE:=λσ H Q=>ta σ H λx H1=>∃c,x=.bl c/\Q (.bl (!c)) H1
def Er{op}(h:PE X a t):PE X (.BoolOp op [a] pos) t:=λρ s σ H Q I hw=>BoolOp_one (h ρ s σ H Q I hw)
def Ev(ha:PE X a ta)(hb:PE X (.BoolOp .And (b::rest) pos) tb):PE X (.BoolOp .And (a::b::rest) pos) (Ai ta tb):=by
 intro ρ s σ H Q I h;refine BoolOp_and (thn (ha ρ s σ H _ I h) λv s1 ⟨x,H1,I1,r1,q1⟩=>?_);obtain⟨c,rfl,q1⟩:=q1;cases r1;refine zbA ?_;cases c with
 |true=>exact hb ρ s1 σ H1 Q I1 q1
 |false=>exact⟨.bl false,H1,I1,rfl,q1⟩
def Gw(ha:PE X a ta)(hb:PE X (.BoolOp .Or (b::rest) pos) tb):PE X (.BoolOp .Or (a::b::rest) pos) (DZ ta tb):=by
 intro ρ s σ H Q I h;refine BoolOp_or (thn (ha ρ s σ H _ I h) λv s1 ⟨x,H1,I1,r1,q1⟩=>?_);obtain⟨c,rfl,q1⟩:=q1;cases r1;refine zbA ?_;cases c with
 |false=>exact hb ρ s1 σ H1 Q I1 q1
 |true=>exact⟨.bl true,H1,I1,rfl,q1⟩
def Es(ha:PE X a ta):PE X (.UnaryOp .Not a pos) (Ae ta):=by
 intro ρ s σ H Q I h;refine UnaryOp_ (thn (ha ρ s σ H _ I h) λv s1 ⟨x,H1,I1,r1,q1⟩=>?_);obtain⟨c,rfl,q1⟩:=q1;cases r1;exact not_of (zbA ⟨.bl (!c),H1,I1,rfl,q1⟩)
def tIf(t:TT)(ta tb:TE):TE:=λσ H Q=>t σ H λc H1=>if c=true then ta σ H1 Q else tb σ H1 Q
def wm(hc:PT X c tA)(ha:PE X a ta)(hb:PE X b tb):PE X (.IfExp c a b pos) (tIf tA ta tb):=by
 intro ρ s σ H Q I h;refine wpAny_IfExp (thn (hc ρ s σ H _ I h) λd s1 ⟨H1,I1,q1⟩=>?_);cases d with
 |true=>exact ha ρ s1 σ H1 Q I1 q1
 |false=>exact hb ρ s1 σ H1 Q I1 q1
end
def SqL(K:zbV)(H:Hp)(a:Addr)(xs:List V):Prop:=
 Rd H a (.lst xs) \/
  ∃(o:Obj) (its:Array Value) (n:Nat),K.lookup a=some o/\o.cls=.type "list"/\o.dict=none/\o.data=.seq its n/\its.size<=sizeLine/\Vals xs its.toList
def SqT(K:zbV)(H:Hp)(a:Addr)(xs:List V):Prop:=
 Rd H a (.tup xs) \/
  ∃(o:Obj) (its:Array Value) (n:Nat),K.lookup a=some o/\o.cls=.type "tuple"/\o.data=.seq its n/\its.size<=sizeLine/\Vals xs its.toList
noncomputable def HH:Value->Option V
 |.none=>some .non
 |.bool b=>some (.bl b)
 |.int i _=>some (.int i)
 |.str x _=>some (.str x)
 |.bytes b _=>some (.byt b)
 |.float b _=>some (.flt b)
 |.ref a=>some (.ref a)
 |.type n=>some (.ty n)
 |_=>none
def RelV.abs{x:V}(r:RelV x u):HH u=some x:=by
 cases x with
 |non=>cases r;rfl
 |bl _=>cases r;rfl
 |int _=>obtain⟨t,rfl⟩:=r;rfl
 |str _=>obtain⟨t,rfl⟩:=r;rfl
 |byt _=>obtain⟨t,rfl⟩:=r;rfl
 |flt _=>obtain⟨t,rfl⟩:=r;rfl
 |ref _=>cases r;rfl
 |ty _=>cases r;rfl
def RelV.inj{x:V}(r:RelV x u)(q:RelV y u):x=y:=zat (r.abs.symm.trans q.abs)
theorem Vals.inj:∀{xs ys:List V} {us:List Value},Vals xs us->Vals ys us->xs=ys
 |_,_,_,.nil,.nil=>rfl
 |_,_,_,.cons r t,.cons r' t'=>by rw[r.inj r',Vals.inj t t']
section
variable{xs ys:List V}
def SqL.of(h:H a=some (.lst xs)):SqL K H a xs:=.inl (.inl h)
def SqT.of(h:H a=some (.tup xs)):SqT K H a xs:=.inl (.inl h)
def Inv.list(I:Inv X ρ σ H s)(h:SqL X.K H a xs):∃its:List Value,Vals xs its/\PlainL s.heap a its.toArray/\xs.length<=sizeLine:=by
 rcases h with h|⟨o,its,n,hk,hc,hd,hs,hz,r⟩
 .obtain⟨z,its,n,r,e⟩:=h.ok I.hok;exact⟨its,r,⟨_,n,e,rfl,rfl,rfl⟩,z⟩
 .refine⟨its.toList,r,⟨o,n,I.kIn a o hk,hc,hd,by simpa using hs⟩,?_⟩;have e:=r.length;simp only[zaY]at e
  lia
def Inv.tuple(I:Inv X ρ σ H s)(h:SqT X.K H a xs):∃its:List Value,Vals xs its/\IsTup s.heap a its.toArray/\xs.length<=sizeLine:=by
 rcases h with h|⟨o,its,n,hk,hc,hs,hz,r⟩
 .obtain⟨z,its,r,p⟩:=h.ok I.hok;exact⟨its,r,p.tup,z⟩
 .refine⟨its.toList,r,⟨o,I.kIn a o hk,hc,n,by simpa using hs⟩,?_⟩;have e:=r.length;simp only[zaY]at e
  lia
def Inv.list_inj(I:Inv X ρ σ H s)(h:SqL X.K H a xs)(h':SqL X.K H a ys):xs=ys:=by
 obtain⟨its,r,⟨o,n,e,_,_,d⟩,_⟩:=I.list h;obtain⟨its',r',⟨o',n',e',_,_,d'⟩,_⟩:=I.list h';rw[e]at e';cases e';rw[d]at d';injection d' with d1 _
 have:its=its':=by simpa using congrArg Array.toList d1
 subst this;exact r.inj r'
def Inv.tuple_inj(I:Inv X ρ σ H s)(h:SqT X.K H a xs)(h':SqT X.K H a ys):xs=ys:=by
 obtain⟨its,r,⟨o,e,_,n,d⟩,_⟩:=I.tuple h;obtain⟨its',r',⟨o',e',_,n',d'⟩,_⟩:=I.tuple h';rw[e]at e';cases e';rw[d]at d';injection d' with d1 _
 have:its=its':=by simpa using congrArg Array.toList d1
 subst this;exact r.inj r'
end
abbrev Cx.wish(X:Cx)(E:Value->Shared->Prop):Cx:={ X with xe:=E }
abbrev Cx.nox(X:Cx):Cx:=X.wish λ_ _=>False
def Cx.Ok.wish(ok:X.Ok)(E:Value->Shared->Prop):(X.wish E).Ok:=
 ⟨ok.mod,ok.kind,ok.glob,ok.blt,ok.above,ok.inj,ok.has,ok.cab,ok.hd,ok.frames,ok.stk,ok.exf,ok.bs,ok.bsz,ok.noex,ok.exfs,ok.funs,ok.frf,ok.reg⟩
def Cx.Ok.unwish(ok:(X.wish E).Ok):X.Ok:=
 ⟨ok.mod,ok.kind,ok.glob,ok.blt,ok.above,ok.inj,ok.has,ok.cab,ok.hd,ok.frames,ok.stk,ok.exf,ok.bs,ok.bsz,ok.noex,ok.exfs,ok.funs,ok.frf,ok.reg⟩
def Inv.wish(I:Inv X ρ σ H s)(E:Value->Shared->Prop):Inv (X.wish E) ρ σ H s:=⟨I.ok.wish E,I.os,I.bare,I.base,I.loc,I.cell,I.free,I.freeC,I.pin,I.hok,I.len,I.hid⟩
def Inv.unwish(I:Inv (X.wish E) ρ σ H s):Inv X ρ σ H s:=⟨I.ok.unwish,I.os,I.bare,I.base,I.loc,I.cell,I.free,I.freeC,I.pin,I.hok,I.len,I.hid⟩
theorem SP.unwish{D:Ends}{f:Flow}{s':Shared}(h:SP (X.wish E) ρ D f s'):SP X ρ D f s':=by
 cases f with
 |next=>obtain⟨σ',H',I,q⟩:=h;exact⟨σ',H',I.unwish,q⟩
 |brk=>obtain⟨σ',H',I,q⟩:=h;exact⟨σ',H',I.unwish,q⟩
 |cont=>obtain⟨σ',H',I,q⟩:=h;exact⟨σ',H',I.unwish,q⟩
 |ret u=>obtain⟨v,σ',H',I,r,q⟩:=h;exact⟨v,σ',H',I.unwish,r,q⟩
def PSs.nox{st:List Stmt}{t:TS}(h:PSs X.nox st t):PSs X st t:=λρ s σ H D I hw=>
 wpAny_mono (h ρ s σ H D (I.wish _) hw) (λ_ _ q=>q.unwish) λ_ _ z=>False.elim z
section
variable{st:Stmt}{rest:List Stmt}{t u:TS}  
noncomputable def Af:TS:=λD σ H=>D.nx σ H
noncomputable def DX(t u:TS):TS:=λD σ H=>t { D with nx:=u D } σ H
def pss_nil:PSs X [] Af:=λ_ _ σ H _ I h=>wpAny_execs_nil ⟨σ,H,I,h⟩
def v9(h1:PS X st t)(h2:PSs X rest u):PSs X (st::rest) (DX t u):=by
 intro ρ s σ H D I h;refine wpAny_execs_cons (thn (h1 ρ s σ H { D with nx:=u D } I h) λf s1 q=>?_);cases f with
 |next=>
  obtain⟨σ',H',I',q⟩:=q;exact h2 ρ s1 σ' H' D I' q
 |ret v=>exact q
 |brk=>exact q
 |cont=>exact q
def A4(h1:PS X st t):PSs X [st] t:=by
 intro ρ s σ H D I h;refine wpAny_execs_cons (thn (h1 ρ s σ H D I h) λf s1 q=>?_);cases f with
 |next=>exact wpAny_execs_nil q
 |ret v=>exact q
 |brk=>exact q
 |cont=>exact q
def Inv.quiet(I:Inv X ρ σ H s):interactive X.env=false:=by simp[interactive,I.ok.kind]
noncomputable def Ag(te:TE):TS:=λD σ H=>te σ H λ_ H1=>D.nx σ H1
def A5(he:PE X e te)(hs:swapsWith e none pos.line X.env=pure false:=by rfl):PS X (.Expr e pos) (Ag te):=by
 intro ρ s σ H D I h;exact wpAny_Expr_any (thn (he ρ s σ H _ I h) λv s1 ⟨x,H1,I1,r1,q1⟩=>⟨σ,H1,I1,q1⟩) I.quiet hs
noncomputable def DY(te:TE):TS:=λD σ H=>te σ H D.rt
def El(he:PE X e te):PS X (.Return (some e) pos) (DY te):=by
 intro ρ s σ H D I h;exact wpAny_Return_some (thn (he ρ s σ H _ I h) λv s1 ⟨x,H1,I1,r1,q1⟩=>⟨x,σ,H1,I1,r1,q1⟩)
def D3(c:TT)(t u:TS):TS:=λD σ H=>c σ H λb H1=>if b=true then t D σ H1 else u D σ H1
def Gv{a b:List Stmt}(hc:PT X c tc)(ha:PSs X a t)(hb:PSs X b u):PS X (.If c a b pos) (D3 tc t u):=by
 intro ρ s σ H D I h;refine wpAny_If (thn (hc ρ s σ H _ I h) λd s1 ⟨H1,I1,q1⟩=>?_);cases d with
 |true=>exact ha ρ s1 σ H1 D I1 q1
 |false=>exact hb ρ s1 σ H1 D I1 q1
noncomputable def uw:TS:=λ_ _ _=>False
def ps_never:PS X st uw:=λ_ _ _ _ _ _ h=>h.elim
end
abbrev TG:=V->St->Hp->(St->Hp->Prop)->Prop
abbrev TGs:=List V->St->Hp->(St->Hp->Prop)->Prop
def PG(X:Cx)(target:Expr)(t:TG):Prop:=
 ∀(ρ:List (Addr×Obj)) (s:Shared) (σ:St) (H:Hp) (v:V) (u:Value) (Q:St->Hp->Prop),Inv X ρ σ H s->RelV v u->t v σ H Q ->
  wpAny (model X.prog X.w) X.A (assign target X.env u) (λ_ s'=>SP1 X ρ Q s') X.xe s
structure QG(X:Cx)(e:Expr)(t:TG):Prop where
 h:PG X e t
def PGs(X:Cx)(ts:List Expr)(t:TGs):Prop:=
 ∀(ρ:List (Addr×Obj)) (s:Shared) (σ:St) (H:Hp) (vs:List V) (us:List Value) (Q:St->Hp->Prop),Inv X ρ σ H s->Vals vs us->t vs σ H Q ->
  wpAny (model X.prog X.w) X.A (assignInOrder ((assignEach ts X.env).map (·.2)) us) (λ_ s'=>SP1 X ρ Q s') X.xe s
structure QGs(X:Cx)(e:List Expr)(t:TGs):Prop where
 h:PGs X e t
abbrev xG:=V->V->V->Hp->(Hp->Prop)->Prop
def Gb(X:Cx)(t:xG):Prop:=
 ∀(ρ:List (Addr×Obj)) (s:Shared) (σ:St) (H:Hp) (o i v:V) (ov iv u:Value) (Q:Hp->Prop),Inv X ρ σ H s->RelV o ov->RelV i iv->RelV v u->t o i v H Q ->
  wpAny (model X.prog X.w) X.A (setItem ov iv u) (λ_ s'=>∃H',Inv X ρ σ H' s'/\Q H') X.xe s
noncomputable def mr(i:Nat):TG:=λv σ H Q=>Q (σ.set i (some v)) H
def A7(hN:X.N.Nodup)(hi:X.N[i]?=some x)(hx:Loc X.env.scope x)(hf:X.fn x=true\/X.env.scope.names.lookup x=some .local:=by first|exact .inl rfl|exact .inr rfl|assumption):PG X (.Name x pos) (mr i):=by
 intro ρ s σ H v u Q I r h;exact wpAny_assign_Name (oX I hN hi hx r (λs' I'=>⟨_,H,I',h⟩) hf)
noncomputable def Ff:TGs:=λvs σ H Q=>vs=[]/\Q σ H
noncomputable def AI(t:TG)(u:TGs):TGs:=λvs σ H Q=>∃v r,vs=v::r/\t v σ H λσ' H'=>u r σ' H' Q
def pgs_nil:PGs X [] Ff:=by
 intro ρ s σ H vs us Q I r h;obtain⟨e,h⟩:=h;subst e;cases r;exact assignInOrder_nil ⟨σ,H,I,h⟩
def wj{t:TG}{u:TGs}(h1:PG X e t)(h2:PGs X es u)
  (hs:(assignEach (e::es) X.env).map (·.2)=assign e X.env::(assignEach es X.env).map (·.2):=by rfl):PGs X (e::es) (AI t u):=by
 intro ρ s σ H vs us Q I r h;obtain⟨v,vr,e1,h⟩:=h;subst e1;cases r with
 |cons r rr=>
  rw[hs];refine assignInOrder_cons (thn (h1 ρ s σ H _ _ _ I r h) λ_ s1 ⟨σ1,H1,I1,q1⟩=>?_);exact h2 ρ s1 σ1 H1 _ _ Q I1 rr q1
noncomputable def Fe(K:zbV)(n:Nat)(t:TGs):TG:=λv σ H Q=>∃a xs,v=.ref a/\SqT K H a xs/\xs.length=n/\t xs σ H Q
def Eo{t:TGs}(hc:X.calm=true)(h:PGs X es t)
  (hn:(assignEach es X.env).length=n:=by rfl) (hst:(assignEach es X.env).findIdx? (·.1)=none:=by rfl):PG X (.Tuple es k pos) (Fe X.K n t):=by
 intro ρ s σ H v u Q I r hw;obtain⟨a,xs,e1,hq,hl,hw⟩:=hw;subst e1;cases r;obtain⟨its,rv,ht,hz⟩:=I.tuple hq;refine assign_Tuple_tuple (I.ok.hd hc) ht (by simp[hn,<-hl,rv.length]) hst λh' hx=>?_;have I1:Inv X ρ σ H { s with heap:=h' }:=I.kept (t':=s.toks) λb o e=>hx b o (zaw (zal e)) e;exact h ρ _ σ H xs _ Q I1 (by simpa using rv) hw
noncomputable def w6(to ti:TE)(t:xG):TG:=λv σ H Q=>to σ H λo H1=>ti σ H1 λi H2=>t o i v H2 λH3=>Q σ H3
def uL{o i:Expr}{to ti:TE}{t:xG}(ho:PE X o to)(hi:PE X i ti)(hs:Gb X t)
  (ha:∀v,assign (.Subscript o i pos) X.env v=(do
   let ov <-holding [v] (eval o X.env)
   let iv <-holding [v,ov] (eval i X.env)
   standAt pos
   holding [v,ov,iv] (setItem ov iv v)
   release [v,ov,iv] []):=by intro _;rfl):PG X (.Subscript o i pos) (w6 to ti t):=by
 intro ρ s σ H v u Q I r h;rw[ha];refine zam (zbR (thn (ho ρ s σ H _ I h) λov s1 ⟨x,H1,I1,r1,q1⟩=>?_));refine zam (zbR (thn (hi ρ s1 σ H1 _ I1 q1) λiv s2 ⟨y,H2,I2,r2,q2⟩=>?_));refine zam (wpAny_standAt (zam (zbR (thn (hs ρ s2 σ H2 x y v ov iv u _ I2 r1 r2 r q2) λ_ s3 ⟨H3,I3,q3⟩=>?_))));exact wpAny_release ⟨σ,H3,I3,q3⟩
noncomputable def lD(te:TE)(g:TG):TS:=λD σ H=>te σ H λx H1=>g x σ H1 D.nx
def pj{g:TG}(he:PE X e te)(hg:PG X tg g)(hs:swapsWithSole [tg] e pos.line X.env=pure false:=by rfl)(hw:swappedStores [tg] e X.env=pure none:=by rfl)
  (h1:(assignEach [tg] X.env).map (·.2)=[assign tg X.env]:=by rfl):PS X (.Assign [tg] e pos) (lD te g):=by
 intro ρ s σ H D I h;refine wpAny_Assign_stores (thn (he ρ s σ H _ I h) λv s1 ⟨x,H1,I1,r1,q1⟩=>?_) hs hw;rw[h1];exact thn (hg ρ s1 σ H1 x v _ I1 r1 q1) λ_ s2 q=>q
def Ek{pos':Pos}(hN:X.N.Nodup)(hi:X.N[i]?=some x)(hx:Loc X.env.scope x)(he:PE X e te)(hs:swapsWith e (some (.Name x pos')) pos.line X.env=pure false:=by rfl)(hf:X.fn x=true\/X.env.scope.names.lookup x=some .local:=by first|exact .inl rfl|exact .inr rfl|assumption):
  PS X (.Assign [.Name x pos'] e pos) (lD te (mr i)):=by
 intro ρ s σ H D I h;refine wpAny_Assign_Name (thn (he ρ s σ H _ I h) λv s1 ⟨y,H1,I1,r1,q1⟩=>?_) hs;exact oX I1 hN hi hx r1 (λs2 I2=>⟨_,H1,I2,q1⟩) hf
def uv(c:TT)(tb:TS):TS:=λD σ H=>∃W:Nat->St->Hp->Prop,(∃m,W m σ H)/\∀m σ H,W m σ H ->
 c σ H λb H1=>if b=true then ∃N:St->Hp->Prop,(∀σ' H',N σ' H'->∃m',m'<m/\W m' σ' H')/\tb { D with nx:=N,ct:=N,bk:=D.nx } σ H1 else D.nx σ H1
def wc{tb:TS}(hp:PassesOwn (model X.prog X.w) X.A X.env X.xe)(hc:PT X c tc)(hb:PSs X body tb):PS X (.While c body [] pos) (uv tc tb):=by
 intro ρ s σ H D I h;obtain⟨W,⟨m0,w0⟩,turn⟩:=h;refine wpAny_While (codeAny_whileLoop (λn s'=>SP1 X ρ (W n) s') ?_ m0 ⟨σ,H,I,w0⟩);rintro n s1 ⟨σ1,H1,I1,w1⟩;refine wpAny_passesOwn hp (thn (hc ρ s1 σ1 H1 _ I1 (turn n σ1 H1 w1)) λb s2 ⟨H2,I2,q2⟩=>?_);cases b with
 |true=>
  obtain⟨N,hN,q2⟩:=q2;rw[if_pos rfl];refine wpAny_passesOwn hp (thn (hb ρ s2 σ1 H2 _ I2 q2) λf s3 q3=>?_);cases f with
  |next=>
   obtain⟨σ3,H3,I3,n3⟩:=q3;obtain⟨m',hm,w3⟩:=hN σ3 H3 n3;exact⟨m',hm,σ3,H3,I3,w3⟩
  |cont=>
   obtain⟨σ3,H3,I3,n3⟩:=q3;obtain⟨m',hm,w3⟩:=hN σ3 H3 n3;exact⟨m',hm,σ3,H3,I3,w3⟩
  |brk=>exact q3
  |ret v=>exact q3
 |false=>
  rw[if_neg zbn];exact wpAny_execs_nil ⟨σ1,H2,I2,q2⟩
structure It where
 go:Nat->Hp->Prop
 yld:Nat->Hp->V->Hp->Prop
 stop:Nat->Hp->Prop
def gL(X:Cx)(ρ:List (Addr×Obj))(H:Hp)(b:Addr):Prop:=
 H b=none/\b≠X.env.locals/\b∉X.fs/\(b∈X.ex\/X.s₀.heap.objs.size<=b)/\(∀x c,X.env.cells.lookup x=some c->c≠b)/\∀p∈X.pn++ρ,p.1≠b
def Inv.fpOk(I:Inv X ρ σ H s)(hb:s.heap.objs.size<=b)(hn:H' b=none):gL X ρ H' b:=by
 refine⟨hn,Nat.ne_of_gt (zag I.lt hb),I.nofs hb,.inr (zau I.sz hb),λx c e z=>?_,λp hp z=>?_⟩
 .obtain⟨v,q⟩:=I.cell x c e;exact absurd (zag q.lt (by rw[z];exact hb)) (zaI _)
 .exact absurd (zag (zal (I.pin p hp).1) (by rw[z];exact hb)) (zaI _)
structure Turn(P:Program)(w:World)(K:zbV)(tg:Expr)(J:It)(fp:List Addr)(it:Addr)(tn:Nat->Heap->Prop):Prop where
 mem:it∈fp
 obj:∀i h,tn i h->∀b∈fp,∃o,h.get? b=some o/\∀v,o.data≠.cell v
 keep:∀i h h',tn i h->(∀b∈fp,∀o,h.get? b=some o->h'.get? b=some o)->tn i h'
 item:∀(X:Cx),X.prog=P->X.w=w->X.K=K->X.calm=true->∀(i:Nat) (ρ:List (Addr×Obj)) (s:Shared) (σ:St) (H:Hp) (E:Value->Shared->Prop),Inv X ρ σ H s->(∀b∈fp,gL X ρ H b)->tn i s.heap->J.go i H ->
  wpAny (model P w) X.A (pyNext (.ref it)) (λr s1=>∃u,r=some u /\
   wpAny (model P w) X.A (letOwnedTupleGo tg (.ref it) u) (λ_ s2=>∃x H',Inv X ρ σ H' s2/\RelV x u/\J.yld i H x H'/\tn (i+1) s2.heap/\∀b∈fp,H' b=none) E s1) E s
 done:∀(X:Cx),X.prog=P->X.w=w->X.K=K->X.calm=true->∀(i:Nat) (ρ:List (Addr×Obj)) (s:Shared) (σ:St) (H:Hp) (E:Value->Shared->Prop),Inv X ρ σ H s->(∀b∈fp,gL X ρ H b)->tn i s.heap->J.stop i H ->
  wpAny (model P w) X.A (pyNext (.ref it)) (λr s1=>r=none/\Inv X ρ σ H s1) E s
 self:∀(A:Around) (i:Nat) (s:Shared) (Q:Value->Shared->Prop) (E:Value->Shared->Prop),tn i s.heap->Q (.ref it) s->wpAny (model P w) A (pyIter (.ref it)) Q E s
abbrev TI:=St->Hp->(It->Hp->Prop)->Prop
def PIE(X:Cx)(ρ:List (Addr×Obj))(σ:St)(tg:Expr)(R:It->Hp->Prop)(itv:Value)(s2:Shared):Prop:=
 ∃(it:Addr) (fp:List Addr) (tn:Nat->Heap->Prop) (J:It) (H':Hp),itv=.ref it/\Inv X ρ σ H' s2/\Turn X.prog X.w X.K tg J fp it tn/\tn 0 s2.heap/\(∀b∈fp,gL X ρ H' b)/\R J H'
def PI(X:Cx)(tg iter:Expr)(wi:TI):Prop:=
 ∀(ρ:List (Addr×Obj)) (s:Shared) (σ:St) (H:Hp) (R:It->Hp->Prop),Inv X ρ σ H s->wi σ H R ->
  wpAny (model X.prog X.w) X.A (eval iter X.env) (λv s1=>wpAny (model X.prog X.w) X.A (pyIter v) (PIE X ρ σ tg R) X.xe s1) X.xe s
structure QI(X:Cx)(tg e:Expr)(t:TI):Prop where
 h:PI X tg e t
def mq{it:Addr}{o:Obj}{n:String}{vs:Array Value}{Q:Unit->Shared->Prop}(ho:s.heap.get? it=some o)(hc:o.cls=.type n)(hd:o.data=.fields vs)
  (hn:["enumerate","zip","dict_itemiterator","dict_reverseitemiterator","odict_iterator","itertools.zip_longest","itertools.pairwise"].contains n=false) (hQ:Q () s):wpAny M A (letOwnedTupleGo tg (.ref it) u) Q E s:=by
 unfold letOwnedTupleGo;cases tg<;>first
  |exact zaT hQ
  | (cases u<;>first
    |exact zaT hQ
    | (refine zam (wpAny_load ho ?_)
       rw[hc,hd];show wpAny M A (if(["enumerate","zip","dict_itemiterator","dict_reverseitemiterator","odict_iterator","itertools.zip_longest","itertools.pairwise"].contains n&&vs[0]?==some (rawInt _))=true then _ else _) Q E s;rw[if_neg (by intro h;rw[hn,Bool.false_and]at h;cases h)];exact zaT hQ))
noncomputable def Itl(K:zbV)(a:Addr):It:=
 ⟨λi H=>∃xs x,SqL K H a xs/\xs[i]?=some x,λi H x H'=>H'=H/\∀xs,SqL K H a xs->xs[i]?=some x,λi H=>∃xs,SqL K H a xs/\xs.length<=i⟩
noncomputable def Itt(K:zbV)(a:Addr):It:=
 ⟨λi H=>∃xs x,SqT K H a xs/\xs[i]?=some x,λi H x H'=>H'=H/\∀xs,SqT K H a xs->xs[i]?=some x,λi H=>∃xs,SqT K H a xs/\xs.length<=i⟩
noncomputable def Itr(lo:Int)(n:Nat):It:=⟨λi _=>i<n,λi H x H'=>H'=H/\x=.int (lo+i),λi _=>n<=i⟩
def uq(a it:Addr):Turn P w K tg (Itl K a) [it] it (λi h=>h.IsListIter it a i) where
 mem:=by simp
 obj:=λi h st b hb=>by
  have e:b=it:=by simpa using hb
  subst e;obtain⟨o,e,c,d⟩:=st;exact⟨o,e,λv z=>by rw[d]at z;cases z⟩
 keep:=λi h h' st k=>st.at λo e=>k it (by simp) o e
 item:=by
  intro X hP hw hK hc i ρ s σ H E I hf st hg;subst hP hw hK;obtain⟨xs,x,hq,hx⟩:=hg;obtain⟨its,rv,p,hz⟩:=I.list hq;obtain⟨u,hu,ru⟩:=rv.get hx;obtain⟨f0,f1,f2,f3,f4,f5⟩:=hf it (by simp);refine wpAny_pyNext_list_item st p.isList (x:=u) (by simpa using hu) λh' st' sb=>?_;have I1:Inv X ρ σ H { s with heap:=h' }:=I.turned (t':=s.toks) (λb o hb e=>(sb.2 b hb).trans e) f0 f1 f3 f4 f5;obtain⟨o,e,c,d⟩:=id st';exact⟨u,rfl,mq (s:={ s with heap:=h' }) e c d (by decide) ⟨x,H,I1,ru,⟨rfl,λys hy=>by rw[I.list_inj hy hq];exact hx⟩,st',λb hb=>(hf b hb).1⟩⟩
 done:=by
  intro X hP hw hK hc i ρ s σ H E I hf st hg;subst hP hw hK;obtain⟨xs,hq,hx⟩:=hg;obtain⟨its,rv,p,hz⟩:=I.list hq;obtain⟨f0,f1,f2,f3,f4,f5⟩:=hf it (by simp);have hl:=rv.length;exact wpAny_pyNext_list_end (I.ok.hd hc) st p.isList (by simp;lia) λh' eb=>⟨rfl,I.turned (t':=s.toks) (λb o hb e=>eb b o hb e) f0 f1 f3 f4 f5⟩
 self:=λ_ _ _ _ _ st h=>wpAny_pyIter_listiter st h
def sf(a it:Addr):Turn P w K tg (Itt K a) [it] it (λi h=>h.IsTupleIter it a i) where
 mem:=by simp
 obj:=λi h st b hb=>by
  have e:b=it:=by simpa using hb
  subst e;obtain⟨o,e,c,d⟩:=st;exact⟨o,e,λv z=>by rw[d]at z;cases z⟩
 keep:=λi h h' st k=>st.at λo e=>k it (by simp) o e
 item:=by
  intro X hP hw hK hc i ρ s σ H E I hf st hg;subst hP hw hK;obtain⟨xs,x,hq,hx⟩:=hg;obtain⟨its,rv,p,hz⟩:=I.tuple hq;obtain⟨u,hu,ru⟩:=rv.get hx;obtain⟨f0,f1,f2,f3,f4,f5⟩:=hf it (by simp);refine wpAny_pyNext_tuple_item st (show s.heap.IsTuple a its.toArray from p) (x:=u) (by simpa using hu) λh' st' sb=>?_;have I1:Inv X ρ σ H { s with heap:=h' }:=I.turned (t':=s.toks) (λb o hb e=>(sb.2 b hb).trans e) f0 f1 f3 f4 f5;obtain⟨o,e,c,d⟩:=id st';exact⟨u,rfl,mq (s:={ s with heap:=h' }) e c d (by decide) ⟨x,H,I1,ru,⟨rfl,λys hy=>by rw[I.tuple_inj hy hq];exact hx⟩,st',λb hb=>(hf b hb).1⟩⟩
 done:=by
  intro X hP hw hK hc i ρ s σ H E I hf st hg;subst hP hw hK;obtain⟨xs,hq,hx⟩:=hg;obtain⟨its,rv,p,hz⟩:=I.tuple hq;obtain⟨f0,f1,f2,f3,f4,f5⟩:=hf it (by simp);have hl:=rv.length;exact wpAny_pyNext_tuple_end (I.ok.hd hc) st (show s.heap.IsTuple a its.toArray from p) (by simp;lia) λh' eb=>⟨rfl,I.turned (t':=s.toks) (λb o hb e=>eb b o hb e) f0 f1 f3 f4 f5⟩
 self:=λ_ _ _ _ _ st h=>wpAny_pyIter_tupleiter st h
def sg(it:Addr)(lo:Int)(n:Nat):Turn P w K tg (Itr lo n) [it] it (λi h=>IsRangeIter h it (lo+(i:Nat)*1) ((n:Int)-(i:Nat)) 1) where
 mem:=by simp
 obj:=λi h st b hb=>by
  have e:b=it:=by simpa using hb
  subst e;exact⟨_,st,λv z=>by
   have z':Data.fields _=Data.cell v:=z;cases z'⟩
 keep:=λi h h' st k=>k it (by simp) _ st
 item:=by
  intro X hP hw hK hc i ρ s σ H E I hf st hg;subst hP hw hK;obtain⟨f0,f1,f2,f3,f4,f5⟩:=hf it (by simp);have W:=Walks.range (prog:=X.prog) (w:=X.w) (I.ok.hd hc) it lo 1 n;refine W.item i s _ _ hg st λv h' tk hv st' kk=>?_;obtain⟨t,rfl⟩:=hv;have I1:Inv X ρ σ H { s with heap:=h',toks:=tk }:=I.turned (λb o hb e=>kk b o (by simpa using hb) e) f0 f1 f3 f4 f5;refine⟨_,rfl,mq (s:={ s with heap:=h',toks:=tk }) (n:="range_iterator") st' rfl rfl (by decide) ⟨.int (lo+i),H,I1,⟨t,?_⟩,⟨rfl,rfl⟩,st',λb hb=>(hf b hb).1⟩⟩;rw[Int.mul_one]
 done:=by
  intro X hP hw hK hc i ρ s σ H E I hf st hg;subst hP hw hK;obtain⟨f0,f1,f2,f3,f4,f5⟩:=hf it (by simp);exact wpAny_pyNext_range_end (I.ok.hd hc) st (by have:n<=i:=hg;lia) λh' eb=>⟨rfl,I.turned (t':=s.toks) (λb o hb e=>eb b o hb e) f0 f1 f3 f4 f5⟩
 self:=λ_ _ _ _ _ st h=>wpAny_pyIter_rangeiter st h
def v8{R:It->Hp->Prop}{lo hi:Int}{t u v:Tok}{tk:Nat}(I:Inv X ρ σ H s)(h1:-(2 ^ 62)<=lo)(h2:lo<2 ^ 62)(h3:-(2 ^ 62)<=hi)(h4:hi<2 ^ 62)
  (q:R (Itr lo (hi-lo).toNat) H):wpAny (model X.prog X.w) X.A (pyIter (.ref s.heap.objs.size)) (PIE X ρ σ tg R) E { s with heap:=s.heap.push { cls:=.type "range",data:=.fields #[.int lo t,.int hi u,.int 1 v] },toks:=tk }:=by
 refine wpAny_pyIter_range (IsRange.new ..) (small_one h1 h2 h3 h4) ?_;have I1:Inv X ρ σ H { s with heap:=s.heap.push { cls:=.type "range",data:=.fields #[.int lo t,.int hi u,.int 1 v] },toks:=tk }:=I.kept λb o e=>zaf _ e;refine⟨(s.heap.push { cls:=.type "range",data:=.fields #[.int lo t,.int hi u,.int 1 v] }).objs.size,[(s.heap.push { cls:=.type "range",data:=.fields #[.int lo t,.int hi u,.int 1 v] }).objs.size],_,_,H,rfl,
  I1.kept (t':=tk) λb o e=>zaf _ e,sg _ lo (hi-lo).toNat,?_,λb hb=>?_,q⟩
 .have e1:lo+((0:Nat):Int)*1=lo:=by simp
  have e2:(((hi-lo).toNat:Nat):Int)-((0:Nat):Int)=Builtin.Range.rangeSize lo hi 1:=by rw[rangeSize_one];split<;>lia
  show IsRangeIter _ _ (lo+((0:Nat):Int)*1) ((((hi-lo).toNat:Nat):Int)-((0:Nat):Int)) 1;rw[e1,e2];exact zan _ rfl
 .have e:b=(s.heap.push { cls:=.type "range",data:=.fields #[.int lo t,.int hi u,.int 1 v] }).objs.size:=by simpa using hb
  subst e;exact I1.fpOk (zav _) (I1.hok.fresh (zav _))
def GM(ta:TA):TI:=λσ H R=>ta σ H λvs H1=>∃j:Int,vs=[.int j]/\-(2 ^ 62)<=j/\j<2 ^ 62/\R (Itr 0 j.toNat) H1
def uK{a:Expr}{ta:TA}(hg:Gl X "range")(hm:X.mg "range"=none)(ha:PA X [a] ta)(hs:starEach [a] X.env=[(false,eval a X.env)]:=by rfl):PI X tg (.Call (.Name "range" p) [a] [] pos) (GM ta):=by
 intro ρ s σ H R I h;refine Call_ (ie I hg hm boot_range (PyProof.Rows.callWith_type1 (thn (ha pos ρ s σ H _ I h) λus s1 ⟨vs,H1,I1,r1,q1⟩=>?_) hs rfl));obtain⟨j,e,q1,q2,q⟩:=q1;subst e;cases r1 with
 |cons r rr=>
  cases rr;obtain⟨t,rfl⟩:=r;exact call_range_1 (v8 I1 (by lia) (by lia) q1 q2 (by simpa using q))
noncomputable def D4(wi:TI)(g:TG)(tb:TS):TS:=λD σ H=>wi σ H λJ H1=>∃W:Nat->Nat->St->Hp->Prop,(∃m,W 0 m σ H1)/\∀i m σ H,W i m σ H ->
 (J.stop i H/\D.nx σ H)\/(J.go i H/\∃N:St->Hp->Prop,(∀σ' H',N σ' H'->∃m',m'<m/\W (i+1) m' σ' H')/\∀x H',J.yld i H x H'->g x σ H' λσ2 H2=>tb { D with nx:=N,ct:=N,bk:=D.nx } σ2 H2)
noncomputable def kc(fp:List Addr)(h:Heap):List (Addr×Obj):=fp.filterMap λb=>(h.get? b).map λo=>(b,o)
def gS{o:Obj}(hb:b∈fp)(e:h.get? b=some o):(b,o)∈kc fp h:=List.mem_filterMap.mpr ⟨b,hb,by rw[e];rfl⟩
def uS{p:Addr×Obj}(hp:p∈kc fp h):p.1∈fp/\h.get? p.1=some p.2:=by
 obtain⟨b,hb,e⟩:=List.mem_filterMap.mp hp;cases q:h.get? b with
 |none=>rw[q]at e;cases e
 |some o=>
  rw[q]at e;have e':(b,o)=p:=zat e;subst e';exact⟨hb,q⟩
def Inv.pinned(I:Inv X ρ σ H s)(hf:∀b∈fp,gL X ρ H b)(ho:∀b∈fp,∃o,s.heap.get? b=some o/\∀v,o.data≠.cell v):Inv X (ρ++kc fp s.heap) σ H s:=
 I.pins_of λp hp=>(zax.mp hp).elim (λz=>I.pin p (zbg _ z)) λz=>by
  obtain⟨hb,e⟩:=uS z;obtain⟨f0,f1,f2,_⟩:=hf p.1 hb;obtain⟨o,e',d⟩:=ho p.1 hb;rw[e]at e';cases e';exact⟨e,f0,f1,f2,d⟩
def Inv.unpinned{pl:List (Addr×Obj)}(I:Inv X (ρ++pl) σ H s):Inv X ρ σ H s:=I.pins_of λp hp=>I.pin p (zbg _ (zbf _ hp))
def Em{iter:Expr}{wi:TI}{g:TG}{tb:TS}(hp:PassesOwn (model X.prog X.w) X.A X.env X.xe)(hc:X.calm=true)(hi:PI X tg iter wi)(hg:PG X tg g)(hb:PSs X body tb)
  (hs:∀x,foldedSetIterable iter X.env x=pure x:=by intro _;rfl):PS X (.For tg iter body [] pos) (D4 wi g tb):=by
 intro ρ s σ H D I h;refine wpAny_For (thn (hi ρ s σ H _ I h) λv s1 h1=>thn h1 λitv s2 h2=>?_) hs;obtain⟨it,fp,tn,J,H2,e,I2,T,st2,f2,W,⟨m0,w0⟩,turn⟩:=h2;subst e;have stat:∀{H':Hp},(∀b∈fp,H' b=none)->∀b∈fp,gL X ρ H' b:=λhn b hb=>⟨hn b hb,(f2 b hb).2⟩;refine codeAny_forLoop_any (λn s'=>∃i σ' H',Inv X ρ σ' H' s'/\tn i s'.heap/\(∀b∈fp,H' b=none)/\W i n σ' H') ?_ m0 ⟨0,σ,H2,I2,st2,λb hb=>(f2 b hb).1,w0⟩;rintro n s3 ⟨i,σ3,H3,I3,st3,fr3,w3⟩;rcases turn i n σ3 H3 w3 with⟨stop,qn⟩|⟨go,N,hN,step⟩
 .refine wpAny_passesOwn hp (thn (T.done X rfl rfl rfl hc i ρ s3 σ3 H3 X.xe I3 (stat fr3) st3 stop) λr s4 ⟨hr,I4⟩=>?_);subst hr;exact wpAny_execs_nil ⟨σ3,H3,I4,qn⟩
 .refine wpAny_passesOwn hp (thn (T.item X rfl rfl rfl hc i ρ s3 σ3 H3 X.xe I3 (stat fr3) st3 go) λr s4 ⟨u,hr,h4⟩=>?_);subst hr;refine wpAny_passesOwn hp (thn h4 λ_ s5 ⟨x,H5,I5,r5,y5,st5,fr5⟩=>?_);have I5':=I5.pinned (stat fr5) (T.obj _ _ st5);refine wpAny_passesOwn hp (thn (hg _ s5 σ3 H5 x u _ I5' r5 (step x H5 y5)) λ_ s6 ⟨σ6,H6,I6,q6⟩=>?_);refine wpAny_passesOwn hp (thn (hb _ s6 σ6 H6 _ I6 q6) λf s7 q7=>?_);have again:∀{σ7:St} {H7:Hp},Inv X (ρ++kc fp s5.heap) σ7 H7 s7->N σ7 H7->∃m,m<n/\∃i σ' H',Inv X ρ σ' H' s7/\tn i s7.heap/\(∀b∈fp,H' b=none)/\W i m σ' H':=λ{σ7 H7} I7 n7=>by
   obtain⟨m',hm,w7⟩:=hN σ7 H7 n7;refine⟨m',hm,i+1,σ7,H7,I7.unpinned,T.keep _ _ _ st5 λb hb o e=>(I7.pin (b,o) (zbg _ (zbg _ (gS hb e)))).1,λb hb=>?_,w7⟩;obtain⟨o,e,d⟩:=T.obj _ _ st5 b hb;exact(I7.pin (b,o) (zbg _ (zbg _ (gS hb e)))).2.1
  cases f with
  |next=>obtain⟨σ7,H7,I7,n7⟩:=q7;exact again I7 n7
  |cont=>obtain⟨σ7,H7,I7,n7⟩:=q7;exact again I7 n7
  |brk=>obtain⟨σ7,H7,I7,q7⟩:=q7;exact⟨σ7,H7,I7.unpinned,q7⟩
  |ret v=>obtain⟨x7,σ7,H7,I7,r7,q7⟩:=q7;exact⟨x7,σ7,H7,I7.unpinned,r7,q7⟩
abbrev R2:=V->V->Hp->VK->Prop
variable{r:R2}
def OpR(X:Cx)(f:Value->Value->Sem Value)(r:R2):Prop:=
 ∀(ρ:List (Addr×Obj)) (s:Shared) (σ:St) (H:Hp) (x y:V) (v u:Value) (Q:VK),Inv X ρ σ H s->RelV x v->RelV y u->r x y H Q ->
  wpAny (model X.prog X.w) X.A (f v u) (EP X ρ σ Q) X.xe s
def CallR(X:Cx)(f:Value)(r:List V->Hp->VK->Prop):Prop:=
 ∀(ρ:List (Addr×Obj)) (s:Shared) (σ:St) (H:Hp) (xs:List V) (us:List Value) (Q:VK),Inv X ρ σ H s->Vals xs us->r xs H Q ->
  wpAny (model X.prog X.w) X.A (call f us) (EP X ρ σ Q) X.xe s
noncomputable def tOp(r:R2)(ta tb:TE):TE:=λσ H Q=>ta σ H λx H1=>tb σ H1 λy H2=>r x y H2 Q
noncomputable def rI(C:Int->Int->Prop)(g:Int->Int->V):R2:=λx y H Q=>∃i j,x=.int i/\y=.int j/\C i j/\Q (g i j) H
noncomputable def rI0(g:Int->Int->V):R2:=λx y H Q=>∃i j,x=.int i/\y=.int j/\Q (g i j) H
section
variable{a b:Expr}{tc:TE} 
def xE(ha:PE X a ta)(hb:PE X b tb){R:V->V->Hp->Prop}(I:Inv X ρ σ H s)
  (h:ta σ H λx H1=>tb σ H1 λy H2=>R x y H2) {f:Value->Value->Sem Value}
  (hf:∀v u s2 x y H2,Inv X ρ σ H2 s2->RelV x v->RelV y u->R x y H2->wpAny (model X.prog X.w) X.A (f v u) Q X.xe s2):
  wpAny (model X.prog X.w) X.A (eval a X.env) (λv s₁=>wpAny (model X.prog X.w) X.A (eval b X.env) (λu s₂=>wpAny (model X.prog X.w) X.A (f v u) Q X.xe s₂) X.xe s₁) X.xe s:=by
 refine thn (ha ρ s σ H _ I h) ?_;rintro v s1 ⟨x,H1,I1,r1,q1⟩;refine thn (hb ρ s1 σ H1 _ I1 q1) ?_;rintro u s2 ⟨y,H2,I2,r2,q2⟩;exact hf v u s2 x y H2 I2 r1 r2 q2
def Gx{op:Operator}(ho:OpR X (binaryOp op) r)(ha:PE X a ta)(hb:PE X b tb):PE X (.BinOp a op b pos) (tOp r ta tb):=by
 intro ρ s σ H Q I h;exact wpAny_BinOp (xE ha hb I h λv u s2 x y H2 I2 rx ry q=>ho ρ s2 σ H2 x y v u Q I2 rx ry q)
def opI{f:Value->Value->Sem Value}{C:Int->Int->Prop} 
  (rule:∀(i j:Int) (t u:Tok) (s:Shared) (Q:Value->Shared->Prop) (E:Value->Shared->Prop),C i j->Q (.int (g i j) s.toks) { s with toks:=s.toks+1 }->wpAny (model X.prog X.w) X.A (f (.int i t) (.int j u)) Q E s):
  OpR X f (rI C λi j=>.int (g i j)):=by
 intro ρ s σ H x y v u Q I rx ry h;obtain⟨i,j,rfl,rfl,hc,q⟩:=h;obtain⟨t,rfl⟩:=rx;obtain⟨t',rfl⟩:=ry;exact rule i j t t' s _ _ hc ⟨.int (g i j),H,I.tok _,⟨_,rfl⟩,q⟩
def Ew{f:Value->Value->Sem Value} 
  (rule:∀(i j:Int) (t u:Tok) (s:Shared) (Q:Value->Shared->Prop) (E:Value->Shared->Prop),Q (.int (g i j) s.toks) { s with toks:=s.toks+1 }->wpAny (model X.prog X.w) X.A (f (.int i t) (.int j u)) Q E s):
  OpR X f (rI0 λi j=>.int (g i j)):=by
 intro ρ s σ H x y v u Q I rx ry h;obtain⟨i,j,rfl,rfl,q⟩:=h;obtain⟨t,rfl⟩:=rx;obtain⟨t',rfl⟩:=ry;exact rule i j t t' s _ _ ⟨.int (g i j),H,I.tok _,⟨_,rfl⟩,q⟩
def sG{f:Value->Value->Sem Value}{g:Int->Int->Bool}
  (rule:∀(i j:Int) (t u:Tok) (s:Shared) (Q:Value->Shared->Prop) (E:Value->Shared->Prop),Q (.bool (g i j)) s->wpAny (model X.prog X.w) X.A (f (.int i t) (.int j u)) Q E s):
  OpR X f (rI0 λi j=>.bl (g i j)):=by
 intro ρ s σ H x y v u Q I rx ry h;obtain⟨i,j,rfl,rfl,q⟩:=h;obtain⟨t,rfl⟩:=rx;obtain⟨t',rfl⟩:=ry;exact rule i j t t' s _ _ ⟨.bl (g i j),H,I,rfl,q⟩
def nC(i j:Int):Prop:=0<j/\j<1073741824
def kO(i j:Int):Prop:=0<=j/\j<=1000000/\i.natAbs<2 ^ 64
def CMul(i j:Int):Prop:=(-(2 ^ 64)<i/\i<2 ^ 64)\/(-(2 ^ 64)<j/\j<2 ^ 64)
def CMul.ok{i j:Int}(h:CMul i j):IntMulOk i j:=by
 rcases h with⟨h1,h2⟩|⟨h1,h2⟩
 .exact .of_left (intBits_le_64 h1 h2)
 .exact .of_right (intBits_le_64 h1 h2)
def op_add:OpR X (binaryOp .Add) (rI0 λi j=>.int (i+j)):=Ew λ_ _ _ _ _ _ _ q=>add_int q
def op_sub:OpR X (binaryOp .Sub) (rI0 λi j=>.int (i-j)):=Ew λ_ _ _ _ _ _ _ q=>sub_int q
def op_mul:OpR X (binaryOp .Mult) (rI CMul λi j=>.int (i*j)):=opI λ_ _ _ _ _ _ _ hc q=>mul_int q hc.ok
def op_fdiv:OpR X (binaryOp .FloorDiv) (rI nC λi j=>.int (i / j)):=opI λi j _ _ _ _ _ hc q=>by
 have h1:(0:Int)<j:=hc.1;have h2:j<1073741824:=hc.2;exact floordiv_int (by lia) (by rw[Int.fdiv_eq_ediv_of_nonneg i (by lia)];exact q) (.inl (PyProof.noPylong_small (by lia)))
def op_mod:OpR X (binaryOp .Mod) (rI (λ_ j=>0<j) λi j=>.int (i % j)):=opI λi j _ _ _ _ _ hc q=>by
 have h1:(0:Int)<j:=hc;exact mod_int' (by lia) (by rw[Int.fmod_eq_emod_of_nonneg i (by lia)];exact q)
def op_pow:OpR X (binaryOp .Pow) (rI kO λi j=>.int (i ^ j.toNat)):=opI λ_ _ _ _ _ _ _ hc q=>pow_int_small hc.1 hc.2.1 hc.2.2 q
def vz{Q:VK}{k k':Bool}(I:Inv X ρ σ H s)(q:Q (.bl k) H)(e:k=k'):EP X ρ σ Q (.bool k') s:=by
 subst e;exact⟨.bl k,H,I,rfl,q⟩
def op_lt:OpR X (compareOp .Lt) (rI0 λi j=>.bl (decide (i<j))):=sG λ_ _ _ _ _ _ _ q=>lt_int q
def op_le:OpR X (compareOp .LtE) (rI0 λi j=>.bl (decide (i<=j))):=sG λ_ _ _ _ _ _ _ q=>le_int q
def op_gt:OpR X (compareOp .Gt) (rI0 λi j=>.bl (decide (j<i))):=sG λ_ _ _ _ _ _ _ q=>gt_int q
def op_ge:OpR X (compareOp .GtE) (rI0 λi j=>.bl (decide (j<=i))):=sG λ_ _ _ _ _ _ _ q=>ge_int q
def op_isN:OpR X (compareOp .Is) (λx y H Q=>y=.non/\Q (.bl (decide (x=.non))) H):=by
 intro ρ s σ H x y v u Q I rx ry h;obtain⟨rfl,q⟩:=h;cases ry;refine is_none_gen (vz I q ?_);cases x<;>first
  | (cases rx;rfl)
  | (obtain⟨t,rfl⟩:=rx;rfl)
def op_notN:OpR X (compareOp .IsNot) (λx y H Q=>y=.non/\Q (.bl (!decide (x=.non))) H):=by
 intro ρ s σ H x y v u Q I rx ry h;obtain⟨rfl,q⟩:=h;cases ry;refine isnot_none_gen (vz I q ?_);cases x<;>first
  | (cases rx;rfl)
  | (obtain⟨t,rfl⟩:=rx;rfl)
def aM(b:Expr)(h:op≠.In:=by decide)(h2:op≠.NotIn:=by decide):behindInMarks op b=false:=by
 have e1:(op==CmpOp.In)=false:=by cases op<;>first|rfl|exact absurd rfl h
 have e2:(op==CmpOp.NotIn)=false:=by cases op<;>first|rfl|exact absurd rfl h2
 cases b<;>simp[behindInMarks,e1,e2]
def Bb(ho:OpR X (compareOp op) r)(ha:PE X a ta)(hb:PE X b tb)(hm:behindInMarks op b=false):PE X (.Compare a [op] [b] pos) (tOp r ta tb):=by
 intro ρ s σ H Q I h;exact wpAny_Compare1 (xE ha hb I h λv u s2 x y H2 I2 rx ry q=>ho ρ s2 σ H2 x y v u Q I2 rx ry q) hm
def Gj(t:TE):TT:=λσ H Q=>t σ H λx H'=>∃k,x=.bl k/\Q k H'
def A3(ho:OpR X (compareOp op) r)(ha:PE X a ta)(hb:PE X b tb)(hm:behindInMarks op b=false):PT X (.Compare a [op] [b] pos) (Gj (tOp r ta tb)):=by
 intro ρ s σ H Q I h;refine wpAny_isTrue_Compare1 (thn (ha ρ s σ H _ I h) λv s1 ⟨x,H1,I1,r1,q1⟩=>thn (hb ρ s1 σ H1 _ I1 q1) λu s2 ⟨y,H2,I2,r2,q2⟩=>
  thn (ho ρ s2 σ H2 x y v u _ I2 r1 r2 q2) λc s3 ⟨z,H3,I3,r3,k,e,q3⟩=>?_) hm
 subst e;cases r3;exact zbA ⟨H3,I3,q3⟩
noncomputable def uA(r r':R2)(ta tb tc:TE):TE:=λσ H Q=>ta σ H λx H1=>tb σ H1 λy H2=>r x y H2 λz H3=>∃k,z=.bl k /\
 (if k=true then tc σ H3 λw' H4=>r' y w' H4 Q else Q (.bl false) H3)
def wo{op':CmpOp}{r':R2}(ho:OpR X (compareOp op) r)(ho':OpR X (compareOp op') r')(ha:PE X a ta)(hb:PE X b tb)(hc:PE X c tc)
  (hm:lastMarks [op,op'] [b,c]=false:=by with_unfolding_all rfl):PE X (.Compare a [op,op'] [b,c] pos) (uA r r' ta tb tc):=by
 intro ρ s σ H Q I h;refine Compare_chain (thn (ha ρ s σ H _ I h) λv s1 ⟨x,H1,I1,r1,q1⟩=>chain_link (thn (hb ρ s1 σ H1 _ I1 q1) λu s2 ⟨y,H2,I2,r2,q2⟩=>
  thn (ho ρ s2 σ H2 x y v u _ I2 r1 r2 q2) λd s3 ⟨z,H3,I3,r3,k,e,q3⟩=>?_)) hm
 subst e;cases r3;refine zbA ?_;cases k with
 |false=>exact ite_ff ⟨.bl false,H3,I3,rfl,q3⟩
 |true=>exact ite_tt (chain_last (thn (hc ρ s3 σ H3 _ I3 q3) λw' s4 ⟨z',H4,I4,r4,q4⟩=>ho' ρ s4 σ H4 y z' u w' Q I4 r2 r4 q4))
def kg:(sizeLine:Nat)<2 ^ 63:=by rw[sizeLine_eq];decide
def sF:OpR X (binaryOp .Add) (λx y H Q=>∃i j,x=.str i/\y=.str j/\i.length+j.length<=sizeLine/\Q (.str (i++j)) H):=by
 intro ρ s σ H x y v u Q I rx ry h;obtain⟨i,j,rfl,rfl,hz,q⟩:=h;obtain⟨t,rfl⟩:=rx;obtain⟨t',rfl⟩:=ry;exact add_str (λt' tk=>⟨.str (i++j),H,I.tok _,⟨_,rfl⟩,q⟩) hz
def kS{x:V}(r:Vals [x] us):∃u,us=[u]/\RelV x u:=by
 cases r with
 |cons r1 r2=>cases r2;exact⟨_,rfl,r1⟩
def Gi{x:V}(r:Vals [x,y] us):∃u w',us=[u,w']/\RelV x u/\RelV y w':=by
 cases r with
 |cons r1 r2=>
  cases r2 with
  |cons r3 r4=>cases r4;exact⟨_,_,rfl,r1,r3⟩
def Ge(K:zbV)(x:V)(H:Hp)(n:Nat):Prop:=
 match x with
 |.str y=>y.length<=sizeLine/\n=y.length
 |.byt y=>y.size<=sizeLine/\n=y.size
 |.ref p=>(∃xs,SqL K H p xs/\n=xs.length)\/∃xs,SqT K H p xs/\n=xs.length
 |_=>False
def xB:CallR X (.builtin "len") (λxs H Q=>∃x n,xs=[x]/\Ge X.K x H n/\Q (.int n) H):=by
 intro ρ s σ H xs us Q I r h;obtain⟨x,n,rfl,e,q⟩:=h;obtain⟨u,rfl,rx⟩:=kS r;have hl:=kg;have hs:sizeLine=16777216:=sizeLine_eq;cases x with
 |str y=>
  obtain⟨t,rfl⟩:=rx;obtain⟨hy,e'⟩:y.length<=sizeLine/\n=y.length:=e;subst e';exact len_str (by lia) ⟨.int _,H,I.tok _,⟨_,rfl⟩,q⟩
 |byt y=>
  obtain⟨t,rfl⟩:=rx;obtain⟨hy,e'⟩:y.size<=sizeLine/\n=y.size:=e;subst e';exact PySem.W.len_bytes (by lia) ⟨.int _,H,I.tok _,⟨_,rfl⟩,q⟩
 |ref p=>
  cases rx;have e':(∃xs,SqL X.K H p xs/\n=xs.length)\/∃xs,SqT X.K H p xs/\n=xs.length:=e;rcases e' with⟨xs,hx,e'⟩|⟨xs,hx,e'⟩
  .subst e';obtain⟨its,r',pl,hz⟩:=I.list hx;have ξ:=r'.length;exact Calls.call_len_list pl.isList (by simp only[zai];lia) ⟨.int xs.length,H,I.tok _,⟨_,by simp only[zai];rw[ξ]⟩,q⟩
  .subst e';obtain⟨its,r',pl,hz⟩:=I.tuple hx;have ξ:=r'.length;exact len_tuple pl (by simp only[zai];lia) ⟨.int xs.length,H,I.tok _,⟨_,by simp only[zai];rw[ξ]⟩,q⟩
 |_=>exact(show False from e).elim
end
structure ObjM(h:Heap)(x dx C:Addr)(mA:Str->Option Value):Prop where
 obj:h.get? x=some (PySem.W.instObj C dx)
 ns:h.Ns1 dx mA
 ne:dx≠x
def uX(n:h.Ns1 dx mA):∃od,h.get? dx=some od/\∀name,PySem.W.lookIn name od=some (mA name):=by
 obtain⟨o,es,ep,ho,hd,hk,_,hm⟩:=n;refine⟨o,ho,λname=>?_⟩;have e:=hm name;unfold nsFind findBy at e;rw[<-Array.find?_toList]at e;unfold PySem.W.lookIn;rw[hd]
 dsimp only
 split
 .rename_i y q;rw[q]at e;exact congrArg some e
 .rename_i q;rw[q]at e;have a:es.toList.any (·.refKey)=false:=by
   rw[List.any_eq_false];intro y hy;obtain⟨z,t,hkey⟩:=hk y (Array.mem_toList_iff.mp hy);simp[DictEntry.refKey,hkey]
  have a':¬es.toList.any (·.refKey)=true:=by rw[a];exact zbn
  rw[if_neg a'];exact congrArg some e
def ObjM.look{x:Addr}(I:ObjM h x dx C mA):∃od,PySem.W.InstAt h x (PySem.W.instObj C dx) C (some od)/\∀name,PySem.W.lookIn name od=some (mA name):=
 let⟨od,ho,hl⟩:=uX I.ns
 ⟨od,⟨I.obj,rfl,rfl,ho⟩,hl⟩
def RelO.some_of{o:Option Value}(r:RelO (some v) o):∃u,o=some u/\RelV v u:=by
 cases o with
 |none=>exact(show False from r).elim
 |some u=>exact⟨u,rfl,r⟩
section
variable{fs fs':List (Str×V)}
def BB(hok:HOk P w H h)(e:H a=some (.ins C dx fs)):∃mA,ObjM h a dx C mA/\(∀f,RelO (fs.lookup f) (mA f))/\PySem.Within mA (fs.map (·.1))/\fs.length<=1000/\H dx=some (.own a):=by
 obtain⟨d,z,ne,ob,mA,n,r,q⟩:=(show ObjOk P w H h a (.ins C dx fs)from hok a _ e);exact⟨mA,⟨ob,n,ne⟩,r,q,z,d⟩
end
structure Cls(K:zbV)(C:Addr):Prop where
 pg:PySem.W.plainGet K C Str.empty=true
 hd:PySem.W.hasDictIn K C=true
 po:PySem.W.plainOver K C=true
 sa:PySem.W.findIn K (.ref C) "__setattr__"=some (some (.builtin "object.__setattr__"))
def Cls.get(c:Cls K C)(f:Str):PySem.W.plainGet K C f=true:=c.pg
section
variable{c:Value}{b:Bool}
inductive TyOf(K:zbV)(H:Hp):V->Value->Prop where
 |non:TyOf K H .non (.type "NoneType")
 |bl (x:Bool):TyOf K H (.bl x) (.type "bool")
 |int (i:Int):TyOf K H (.int i) (.type "int")
 |str (x:Str):TyOf K H (.str x) (.type "str")
 |flt (x:UInt64):TyOf K H (.flt x) (.type "float")
 |lst {a:Addr} {xs:List V} (e:H a=some (.lst xs)):TyOf K H (.ref a) (.type "list")
 |frz {a:Addr} {o:Obj} {xs:List V} (e:H a=some (.frz o (.lst xs))):TyOf K H (.ref a) (.type "list")
 |tup {a:Addr} {xs:List V} (e:H a=some (.tup xs)):TyOf K H (.ref a) (.type "tuple")
 |dK {a:Addr} {kvs:List (Key×V)} (e:Rd H a (.dK kvs)):TyOf K H (.ref a) (.type "dict")
 |dT {a:Addr} {kvs:List (List (Option Key)×V)} {ad:Addr->Prop} (e:Rd H a (.dT kvs ad)):TyOf K H (.ref a) (.type "dict")
 |ins {a C dx:Addr} {fs:List (Str×V)} (e:H a=some (.ins C dx fs)) (cl:Cls K C) (ha:PySem.W.findIn K (.ref C) "__class__"=some (some (.builtin "object.__class__")))
   (hn:PySem.W.specialIn K (.builtin "object.__class__") "__get__"=some (some (.builtin "getset_descriptor.__get__"))) (htk:PySem.W.takesIn K (.builtin "object.__class__")=some true)
   (hm:PySem.W.mroIn K C (.type "object")=some true):TyOf K H (.ref a) (.ref C)
def vf{x:V}{t:Value}(I:Inv X ρ σ H s)(rx:RelV x u)(ty:TyOf X.K H x t)(e:PySem.W.kitOne X.K t c=some b)(h:∀tk,Q (.bool b) { s with toks:=tk }):
  wpAny (model X.prog X.w) A (call (.builtin "isinstance") [u,c]) Q E s:=by
 cases ty with
 |non=>cases(show u=Value.none from rx);exact PySem.W.kia_one PySem.W.kitx_none I.kIn True.intro e (λz=>nomatch z) h
 |bl y=>cases(show u=Value.bool y from rx);exact PySem.W.kia_one PySem.W.kitx_bool I.kIn True.intro e (λz=>nomatch z) h
 |int i=>obtain⟨t,q⟩:=(show ∃t,u=Value.int i t from rx);cases q;exact PySem.W.kia_one PySem.W.kitx_int I.kIn True.intro e (λz=>nomatch z) h
 |str y=>obtain⟨t,q⟩:=(show ∃t,u=Value.str y t from rx);cases q;exact PySem.W.kia_one PySem.W.kitx_str I.kIn True.intro e (λz=>nomatch z) h
 |flt y=>obtain⟨t,q⟩:=(show ∃t,u=Value.float y t from rx);cases q;exact PySem.W.kia_one PySem.W.kitx_float I.kIn True.intro e (λz=>nomatch z) h
 |@lst a xs ea=>
  cases(show u=Value.ref a from rx);obtain⟨_,_,n,_,h1⟩:=(show ObjOk X.prog X.w H s.heap a (.lst xs)from I.hok a _ ea);exact PySem.W.kia_one PySem.W.kitx_list I.kIn ⟨_,h1,rfl⟩ e (λz=>nomatch z) h
 |@frz a ob xs ea=>
  cases(show u=Value.ref a from rx);obtain⟨_,_,_,n,_,h1⟩:=(show ObjOk X.prog X.w H s.heap a (.frz ob (.lst xs))from I.hok a _ ea);exact PySem.W.kia_one PySem.W.kitx_list I.kIn ⟨_,h1,rfl⟩ e (λz=>nomatch z) h
 |@tup a xs ea=>
  cases(show u=Value.ref a from rx);obtain⟨_,_,_,p⟩:=(show ObjOk X.prog X.w H s.heap a (.tup xs)from I.hok a _ ea);obtain⟨o,h1,h2,_⟩:=p;exact PySem.W.kia_one PySem.W.kitx_tuple I.kIn ⟨o,h1,h2⟩ e (λz=>nomatch z) h
 |@dK a kvs ea=>
  cases(show u=Value.ref a from rx);obtain⟨_,_,vs,_,p⟩:=(show ObjOk X.prog X.w H s.heap a (.dK kvs)from ea.ok I.hok);obtain⟨o,es,ep,h1,h2,_⟩:=p;exact PySem.W.kia_one PySem.W.kitx_dict I.kIn ⟨o,h1,h2.1⟩ e (λz=>nomatch z) h
 |@dT a kvs ad ea=>
  cases(show u=Value.ref a from rx);obtain⟨_,_,xs,_,o,es,ep,h1,h2,_⟩:=(show ObjOk X.prog X.w H s.heap a (.dT kvs ad)from ea.ok I.hok);exact PySem.W.kia_one PySem.W.kitx_dict I.kIn ⟨o,h1,h2.1⟩ e (λz=>nomatch z) h
 |@ins a C dx fs ea cl ha hn htk hm=>
  cases(show u=Value.ref a from rx);obtain⟨mA,O,_⟩:=BB I.hok ea;obtain⟨od,J,_⟩:=O.look;exact PySem.W.kia_one (PySem.W.kitx_own (cl.get _) cl.hd ha hn htk hm) I.kIn J e (λz=>nomatch z) h
end
structure Room(k:Nat)(A:Around):Prop where
 hd:A.handled=none
 dp:A.depth+3*k+5<recursionLimit
 un:A.units+16*k+200<cLine
 gd:A.guards=some []
def Room.mono(r:Room k A)(h:j<=k):Room j A:=⟨r.hd,by have:=r.dp;lia,by have:=r.un;lia,r.gd⟩
def Room.deeper(r:Room (k+1) A)(env:Env):Room k (A.deeper env):=
 ⟨r.hd,by have:=r.dp;show A.depth+1+3*k+5<_;lia,by have:=r.un;show A.units+3+16*k+200<_;lia,r.gd⟩
def Room.depth(r:Room k A):A.depth<recursionLimit:=by have:=r.dp;lia
def Room.units(r:Room k A):A.units+64<cLine:=by have:=r.un;lia
noncomputable def ss:TA:=λ_ H Q=>Q [] H
noncomputable def kU(ta:TE)(tr:TA):TA:=λσ H Q=>ta σ H λx H1=>tr σ H1 λxs H2=>Q (x::xs) H2
section
variable{t:TA} 
def pa_nil:PA X [] ss:=λ_ _ _ _ H Q I h=>Calls.spliced_nil ⟨[],H,I,.nil,h⟩
def fV(ha:PE X e te)(hr:PA X es t)(hs:starEach (e::es) X.env=(false,eval e X.env)::starEach es X.env:=by rfl):PA X (e::es) (kU te t):=by
 intro pos ρ s σ H Q I h;rw[hs];show wpAny _ _ (spliced ((false,eval e X.env)::backTo pos (starEach es X.env))) _ _ s;refine Calls.spliced_cons (thn (ha ρ s σ H _ I h) λu s1 ⟨x,H1,I1,r1,q1⟩=>?_);exact thn (hr pos ρ s1 σ H1 _ I1 q1) λus s2 ⟨xs,H2,I2,r2,q2⟩=>⟨x::xs,H2,I2,.cons r1 r2,q2⟩
def DW(t:TA):TE:=λσ H Q=>t σ H λxs H1=>xs.length<=sizeLine/\∀p,H1 p=none->Q (.ref p) (upd H1 p (.tup xs))
def D1(t:TA):TE:=λσ H Q=>t σ H λxs H1=>xs.length<=sizeLine/\∀p,H1 p=none->Q (.ref p) (upd H1 p (.lst xs))
def Ep{x1}(h:PA X es t):PE X (.Tuple es x1 pos) (DW t):=by
 intro ρ s σ H Q I hq;refine wpAny_Tuple_spliced (thn (h pos ρ s σ H _ I hq) λus s1 ⟨xs,H1,I1,r,z,q⟩=>⟨by rw[<-r.length];exact z,?_⟩);have hf:H1 s1.heap.objs.size=none:=I1.hok.fresh (zav _);refine⟨.ref s1.heap.objs.size,upd H1 s1.heap.objs.size (.tup xs),I1.laid (t':=s1.toks) (λb u e=>zaf _ e) (zav _) ?_,rfl,q _ hf⟩;exact⟨z,us,r,⟨_,zan _ rfl,rfl,_,rfl,rfl⟩⟩
def Et(h:PA X es t):PE X (.List es pos) (D1 t):=by
 intro ρ s σ H Q I hq;refine wpAny_List_spliced (thn (h pos ρ s σ H _ I hq) λus s1 ⟨xs,H1,I1,r,z,q⟩=>⟨by rw[<-r.length];exact z,?_⟩);have hf:H1 s1.heap.objs.size=none:=I1.hok.fresh (zav _);refine⟨.ref s1.heap.objs.size,upd H1 s1.heap.objs.size (.lst xs),I1.laid (t':=s1.toks) (λb u e=>zaf _ e) (zav _) ?_,rfl,q _ hf⟩;exact⟨z,us,0,r,zan _ rfl⟩
end
abbrev Sp:=List V->Hp->VK->XK->Prop
variable{sp:Sp}
abbrev CXT:=List Env->Hp->Shared->XK->Value->Shared->Prop
variable{CX:CXT}
structure Env0(P:Program)(w:World)(K:zbV)(mg:Str->Option Value)(base:Heap)(A:Around)(outer:List Env)(s:Shared)(H:Hp):Prop where
 frames:A.frames=some outer
 mod:Mod K mg base
 bs:∀b o,base.get? b=some o->s.heap.get? b=some o/\H b=none
 bsz:base.objs.size<=s.heap.objs.size
 funs:s.heap.FunFrames base outer
 frf:∀b∈frs outer,H b=none
 hok:HOk P w H s.heap
 bare:AllBare s.gens
 reg:∀P q,Rg K P q->H P=some (.tbl q)
def CE(outer:List Env)(P:Program)(w:World)(H:Hp)(s:Shared)(Q:VK)(u:Value)(s':Shared):Prop:=
 ∃v H',s'.os=s.os/\AllBare s'.gens/\Un (frs outer) [] H H' s.heap s'.heap/\HOk P w H' s'.heap/\RelV v u/\Q v H'
def CR(CX:CXT)(outer:List Env)(P:Program)(w:World)(H:Hp)(s:Shared)(Q:VK)(E:XK)(r:Result)(s':Shared):Prop:=
 match r with
 |.ok (.ret u)=>CE outer P w H s Q u s'
 |.ok _=>False
 |.error e=>CX outer H s E e s'
structure FnOk(P:Program)(w:World)(K:zbV)(mg:Str->Option Value)(base:Heap)(CX:CXT)(k:Nat)(f:Addr)(fd:FuncData)(ps:List Str)(sp:Sp):Prop where
 len:∀vs H Q E,sp vs H Q E->vs.length=ps.length
 run:∀(A:Around) (outer:List Env) (s:Shared) (H:Hp) (args:Args) (us:List Value) (vs:List V) (Q:VK) (E:XK),Room k A->Env0 P w K mg base A outer s H->BindsTo s fd args (ps.zip us)->Vals vs us->sp vs H Q E ->
  codeAny (model P w) A (.call (.ref f) args) (CR CX outer P w H s Q E) s
def FnOk.mono{P:Program}{w:World}{K:zbV}{mg:Str->Option Value}{base:Heap}{CX:CXT}{j k:Nat}{f:Addr}{fd:FuncData}{ps:List Str}{sp:Sp}(F:FnOk P w K mg base CX j f fd ps sp)(h:j<=k):
  FnOk P w K mg base CX k f fd ps sp:=⟨F.len,λA outer s H args us vs Q E hr=>F.run A outer s H args us vs Q E (hr.mono h)⟩
def FnOk.imp{base:Heap}{sp':Sp}(F:FnOk P w K mg base CX k f fd ps sp)
  (h:∀vs H Q E,sp' vs H Q E->sp vs H Q E):FnOk P w K mg base CX k f fd ps sp':=
 ⟨λvs H Q E q=>F.len vs H Q E (h _ _ _ _ q),λA outer s H args us vs Q E hr he hb hv hs=>F.run A outer s H args us vs Q E hr he hb hv (h _ _ _ _ hs)⟩
def Inv.env0(I:Inv X ρ σ H s):Env0 X.prog X.w X.K X.mg X.base X.A X.stack s H:=
 ⟨I.ok.frames,I.ok.mod,I.bs,zau I.ok.bsz I.sz,I.stack,I.stkFree,I.hok,I.bare,λP q h=>I.base.tbls _ _ (I.ok.reg P q h)⟩
def Inv.after{Q:VK}(I:Inv X ρ σ H s)(h:CE X.stack X.prog X.w H s Q u s'):EP X ρ σ Q u s':=by
 obtain⟨v,H',os,bare,un,hok,r,q⟩:=h;obtain⟨hh,g,d,t,os'⟩:=s';obtain rfl:os'=s.os:=os;exact⟨v,H',I.call (h':=hh) (g':=g) (d':=d) (t':=t) (ch:=[]) un hok bare (λb z=>absurd z (by simp)),r,q⟩
noncomputable def kW(sp:Sp)(dvs:List V)(E:XK)(t:TA):TE:=λσ H Q=>t σ H λvs H1=>sp (vs++dvs) H1 Q E
def Binds(K:zbV)(fd:FuncData)(ps:List Str)(ds:List Value):Prop:=
 ∀(s:Shared) (us:List Value),K.In s.heap->(us++ds).length=ps.length->BindsTo s fd ⟨us,[]⟩ (ps.zip (us++ds))
def Binds.all(h:∀us:List Value,us.length=ps.length->bindArgs fd ⟨us,[]⟩=pure (ps.zip us)):Binds K fd ps []:=λs us _ hl=>by
 rw[zbs]at hl ⊢;exact .of_eq (h us hl)
def mK(CX:CXT)(X:Cx)(E:XK):Prop:=∀(ρ:List (Addr×Obj)) (σ:St) (H:Hp) (s:Shared) (e:Value) (s':Shared),Inv X ρ σ H s->CX X.stack H s E e s'->X.xe e s'
section
variable{dvs:List V}{ds:List Value}{E:XK}{m:Str}{μ:Pos}{o:Expr}{t:TA}
def Ec{Q:VK}(F:FnOk X.prog X.w X.K X.mg X.base CX k f fd ps sp)(hr:Room k X.A)(hb:Binds X.K fd ps ds)(hd:Vals dvs ds)(hx:mK CX X E)
  (I:Inv X ρ σ H s) (r:Vals vs us) (h:sp (vs++dvs) H Q E):wpAny (model X.prog X.w) X.A (call (.ref f) us) (EP X ρ σ Q) X.xe s:=by
 have r2:Vals (vs++dvs) (us++ds):=r.append hd;have hl:(us++ds).length=ps.length:=by rw[<-r2.length];exact F.len _ _ _ _ h
 refine wpAny_call (codeAny_mono (F.run X.A X.stack s H ⟨us,[]⟩ (us++ds) (vs++dvs) Q E hr I.env0 (hb s us I.kIn hl) r2 h) λr s' hq=>?_);cases r with
 |error e=>exact hx ρ σ H s e s' I hq
 |ok fl=>
  cases fl with
  |ret u=>exact I.after hq
  |next=>exact False.elim hq
  |brk=>exact False.elim hq
  |cont=>exact False.elim hq
def Bc(F:FnOk X.prog X.w X.K X.mg X.base CX k f fd ps sp)(hr:Room k X.A)(hg:Gl X x)(hm:X.mg x=some (.ref f))(hk:PySem.W.keepIn X.K (.ref f)=true)(hb:Binds X.K fd ps ds)(hd:Vals dvs ds)(hx:mK CX X E)
  (ha:PA X (e::es) t) (hdb:(x==("__debug__":Str))=false:=by decide) (he:starEach (e::es) X.env=(false,eval e X.env)::starEach es X.env:=by rfl) (hpl:(backTo pos (starEach es X.env)).any (·.1)=false:=by rfl):
  PE X (.Call (.Name x p) (e::es) [] pos) (kW sp dvs E t):=by
 intro ρ s σ H Q I h;refine wpAny_Call_Name_kw (nc I hg hm ?_ hdb);refine PySem.W.callWith_K (h₀:=X.base) I.ok.mod.kin hk (thn (ha pos ρ s σ H _ I h) λus s1 ⟨vs,H1,I1,r,q⟩=>⟨I1.kIn,?_⟩) he hpl;exact Ec F hr hb hd hx I1 r q
end
structure FnScope(N P:List Str)(sc:Scope):Prop where
 kind:sc.kind=.function
 co:sc.isCoroutine=false
 gen:sc.isGenerator=false
 nd:N.Nodup
 pre:N.take P.length=P
 par:∀x∈P,sc.names.lookup x=some .local\/sc.names.lookup x=some .cell
 nofree:∀y∈sc.names,y.2≠.free
theorem nX{kindOf:Str->Option NameKind}{x:Str}:∀{binds:List (Str×Value)} {m:Str->Option Value},(∀v,(x,v)∉binds)->bindL kindOf binds m x=m x
 |[],_,_=>rfl
 | (n,v)::r,m,h=>by
  unfold bindL;rw[nX λw hw=>h w (zaj _ hw)];split
  .have:x≠n:=by rintro rfl;exact h v zaq
   simp[this]
  .rfl
theorem nZ{kindOf:Str->Option NameKind}{x:Str}:∀{binds:List (Str×Value)} {m:Str->Option Value},(∀v,(x,v)∉binds)->bindC kindOf binds m x=m x
 |[],_,_=>rfl
 | (n,v)::r,m,h=>by
  unfold bindC;rw[nZ λw hw=>h w (zaj _ hw)];split
  .rfl
  .have:x≠n:=by rintro rfl;exact h v zaq
   simp[this]
theorem nY{kindOf:Str->Option NameKind}{x:Str}{v:Value}:∀{P:List Str} {vs:List Value} {i:Nat} {m:Str->Option Value},P.Nodup->P[i]?=some x->vs[i]?=some v->kindOf x=some .local ->
  bindL kindOf (P.zip vs) m x=some v
 |[],_,_,_,_,h,_,_=>by simp at h
 |_::_,[],_,_,_,_,h,_=>by simp at h
 |p::P,w::vs,0,m,nd,h1,h2,hk=>by
  simp at h1 h2;subst h1;subst h2;show bindL kindOf ((p,w)::P.zip vs) m p=_;unfold bindL;rw[nX λv hv=>(zbb.mp nd).1 (List.of_mem_zip hv).1,if_pos hk];simp
 |p::P,w::vs,i+1,m,nd,h1,h2,hk=>by
  show bindL kindOf ((p,w)::P.zip vs) m x=_;unfold bindL;exact nY (i:=i) (zbb.mp nd).2 (by simpa using h1) (by simpa using h2) hk
theorem n4{kindOf:Str->Option NameKind}{x:Str}{v:Value}:∀{P:List Str} {vs:List Value} {i:Nat} {m:Str->Option Value},P.Nodup->P[i]?=some x->vs[i]?=some v->kindOf x≠some .local ->
  bindC kindOf (P.zip vs) m x=some v
 |[],_,_,_,_,h,_,_=>by simp at h
 |_::_,[],_,_,_,_,h,_=>by simp at h
 |p::P,w::vs,0,m,nd,h1,h2,hk=>by
  simp at h1 h2;subst h1;subst h2;show bindC kindOf ((p,w)::P.zip vs) m p=_;unfold bindC;rw[nZ λv hv=>(zbb.mp nd).1 (List.of_mem_zip hv).1,if_neg hk];simp
 |p::P,w::vs,i+1,m,nd,h1,h2,hk=>by
  show bindC kindOf ((p,w)::P.zip vs) m x=_;unfold bindC;exact n4 (i:=i) (zbb.mp nd).2 (by simpa using h1) (by simpa using h2) hk
noncomputable def bD(N:List Str)(vs:List V):St:=vs.map some++List.replicate (N.length-vs.length) none
def iV(CX:CXT)(P:Program)(w:World)(K:zbV)(mg:Str->Option Value)(base:Heap)(N:List Str)(qual:Str)(scope:Scope)(f:Addr)(cd:Value)(A:Around)(outer:List Env)(s:Shared)(H:Hp)(E:XK):Cx where
 prog:=P
 w:=w
 K:=K
 mg:=mg
 base:=base
 A:=A.deeper (envOfC qual scope s.heap.objs.size f cd)
 N:=N
 s₀:=s
 H₀:=H
 env:=envOfC qual scope s.heap.objs.size f cd
 outer:=outer
 stack:=envOfC qual scope s.heap.objs.size f cd::outer
 ex:=[]
 calm:=true
 fn:=λ_=>true
 pn:=[]
 xe:=λe s'=>wpAny (model P w) (A.deeper (envOfC qual scope s.heap.objs.size f cd)) (leaving (envOfC qual scope s.heap.objs.size f cd) e) (λ_ s''=>CX outer H s E e s'') (λe' s''=>CX outer H s E e' s'') s'
def qk{sc:Scope}(h:sc.names.lookup x=some .cell):∃c,(cellsFrom n sc.names []).lookup x=some c:=by
 have q:=PySem.W.cellsFrom_some sc.names n [] (.inl h);exact Option.isSome_iff_exists.mp q
def nQ{base:Heap}{cd:Value}{outer:List Env}{s1:Shared}{E:XK} 
  (S:FnScope N ps scope) (hd:A.handled=none) (e0:Env0 P w K mg base A outer s H) (hl:vs.length=ps.length) (r:Vals vs us)
  (x:InCallC s s.heap.objs.size (bindL (envOfC qual scope s.heap.objs.size f cd).kindOf (ps.zip us) λ_=>none) (cellsFrom (s.heap.objs.size+1) scope.names []) (bindC (envOfC qual scope s.heap.objs.size f cd).kindOf (ps.zip us) λ_=>none) s1):
  Inv (iV CX P w K mg base N qual scope f cd A outer s H E) [] (bD N vs) H s1:=by
 have hpl:ps.length<=N.length:=by have:=congrArg List.length S.pre;rw[zaE]at this;lia
 obtain⟨h1,tk,rfl,hk⟩:=x.done;have noA:∀b:Addr,b∉(iV CX P w K mg base N qual scope f cd A outer s H E).ex:=λb z=>absurd (show b∈([]:List Addr)from z) (by simp);refine⟨⟨e0.mod,S.kind,rfl,rfl,zav _,λy z c h1 h2=>?_,λy hy=>?_,λy c _ h=>?_,λ_=>hd,Around.frames_deeper e0.frames,.inr ⟨rfl,rfl⟩,λb z=>absurd z (noA b),e0.bs,e0.bsz,λb _ _=>noA b,λb z=>absurd z (noA b),e0.funs,e0.frf,e0.reg⟩,
  rfl,e0.bare,Un.kept hk,⟨_,x.toInCall.ns,λi y v h1 h2 h3=>?_⟩,λy c h=>⟨_,x.cell y c h⟩,e0.hok.fresh (zav _),λy c h=>?_,λp hp=>absurd (show p∈([]:List (Addr×Obj))from hp) (by simp),e0.hok.kept hk,?_,λi u e=>nomatch e⟩
 .exact name_of_addr x.apart (zaU h1) (zaU h2)
 .have hy:scope.names.lookup y=some .cell\/scope.names.lookup y=some .free:=hy;rcases hy with hy|hy
  .exact qk hy
  .exact absurd rfl (S.nofree _ (zaU hy))
 .exact zaW (x.above y c (zaU h))
 .have hi:i<vs.length:=by
   unfold bD at h2;by_cases hi:i<vs.length
   .exact hi
   .rw[zbH (by simpa using hi)]at h2;rw[List.getElem?_replicate]at h2;split at h2<;>cases h2
  have ha:vs[i]?=some v:=by
   unfold bD at h2;rw[zaS (by simpa using hi),zao]at h2;cases e:vs[i]? with
   |none=>rw[e]at h2;cases h2
   |some a=>rw[e]at h2;cases h2;rfl
  obtain⟨u,hu,rv⟩:=r.get ha;have hp:ps[i]?=some y:=by
   rw[<-S.pre,List.getElem?_take_of_lt (by lia)];exact h1
  have ndP:ps.Nodup:=by rw[<-S.pre];exact S.nd.sublist (List.take_sublist _ _)
  refine⟨u,rv,?_⟩;rcases S.par y (zaX hp)with k|k
  .exact .inl ⟨k,nY ndP hp hu k⟩
  .obtain⟨c,e⟩:=qk (n:=s.heap.objs.size+1) k;refine .inr ⟨.inl k,c,e,?_⟩;have q:=x.cell y c e;rw[n4 ndP hp hu (by show scope.names.lookup y≠_;rw[k];decide)]at q;exact q
 .exact e0.hok.fresh (zaW (x.above y c (zaU h)))
 .unfold bD;show _=N.length;rw[zae,zad,zaN]
  lia
def AJ{base:Heap}{name:Str}{params:Arguments}{dV kV doc pm cdv ct oc:Value}{an od:Option Addr}
  {osl:Array (Option Value)}  (lk:K.lookup f=some ⟨oc,od,.func (PySem.W.fnOf name qual params body scope dV kV doc pm an cdv ct),osl⟩) (hcd:PySem.W.codeIn K cdv qual=true) (S:FnScope N ps scope)
  (len:∀vs H Q E,sp vs H Q E->vs.length=ps.length)
  (hbody:∀(A:Around) (outer:List Env) (s:Shared) (H:Hp) (vs:List V) (Q:VK) (E:XK),Room k (A.deeper (envOfC qual scope s.heap.objs.size f cdv))->sp vs H Q E ->
   ∃t,PSs (iV CX P w K mg base N qual scope f cdv A outer s H E) body t/\t { nx:=λ_ H'=>Q .non H',rt:=Q } (bD N vs) H):
  FnOk P w K mg base CX (k+1) f (PySem.W.fnOf name qual params body scope dV kV doc pm an cdv ct) ps sp:=by
 refine⟨len,λA outer s H args us vs Q E hr e0 hb r hsp=>?_⟩;have hl:=len _ _ _ _ hsp;have KX:K.In s.heap:=e0.mod.kin.keeps λb o e=>(e0.bs b o e).1;have lim:s.heap.NoLimit:=e0.mod.nolimit.keeps λb o e=>(e0.bs b o e).1;have hkind:∀y∈ps.zip us,scope.names.lookup y.1=some .local\/(scope.names.lookup y.1=some .cell/\((cellsFrom (s.heap.objs.size+1) scope.names []).lookup y.1).isSome=true):=λ⟨n,v⟩ hy=>by
  rcases S.par n (List.of_mem_zip hy).1 with q|q
  .exact .inl q
  .exact .inr ⟨q,PySem.W.cellsFrom_some _ _ _ (.inl q)⟩
 refine codeAny_call_function hr.depth (KX _ _ lk) rfl S.co S.gen rfl (PySem.W.codeRec_of KX hcd) (hb _ _ _ _ ?_);refine wpAny_newFunctionEnv_cells S.kind hkind λenv he s1 x=>?_;subst he;refine⟨lim.keeps x.toInCall.keep,codeAny_func ?_⟩;obtain⟨t,ht,hq⟩:=hbody A outer s H vs Q E (hr.deeper _) hsp;have I:Inv (iV CX P w K mg base N qual scope f cdv A outer s H E) [] (bD N vs) H s1:=nQ S hr.hd e0 hl r x;refine wpAny_mono (ht [] s1 (bD N vs) H _ I hq) (λfl s' hs=>?_) λe s' hs=>hs;have fin:∀{σ':St} {H':Hp} {v:V} {u:Value},Inv (iV CX P w K mg base N qual scope f cdv A outer s H E) [] σ' H' s'->RelV v u->Q v H'->CE outer P w H s Q u s':=
  λ{σ' H' v u} J rv q=>⟨v,H',J.os,J.bare,J.base,J.hok,rv,q⟩
 cases fl with
 |ret u=>
  obtain⟨v,σ',H',J,rv,q⟩:=hs;exact fin J rv q
 |next=>
  obtain⟨σ',H',J,q⟩:=hs;exact fin (v:=V.non) (u:=Value.none) J rfl q
 |brk=>
  obtain⟨_,_,_,q⟩:=hs;exact False.elim q
 |cont=>
  obtain⟨_,_,_,q⟩:=hs;exact False.elim q
section
variable{t:TA}{id T:String}{r:List V->Hp->VK->Prop}
noncomputable def tCB(r:List V->Hp->VK->Prop)(t:TA):TE:=λσ H Q=>t σ H λvs H1=>r vs H1 Q
def lK(hc:CallR X (.builtin id) r)(hg:Gl X x)(hm:X.mg x=none)(hv:bootBuiltins x=some (.builtin id))(ha:PA X (e::es) t)(hn:x≠"__name__":=by decide)(hdb:(x==("__debug__":Str))=false:=by decide)
  (he:starEach (e::es) X.env=(false,eval e X.env)::starEach es X.env:=by rfl) (hpl:(backTo pos (starEach es X.env)).any (·.1)=false:=by rfl):PE X (.Call (.Name x p) (e::es) [] pos) (tCB r t):=by
 intro ρ s σ H Q I h;refine wpAny_Call_Name_kw (ie I hg hm hv ?_ hn hdb);exact PyProof.Rows.callWith_builtin1 (thn (ha pos ρ s σ H _ I h) λus s1 ⟨vs,H1,I1,r1,q1⟩=>hc ρ s1 σ H1 vs us Q I1 r1 q1) he hpl
def nK(hc:CallR X (.type T) r)(hg:Gl X x)(hm:X.mg x=none)(hv:bootBuiltins x=some (.type T))(ha:PA X (e::es) t)(hn:x≠"__name__":=by decide)(hdb:(x==("__debug__":Str))=false:=by decide)
  (he:starEach (e::es) X.env=(false,eval e X.env)::starEach es X.env:=by rfl) (hpl:(backTo pos (starEach es X.env)).any (·.1)=false:=by rfl):PE X (.Call (.Name x p) (e::es) [] pos) (tCB r t):=by
 intro ρ s σ H Q I h;refine wpAny_Call_Name_kw (ie I hg hm hv ?_ hn hdb);exact PyProof.Rows.callWith_type1 (thn (ha pos ρ s σ H _ I h) λus s1 ⟨vs,H1,I1,r1,q1⟩=>hc ρ s1 σ H1 vs us Q I1 r1 q1) he hpl
end
end L2
namespace HT
open PySem PyProof.Rows
section
open PySem.SeqAt
open PySem.AutoSeq1 (wpAny_loadPart')
open PySem.MeetsSeq PySem.MeetsSeq2 PySem.MeetsSeq3
end
section
variable{prog:Program}{w:World}{A:Around}{E:Value->Shared->Prop}{s:Shared}
noncomputable def sIx(n d:Nat):Option Int->Nat
 |none=>d
 |some v=>if v<0 then(v+(n:Int)).toNat else min v.toNat n
end
end HT
namespace L2
variable{n t':Nat}{i:Int}{X:Cx}{r:R2}{ρ:List (Addr×Obj)}{σ:St}{H:Hp}{s:Shared}{xs ys:List V}{its its':List Value}{T:String}{x:V}
open PySem PySem.Spec PyProof.Rows
abbrev TO:=St->Hp->(Option Int->Hp->Prop)->Prop
noncomputable def ixN(n:Nat)(i:Int):Option Nat:=if 0<=i then(if i<n then some i.toNat else none)else if -(n:Int)<=i then some (i+n).toNat else none
def atI{α:Type}(xs:List α)(i:Int):Option α:=(ixN xs.length i).bind λj=>xs[j]?
def rH{j:Nat}(h:ixN n i=some j):seqIndex? i n=some j/\j<n/\-(n:Int)<=i/\i<n:=by
 unfold ixN at h;by_cases h0:0<=i
 .rw[if_pos h0]at h;by_cases h1:i<n
  .rw[if_pos h1]at h;have e:i.toNat=j:=zat h;exact⟨by rw[seqIndex_of h0 h1,e],by lia,by lia,h1⟩
  .rw[if_neg h1]at h;cases h
 .rw[if_neg h0]at h;by_cases h1:-(n:Int)<=i
  .rw[if_pos h1]at h;have e:(i+n).toNat=j:=zat h;exact⟨by rw[seqIndex_neg (by lia) h1,e],by lia,h1,by lia⟩
  .rw[if_neg h1]at h;cases h
def nv{α:Type}{xs:List α}{v:α}(h:atI xs i=some v):∃j,seqIndex? i xs.length=some j/\xs[j]?=some v/\j<xs.length/\-(xs.length:Int)<=i/\i<xs.length:=by
 unfold atI at h;cases e:ixN xs.length i with
 |none=>rw[e]at h;cases h
 |some j=>
  rw[e]at h;obtain⟨h1,h2,h3,h4⟩:=rH e;exact⟨j,h1,h,h2,h3,h4⟩
def jf(b:Expr):Prop:=∀o i,subscripted b false o i=operate [o,i] (getItem o i)
def IxR(X:Cx)(r:R2):Prop:=
 ∀(value slice:Expr) (ρ:List (Addr×Obj)) (s:Shared) (σ:St) (H:Hp) (x y:V) (v u:Value) (Q:VK),Inv X ρ σ H s->RelV x v->RelV y u->r x y H Q ->
  subscripted slice false v u=operate [v,u] (getItem v u)->wpAny (model X.prog X.w) X.A (subscriptTail value slice v u) (EP X ρ σ Q) X.xe s
def MtR(X:Cx)(id:String)(r:V->List V->Hp->VK->Prop):Prop:=
 ∀(ρ:List (Addr×Obj)) (s:Shared) (σ:St) (H:Hp) (x:V) (xs:List V) (v:Value) (us:List Value) (Q:VK),Inv X ρ σ H s->RelV x v->Vals xs us->r x xs H Q ->
  wpAny (model X.prog X.w) X.A (call (.builtin id) (v::us)) (EP X ρ σ Q) X.xe s
section
variable{a b:Expr}{ta tb:TE}{pos:Pos}
def IxR.or{r':R2}(h:IxR X r)(h':IxR X r'):IxR X (λx y H Q=>r x y H Q\/r' x y H Q):=by
 intro value slice ρ s σ H x y v u Q I rx ry q hs;rcases q with q|q
 .exact h value slice ρ s σ H x y v u Q I rx ry q hs
 .exact h' value slice ρ s σ H x y v u Q I rx ry q hs
def oH(hr:IxR X r)(ha:PE X a ta)(hb:PE X b tb)(hs:jf b):PE X (.Subscript a b pos) (tOp r ta tb):=by
 intro ρ s σ H Q I h;exact Subscript_ (xE ha hb I h λv u s2 x y H2 I2 rx ry q=>hr a b ρ s2 σ H2 x y v u Q I2 rx ry q (hs _ _))
def sB(K:zbV):R2:=λx y H Q=>∃p xs i v,x=.ref p/\y=.int i/\SqL K H p xs/\atI xs i=some v/\Q v H
def Ed(K:zbV):R2:=λx y H Q=>∃p xs i v,x=.ref p/\y=.int i/\SqT K H p xs/\atI xs i=some v/\Q v H
def Ee:R2:=λx y H Q=>∃z i c,x=.str z/\y=.int i/\z.length<=sizeLine/\atI z.cps.toList i=some c/\Q (.str ⟨#[c]⟩) H
def ix_list:IxR X (sB X.K):=by
 intro value slice ρ s σ H x y v u Q I rx ry h hs;obtain⟨p,xs,i,z,rfl,rfl,hq,he,q⟩:=h;cases rx;obtain⟨t,rfl⟩:=ry;obtain⟨its,r,pl,hz⟩:=I.list hq;obtain⟨j,h1,h2,h3,h4,h5⟩:=nv he;obtain⟨w,ew,rw'⟩:=r.get h2;have hl:=r.length;have hn:=kg;have fin:EP X ρ σ Q w s:=⟨z,H,I,rw',q⟩;by_cases h0:0<=i
 .have hj:i.toNat=j:=by
   rw[seqIndex_of h0 h5]at h1;exact zat h1
  exact item_listR pl.isList h0 (by lia) (by rw[hj];simpa using ew) fin hs
 .have hj:(i+(its.toArray.size:Int)).toNat=j:=by
   rw[seqIndex_neg (by lia) h4]at h1;rw[zai,<-hl];exact zat h1
  exact subscriptTail_builtinR (x:=w) pl.isList.typeIs slot_list_getitem.lookup
   (wpAny_getItem_list_neg (Q:=λr s'=>r=w/\EP X ρ σ Q r s') pl.isList (by lia) (by rw[zai]<;>lia) (by lia) (by rw[hj];simpa using ew) ⟨rfl,fin⟩) hs
def ix_tup:IxR X (Ed X.K):=by
 intro value slice ρ s σ H x y v u Q I rx ry h hs;obtain⟨p,xs,i,z,rfl,rfl,hq,he,q⟩:=h;cases rx;obtain⟨t,rfl⟩:=ry;obtain⟨its,r,pl,hz⟩:=I.tuple hq;obtain⟨j,h1,h2,h3,h4,h5⟩:=nv he;obtain⟨w,ew,rw'⟩:=r.get h2;have hl:=r.length;have hn:=kg;have fin:EP X ρ σ Q w s:=⟨z,H,I,rw',q⟩;exact subscriptTail_builtinR (x:=w) pl.typeIs slot_tuple_getitem.lookup
  (getItem_tuple (j:=j) (Q:=λr s'=>r=w/\EP X ρ σ Q r s') pl (by lia) (by lia) (by rw[zai,<-hl];exact h1) (by simpa using ew) ⟨rfl,fin⟩) hs
def E7:IxR X Ee:=by
 intro value slice ρ s σ H x y v u Q I rx ry h hs;obtain⟨z,i,c,rfl,rfl,hz,he,q⟩:=h;obtain⟨t,rfl⟩:=rx;obtain⟨t',rfl⟩:=ry;obtain⟨j,h1,h2,h3,h4,h5⟩:=nv he;have hl:z.cps.toList.length=z.length:=by simp[Str.length]
 rw[hl]at h1 h4 h5;have hn:=kg;exact tail_any (typeIs_str s z t) slot_str_getitem.lookup (getItem_str (c:=c) (by
  have e1:decide (i < -(2 ^ 63:Int))=false:=zaA (by lia);have e2:decide (i >= 2 ^ 63)=false:=zaA (by lia);rw[e1,e2,Bool.or_false]) (by rw[h1];simpa using h2) ⟨.str ⟨#[c]⟩,H,I.tok _,⟨_,rfl⟩,q⟩) hs
def rIx(K:zbV):R2:=λx y H Q=>sB K x y H Q\/Ed K x y H Q\/Ee x y H Q
def ix_seq:IxR X (rIx X.K):=ix_list.or (ix_tup.or E7)
def sN(its:List Value)(n j:Nat)(u:Value):Obj.mapSeq (·.setIfInBounds j u) { cls:=.type "list",data:=.seq its.toArray n }={ cls:=.type "list",data:=.seq (its.set j u).toArray n }:=by
 simp[Obj.mapSeq]
def Inv.lst{ρ:List (Addr×Obj)}{σ:St}{H:Hp}{s:Shared}{p:Addr}{xs:List V}(I:Inv X ρ σ H s)(h:H p=some (.lst xs)):
  ∃(its:List Value) (n:Nat),Vals xs its/\s.heap.get? p=some { cls:=.type "list",data:=.seq its.toArray n }/\xs.length<=sizeLine:=by
 obtain⟨z,its,n,r,e⟩:=I.hok p _ h;exact⟨its,n,r,e,z⟩
def Inv.lstUpd{p:Addr}{n':Nat}{f:Obj->Obj}(I:Inv X ρ σ H s)(h:H p=some (.lst xs))
  (ho:s.heap.get? p=some { cls:=.type "list",data:=.seq its.toArray n }) (hf:f { cls:=.type "list",data:=.seq its.toArray n }={ cls:=.type "list",data:=.seq its'.toArray n' }) (r:Vals ys its') (hz:ys.length<=sizeLine) (t:Nat):
  Inv X ρ σ (upd H p (.lst ys)) { s with heap:=s.heap.update p f,toks:=t }:=by
 have e:(s.heap.update p f).get? p=some { cls:=.type "list",data:=.seq its'.toArray n' }:=by
  rw[Heap.get?_update_self f ho (by rw[hf]<;>rfl),hf]
 refine I.write (x:=p) (e:=p) (by rw[h];trivial) (.inl rfl) (λb u hb q=>(zbz _ _ (Ne.symm hb)).trans q) ⟨_,e⟩ ?_;exact⟨hz,its',n',r,e⟩
def sA:V->V->V->Hp->(Hp->Prop)->Prop:=λo i v H Q=>∃p xs k j,o=.ref p/\i=.int k/\H p=some (.lst xs)/\ixN xs.length k=some j/\Q (upd H p (.lst (xs.set j v)))
def oZ:Gb X sA:=by
 intro ρ s σ H o i v ov iv u Q I ro ri rv h;obtain⟨p,xs,k,j,rfl,rfl,hp,hj,q⟩:=h;cases ro;obtain⟨t,rfl⟩:=ri;obtain⟨its,n,r,ho,hz⟩:=I.lst hp;obtain⟨h1,h2,h3,h4⟩:=rH hj;have hl:=r.length;have hn:=kg;have I':Inv X ρ σ (upd H p (.lst (xs.set j v))) { s with heap:=s.heap.update p (Obj.mapSeq (·.setIfInBounds j u)) }:=
  I.lstUpd hp ho (sN its n j u) (r.set rv j) (by rw[zaV];exact hz) s.toks
 by_cases h0:0<=k
 .have hk:k.toNat=j:=by
   rw[seqIndex_of h0 h4]at h1;exact zat h1
  exact PySem.W.ki_setAt ho h0 (by lia) (by rw[zai,<-hl];exact h4) (by rw[hk];exact⟨_,I',q⟩)
 .have hk:(k+(its.toArray.size:Int)).toNat=j:=by
   rw[seqIndex_neg (by lia) h3]at h1;rw[zai,<-hl];exact zat h1
  exact PySem.W.ki_setBack ho (by lia) (by rw[zai,<-hl];exact h3) (by lia) (by rw[hk];exact⟨_,I',q⟩)
def ql:CallR X (.type "list") (λxs H Q=>∃p ys,xs=[.ref p]/\(SqL X.K H p ys\/SqT X.K H p ys)/\∀l,H l=none->Q (.ref l) (upd H l (.lst ys))):=by
 intro ρ s σ H xs us Q I r h;obtain⟨p,ys,rfl,hq,q⟩:=h;obtain⟨u,rfl,rx⟩:=kS r;cases rx;have fin:∀(its:List Value),Vals ys its->ys.length<=sizeLine->∀(h':Heap) (c':Nat),(∀b o',s.heap.get? b=some o'->h'.get? b=some o') ->
   h'.get? s.heap.objs.size=some { cls:=.type "list",dict:=none,data:=.seq its.toArray c',slots:=#[] }->EP X ρ σ Q (.ref s.heap.objs.size) { s with heap:=h' }:=λits r' hz h' c' kp e=>
  ⟨.ref s.heap.objs.size,_,I.laid (t':=s.toks) kp (zav _) (show ObjOk X.prog X.w _ h' _ (.lst ys)from⟨hz,its,c',r',e⟩),rfl,q _ (I.hok.fresh (zav _))⟩
 rcases hq with hq|hq
 .obtain⟨its,r',pl,hz⟩:=I.list hq;have ξ:=r'.length;obtain⟨o,ho,hc,n,hd⟩:=pl.isList;exact call_list_seq p (.inl rfl) ho hc hd (λh' c' kp e=>fin its r' hz h' c' kp e) (by simp only[zai]<;>lia)
 .obtain⟨its,r',pl,hz⟩:=I.tuple hq;have ξ:=r'.length;obtain⟨o,ho,hc,n,hd⟩:=pl;exact call_list_seq p (.inr rfl) ho hc hd (λh' c' kp e=>fin its r' hz h' c' kp e) (by simp only[zai]<;>lia)
def tyV(K:zbV)(T:String)(x:V)(H:Hp):Prop:=match x with
 |.str _=>T="str"
 |.int _=>T="int"
 |.ref p=>(T="list"/\∃xs,SqL K H p xs)\/(T="tuple"/\∃o,K.lookup p=some o/\o.cls=.type "tuple"/\o.dict=none) \/
   (T="dict"/\((∃kvs,H p=some (.dK kvs))\/∃kvs ad,H p=some (.dT kvs ad)))\/(T="set"/\∃S n,H p=some (.set S n))
 |_=>False
def um{v:Value}(I:Inv X ρ σ H s)(r:RelV x v)(ty:tyV X.K T x H):
  s.TypeIs v T/\∀a,v=.ref a->∃ob,s.heap.get? a=some ob/\ob.dict=none:=by
 cases x with
 |str z=>
  obtain⟨t,rfl⟩:=r;cases(show T="str" from ty);exact⟨typeIs_str s z t,λ_ e=>nomatch e⟩
 |int i=>
  obtain⟨t,rfl⟩:=r;cases(show T="int" from ty);exact⟨typeIs_int s i t,λ_ e=>nomatch e⟩
 |ref p=>
  cases r;rcases ty with⟨rfl,xs,hq⟩|⟨rfl,o,hk,hc,hd⟩|⟨rfl,hk⟩|⟨rfl,S,n,hk⟩
  .obtain⟨its,_,pl,_⟩:=I.list hq;refine⟨pl.isList.typeIs,λa e=>?_⟩;cases e;obtain⟨o,n,e,c,hd,_⟩:=pl;exact⟨o,e,hd⟩
  .refine⟨⟨o,I.kIn p o hk,hc⟩,λa e=>?_⟩;cases e;exact⟨o,I.kIn _ o hk,hd⟩
  .have z:∃o,s.heap.get? p=some o/\o.ExactDict:=by
    rcases hk with⟨kvs,hk⟩|⟨kvs,ad,hk⟩
    .obtain⟨_,_,_,_,o,_,_,e,ex,_⟩:=I.hok p _ hk;exact⟨o,e,ex⟩
    .obtain⟨_,_,_,_,o,_,_,e,ex,_⟩:=I.hok p _ hk;exact⟨o,e,ex⟩
   obtain⟨o,e,ex⟩:=z;refine⟨⟨o,e,ex.1⟩,λa e2=>?_⟩;cases e2;exact⟨o,e,ex.2.1⟩
  .obtain⟨o,_,_,_,e,ex,_⟩:=I.hok p _ hk;refine⟨⟨o,e,ex.1⟩,λa e2=>?_⟩;cases e2;exact⟨o,e,ex.2.1⟩
 |_=>exact False.elim ty
noncomputable def D7(K:zbV)(T:String)(r:V->List V->Hp->VK->Prop)(to:TE):TE:=λσ H Q=>to σ H λx H1=>tyV K T x H1/\r x [] H1 Q
noncomputable def tBM(K:zbV)(T:String)(r:V->List V->Hp->VK->Prop)(to:TE)(t:TA):TE:=λσ H Q=>to σ H λx H1=>tyV K T x H1/\t σ H1 λxs H2=>r x xs H2 Q
variable{o e:Expr}{es:List Expr}{to:TE}{t:TA}{name:Str}{μ ω:Pos}{id:String}{r:V->List V->Hp->VK->Prop}
def Eu(pa:PlainAttrs T)(slot:Slot T name id)(hty:typeOf (.builtin id)=pure (.type "method_descriptor"))(hm:MtR X id r)(ho:PE X o to)
  (η:attributeBase o name X.env (eval o X.env)=eval o X.env:=by rfl) (θ:(μ.endLine==ω.line)=true:=by rfl):PE X (.Call (.Attribute o name μ) [] [] ω) (D7 X.K T r to):=by
 intro ρ s σ H Q I h;refine wpAny_Call_method0_late η θ (thn (ho ρ s σ H _ I h) λv s1 ⟨x,H1,I1,r1,ty,q1⟩=>?_);obtain⟨h1,h2⟩:=um I1 r1 ty;exact⟨T,id,pa,slot,hty,h1,h2,Calls.callWith_builtin rfl (PySem.evalArgs_none (hm ρ s1 σ H1 x [] v [] Q I1 r1 .nil q1))⟩
def Gy(pa:PlainAttrs T)(slot:Slot T name id)(hty:typeOf (.builtin id)=pure (.type "method_descriptor"))(hm:MtR X id r)(ho:PE X o to)(ha:PA X (e::es) t)
  (η:attributeBase o name X.env (eval o X.env)=eval o X.env:=by rfl)
  (hfew:((backTo ω (starEach (e::es) X.env)).all (λx=>!x.1)&&(backToKw ω (keywordEach [] X.env)).all (λx=>x.1.isSome)
  &&decide ((e::es).length+([]:List Keyword).length+(if([]:List Keyword).isEmpty then 0 else 1)<30))=true:=by rfl)
  (θ:(μ.endLine==ω.line)=true:=by rfl) (hs:starEach (e::es) X.env=(false,eval e X.env)::starEach es X.env:=by rfl) (ι:(backTo ω (starEach es X.env)).any (·.1)=false:=by rfl):
  PE X (.Call (.Attribute o name μ) (e::es) [] ω) (tBM X.K T r to t):=by
 intro ρ s σ H Q I h;refine wpAny_Call_method_late η hfew θ rfl (thn (ho ρ s σ H _ I h) λv s1 ⟨x,H1,I1,r1,ty,q1⟩=>?_);obtain⟨h1,h2⟩:=um I1 r1 ty;refine⟨T,id,pa,slot,hty,h1,h2,?_⟩;have hA:=ha ω ρ s1 σ H1 _ I1 q1;rw[hs]at hA ⊢;refine Calls.callWith_builtin (by show(false || (backTo ω (starEach es X.env)).any (·.1))=false;rw[ι]<;>rfl) (Calls.evalArgs_plain ?_);exact thn hA λus s2 ⟨vs,H2,I2,r2,q2⟩=>hm ρ s2 σ H2 x vs v us Q I2 r1 r2 q2
end
def MtM(X:Cx)(id:String)(r:V->List V->Hp->VK->Prop):Prop:=
 ∀(ρ:List (Addr×Obj)) (s:Shared) (σ:St) (H:Hp) (x:V) (xs:List V) (v:Value) (us:List Value) (Q:VK),Inv X ρ σ H s->RelV x v->Vals xs us->r x xs H Q ->
  wpAny (model X.prog X.w) X.A (call (.builtin id) (v::us)) (EP X ρ σ Q) X.xe s
def Vals.one:∀{x:V} {us:List Value},Vals [x] us->∃u,us=[u]/\RelV x u
 |_,_,.cons r .nil=>⟨_,rfl,r⟩
def Vals.two{y:V}{us:List Value}(h:Vals [x,y] us):∃u v,us=[u,v]/\RelV x u/\RelV y v:=by
 cases h with
 |cons r t=>
  cases t with
  |cons q n=>
   cases n;exact⟨_,_,rfl,r,q⟩
def Vals.zero:∀{us:List Value},Vals [] us->us=[]
 |_,.nil=>rfl
theorem Vals.rep{xs:List V}{us:List Value}(h:Vals xs us):∀k:Nat,Vals (List.replicate k xs).flatten (List.replicate k us).flatten
 |0=>.nil
 |k+1=>by
  rw[List.replicate_succ,List.replicate_succ,List.flatten_cons,List.flatten_cons];exact Vals.append h (Vals.rep h k)
section
variable{l b:Addr}{zs:List V}
def Inv.lset{f:Array Value->Array Value}(I:Inv X ρ σ H s)(hH:H l=some (.lst xs))
  (e:s.heap.get? l=some { cls:=.type "list",data:=.seq its.toArray n }) (hf:f its.toArray=its'.toArray) (hv:Vals ys its') (hz:ys.length<=sizeLine):
  Inv X ρ σ (upd H l (.lst ys)) { s with heap:=s.heap.update l (Obj.mapSeq f),toks:=t' }:=by
 have q:=PySem.IsL.update e f;rw[hf]at q;refine I.write (x:=l) (e:=l) (by rw[hH];exact trivial) (.inl rfl) (λb' u hb hu=>(zbz s.heap (Obj.mapSeq f) (Ne.symm hb)).trans hu) ⟨_,q⟩ ?_;exact⟨hz,its',_,hv,q⟩
def Inv.lnew(I:Inv X ρ σ H s)(hv:Vals ys its)(hz:ys.length<=sizeLine):
  Inv X ρ σ (upd H s.heap.objs.size (.lst ys)) { s with heap:=s.heap.push { cls:=.type "list",data:=.seq its.toArray },toks:=t' }:=
 I.laid (λ_ _ q=>zaf _ q) (zav _) ⟨hz,its,0,hv,zan _ rfl⟩
def Inv.fresh(I:Inv X ρ σ H s):H s.heap.objs.size=none:=I.hok.fresh (zav _)
def Inv.lstM(I:Inv X ρ σ H s)(hH:H l=some (.lst xs)):xs.length<=sizeLine/\∃(its:List Value) (n:Nat),Vals xs its/\xs.length=its.length/\s.heap.get? l=some { cls:=.type "list",data:=.seq its.toArray n }:=by
 obtain⟨z,its,n,r,e⟩:=I.hok l _ hH;exact⟨z,its,n,r,r.length,e⟩
def wA(h:n<=sizeLine):Builtin.List.listTooLong n=false:=by
 unfold Builtin.List.listTooLong;exact zaA (by lia)
end
def qT:V->List V->Hp->VK->Prop:=λx vs H Q=>∃l xs y,x=.ref l/\vs=[y]/\H l=some (.lst xs)/\xs.length<sizeLine/\Q .non (upd H l (.lst (xs++[y])))
def nL:MtM X "list.append" qT:=by
 intro ρ s σ H x vs v us Q I rx rv h;obtain⟨l,xs,y,rfl,rfl,hH,hz,q⟩:=h;cases rx;obtain⟨u,rfl,ru⟩:=rv.one;obtain⟨z,its,n,r,hl,e⟩:=I.lstM hH;refine call_meets F.slot_list_append ⟨_,e,rfl⟩ F.entry_list_append (F.args_list_append_2 _ _) (PySem.list_append l its.toArray n u (by rw[zai];lia)) ⟨e,?_⟩;refine⟨.non,_,I.lset (its':=its++[u]) hH e (by simp) (r.append (.cons ru .nil)) ?_,rfl,q⟩;rw[zae,List.length_singleton]
 lia
def uG:V->List V->Hp->VK->Prop:=λx vs H Q=>∃l xs,x=.ref l/\vs=[]/\H l=some (.lst xs)/\Q .non (upd H l (.lst []))
def wF:MtM X "list.clear" uG:=by
 intro ρ s σ H x vs v us Q I rx rv h;obtain⟨l,xs,rfl,rfl,hH,q⟩:=h;cases rx;have hus:=rv.zero;subst hus;obtain⟨z,its,n,r,hl,e⟩:=I.lstM hH;refine call_meets F.slot_list_clear ⟨_,e,rfl⟩ F.entry_list_clear (F.args_list_clear_1 _) (AutoSeq1.list_clear_list_0 l its.toArray n (by rw[zai];lia)) ⟨e,?_⟩;exact⟨.non,_,I.lset (its':=[]) (ys:=[]) hH e rfl .nil (zbj _),rfl,q⟩
def Bq{α:Type}(xs:List α)(k:Nat):(List.replicate k xs).flatten.length=k*xs.length:=by
 induction k with
 |zero=>simp
 |succ k ih=>rw[List.replicate_succ,List.flatten_cons,zae,ih,Nat.succ_mul,Nat.add_comm]
end L2
namespace Att
variable{P:Params}{h:Heap}{l:OpenLaw}{n:Nat}
open PySem PySem.W PySem.Calls PyProof.Rows
def mo:∀(ns:List Int) (vs:List Value),WellAll P h vs (ns.map WData.int)->IntsAre vs ns:=by
 intro ns
 induction ns with
 |nil=>
  intro vs w;rw[List.map_nil]at w;cases w;exact .nil
 |cons n ns ih=>
  intro vs w;rw[zar]at w;cases w with
  |cons a b=>
   cases a;exact .cons _ _ (ih _ b)
def uF(hn:l.most=some n){args:List WData}{vals:List Value}
  (hpre:l.row.toRowW.claim.pre args=true) (hwl:WellAll P h vals args):
  ∃a vs ns,vals=[Value.ref a]/\args=[WData.list (ns.map WData.int)]/\h.get? a=some { cls:=.type "list",data:=.seq vs.toArray }/\IntsAre vs ns/\ns.length<=n:=by
 have hsh:WShape.hasAll [] args [.list .int]=true:=(pre_splitW hpre).1;have hc:l.pre.holds [] { args:=args }=true:=(pre_splitW hpre).2;obtain⟨d,r,rfl,h1,h2⟩:=hasAllW_cons hsh;obtain rfl:=hasAllW_nil h2;obtain⟨xs,rfl,h3⟩:=hasW_list h1;obtain⟨ns,rfl⟩:=items_int h3;have ξ:ns.length<=n:=by
  unfold OpenLaw.pre at hc;have h4:(WTm.not (.lt (.lit (.int (n:Int))) (.len (.arg 0)))).holds [] { args:=[.list (ns.map .int)] }=true:=by
   have h4:=(holds_andW hc).1;rw[hn]at h4;exact h4
  have h5:=condW_of h4 (w_not (w_lt w_lit (w_len_list (w_arg rfl))));rw[zad]at h5;refine Nat.le_of_not_lt λq=>?_;have q':(n:Int)<((ns.length:Nat):Int):=by lia
  first
   | (rw[zaB q']at h5;exact absurd h5 (by decide))
   | (simp at h5;lia)
 cases hwl with
 |cons w1 w2=>
  cases w2;cases w1 with
  |list ho hall=>exact⟨_,_,ns,rfl,rfl,ho,mo ns _ hall,ξ⟩
def uJ(l:OpenLaw)(args:List WData):l.row.toRowW.claim.post args (.bool true) args=true:=
 postW_of (r:=l.row.toRowW) (X:=(true==true))
  (show WShape.has [] (.bool true) .bool=true by first|rfl|decide|simp[WShape.has,WShape.arms,WShape.armsAll])
  (show(WTm.eq .res (.lit (.bool true))).value [] { args:=args,res:=some (.bool true),after:=args }=some (.bool (true==true))from w_eq_bool (w_res rfl) w_lit) rfl
def attach_call{q:Program}{gV:List Str}{XP:(Str->Option Value)->Heap->Prop}{YP:World->Heap->Prop}{d:DefRec}
  (hn:l.most=some n) (hdf:d.params.defaults=[])
  (call:∀(w:World) (s₀ s₁:Shared) (mg mb:Str->Option Value) (fa:Addr) (o:Obj) (pm cd doc:Value) (a:Addr) (vs:List Value) (ns:List Int),
   Ground q gV [] XP w s₀ mg mb s₁.heap->YP w s₁.heap ->
   s₁.heap.get? fa=some o->o.data=.func (docDef d.name d.params d.body d.scope pm cd doc)->s₁.heap.CodeRec cd d.name->mg d.name=some (.ref fa) ->
   s₁.heap.get? a=some { cls:=.type "list",data:=.seq vs.toArray }->IntsAre vs ns->ns.length<=n->s₁.gens=#[] ->
   codeAny (model l.prog w) callerA (.call (.ref fa) ⟨[.ref a],[]⟩) (λr s'=>r=.ok (.ret (.bool true))/\OldK s₁.heap s'.heap/\s'.os=s₁.os/\AllBare s'.gens) s₁):
  WalkO q gV XP YP l.row.toRowW d [] (λf vs=>PySem.call f vs):=by
 intro w s₀ s₁ mg mb G Y fa o pm cd doc dV kV ho hd hcd hD hmg hg args vals as hpre hlay hrd hwl hlo;obtain rfl:dV=.none:=Dflts.none hD hdf;obtain rfl:kV=.none:=Dflts.noKw hD;obtain⟨a,vs,ns,rfl,rfl,hobj,hints,ξ⟩:=uF hn hpre hwl;refine enter_call (codeAny_mono (call w s₀ s₁ mg mb fa o pm cd doc a vs ns G Y ho (fd_plain hd) hcd hmg hobj hints ξ hg) λr s' hq=>?_);obtain⟨rfl,h2,h3,h4⟩:=hq;exact⟨.inl ⟨.bool true,.bool true,[],rfl,λ_=>rfl,.bool true,uJ l _,λ_=>⟨List.Pairwise.nil,λ_ hm=>(nomatch hm)⟩⟩,h2,h3,h4⟩
end Att
namespace L2
variable{P:Program}{w:World}{mg:Str->Option Value}{a f b:Addr}{fd:FuncData}{x qual:Str}{sp:Sp}{X:Cx}{st:Stmt}{ps:List Str}{A:Around}{pos:Pos}{o:Option V}{y v:V}{u:Value}{H H':Hp}{kvs:List (List (Option Key)×V)}{xs:List (List (Option Key)×Addr×Value)}{ad:Addr->Prop}{ρ:List (Addr×Obj)}{σ:St}{s:Shared}{E Q:Value->Shared->Prop}{h':Heap}{value:Expr}{tv:TE}
open PySem PySem.Spec PyProof.Rows
theorem nF:∀{vs:List Value} {ns:List Int},IntsAre vs ns->Vals (ns.map V.int) vs
 |_,_,.nil=>.nil
 |_,_,.cons n t h=>.cons ⟨t,rfl⟩ (nF h)
def wN{K0:zbV}{mb:Str->Option Value}{CX:CXT}{k:Nat}{fa:Addr}{s₁:Shared}{vs:List Value}{ns:List Int}{ts:List (Addr×Str)}
  (KX:K0.In s₁.heap) (hlk:∀b,(bu K0 ts).lookup b=K0.lookup b) (hns:s₁.heap.Ns mainGlobals mg) (hb:s₁.heap.Ns builtinsNs mb) (hbb:∀x:Str,x≠"__name__"->mb x=bootBuiltins x) (hlim:s₁.heap.NoLimit) (hmods:∃mm,s₁.heap.Ns sysModules mm) (hg:s₁.gens=#[])
  (hbm:∃(bm:Addr) (o:Obj),mg "__builtins__"=some (.ref bm)/\bm≠builtinsNs/\s₁.heap.get? bm=some o/\o.cls=.type "module"/\o.dict=some builtinsNs/\o.data=.plain)
  (ha:s₁.heap.get? a=some { cls:=.type "list",data:=.seq vs.toArray }) (hi:IntsAre vs ns) (hl:ns.length<=sizeLine) (hr:Room k callerA)
  (ht:∀q∈ts,s₁.heap.get? q.1=some (PySem.W.tabObj #[])/\K0.lookup q.1=none/\isCodeTable s₁.heap q.1) (hu:(ts.map (·.1)).Nodup)
  (F:∀base:Heap,(bu K0 ts).In base->base.Ns mainGlobals mg->FnOk P w (bu K0 ts) mg base CX k fa fd [x] sp) (hbind:∀(s:Shared) (u:Value),BindsTo s fd ⟨[u],[]⟩ [(x,u)])
  (hsp:∀H:Hp,SqL (bu K0 ts) H a (ns.map V.int)->sp [.ref a] H (λv _=>v=.bl true) λ_ _ _=>False)
  (hCX:∀H e s',CX [] H s₁ (λ_ _ _=>False) e s'->False):
  codeAny (model P w) callerA (.call (.ref fa) ⟨[.ref a],[]⟩) (λr s'=>r=.ok (.ret (.bool true))/\OldK s₁.heap s'.heap/\s'.os=s₁.os/\AllBare s'.gens) s₁:=by
 have rv:=nF hi;have lenV:=hi.length;have KR:(bu K0 ts).In s₁.heap:=λb o e=>KX b o (by rw[<-hlk];exact e);have tl:∀{b:Addr} {q:Str},ts.lookup b=some q->(b,q)∈ts:=λe=>sO e;have core:∀H:Hp,SqL (bu K0 ts) H a (ns.map V.int)->HOk P w H s₁.heap->(∀b,H b=((ts.lookup b).map HO.tbl)\/(b=a/\∃o xs,H b=some (.frz o (.lst xs))))->(∀b q,ts.lookup b=some q->H b=some (.tbl q))->(H a≠none->K0.lookup a=none) ->
   codeAny (model P w) callerA (.call (.ref fa) ⟨[.ref a],[]⟩) (λr s'=>r=.ok (.ret (.bool true))/\OldK s₁.heap s'.heap/\s'.os=s₁.os/\AllBare s'.gens) s₁:=by
  intro H hS hok hA hT hK;have base_of:∀{b:Addr} {o:Obj},s₁.heap.get? b=some o->H b=none->(jC s₁.heap H).get? b=some o:=λe n=>wZ e n;have noA:∀{b:Addr} {o:Obj},s₁.heap.get? b=some o->(∀vs,o.data≠.seq vs)->(∀vs,o.data≠.fields vs)->H b=none:=λ{b o} e d1 d2=>by
   rcases hA b with z|⟨z,_⟩
   .cases q:ts.lookup b with
    |none=>rw[q]at z;exact z
    |some u=>
     have:=(ht _ (tl q)).1;rw[e]at this;cases this;exact absurd rfl (d2 #[])
   .subst z;rw[ha]at e;cases e;exact absurd rfl (d1 _)
  have nsK:∀{b:Addr} {m:Str->Option Value},s₁.heap.Ns b m->(jC s₁.heap H).Ns b m:=λ{b m} ⟨o,es,ep,e,d,r⟩=>⟨o,es,ep,base_of e (noA e (by rw[d];exact λ_ z=>nomatch z) (by rw[d];exact λ_ z=>nomatch z)),d,r⟩;have hKn:∀(b:Addr) (o:Obj),K0.lookup b=some o->H b=none:=λb o e=>by
   rcases hA b with z|⟨z,_⟩
   .cases q:ts.lookup b with
    |none=>rw[q]at z;exact z
    |some u=>rw[(ht _ (tl q)).2.1]at e;cases e
   .subst z;cases q:H b with
    |none=>rfl
    |some u=>rw[hK (by rw[q];simp)]at e;cases e
  have hKb:(bu K0 ts).In (jC s₁.heap H):=λb o e=>base_of (KR b o e) (hKn b o (by rw[<-hlk];exact e));have hM:Mod (bu K0 ts) mg (jC s₁.heap H):=⟨hKb,nsK hns,⟨mb,nsK hb,hbb⟩,let⟨mc,h1,h2⟩:=hlim;⟨mc,nsK h1,h2⟩,let⟨mm,h1⟩:=hmods;⟨mm,nsK h1⟩,
   let⟨bm,o,h1,h2,h3,h4,h5,h6⟩:=hbm;⟨bm,o,h1,h2,base_of h3 (noA h3 (by rw[h6];exact λ_ z=>nomatch z) (by rw[h6];exact λ_ z=>nomatch z)),h4,h5,h6⟩⟩
  have reg:∀Q q,Rg (bu K0 ts) Q q->H Q=some (.tbl q):=λQ q h=>hT Q q (by
   have m:=Rg.of h;clear h hM hKb hKn nsK noA base_of hok hA hT hK hS KR hlk F hsp ht
   induction ts with
   |nil=>cases m
   |cons t r ih=>
    obtain⟨b,u⟩:=t;rw[zas];rw[zar,zbb]at hu;rcases zay.mp m with e|e
    .cases e;simp
    .have:Q≠b:=λz=>hu.1 (z▸zaz.mpr ⟨_,e,rfl⟩)
     have:(Q==b)=false:=by simp[this]
     rw[this];exact ih hu.2 (λe=>sO e) e)
  have e0:Env0 P w (bu K0 ts) mg (jC s₁.heap H) callerA [] s₁ H:=⟨rfl,hM,λb o e=>Bh e,Nat.le_of_eq (vi _ _),trivial,λb hb=>absurd (show b∈([]:List Addr)from hb) (by simp),hok,.of_eq hg,reg⟩;refine codeAny_mono ((F _ hKb (nsK hns)).run callerA [] s₁ H ⟨[.ref a],[]⟩ [.ref a] [.ref a] _ _ hr e0 (hbind s₁ (.ref a)) (.cons rfl .nil) (hsp H hS)) λr s' h=>?_;cases r with
  |error e=>exact(hCX H e s' h).elim
  |ok fl=>
   cases fl with
   |next=>exact False.elim h
   |brk=>exact False.elim h
   |cont=>exact False.elim h
   |ret u=>
    obtain⟨v,H',os,bare,un,hok',r',q⟩:=h;have q':v=.bl true:=q;subst q';obtain rfl:u=Value.bool true:=r';have was:∀(b:Addr) (o:Obj),s₁.heap.get? b=some o->s'.heap.get? b=some o\/(isCodeTable s₁.heap b/\o.cls=.none/\∃(vs more:Array Value),o.data=.fields vs/\s'.heap.get? b=some { cls:=o.cls,dict:=o.dict,data:=.fields (vs++more),slots:=o.slots }):=λb o e=>by
     rcases hA b with z|⟨_,ob,xs,z⟩
     .cases q:ts.lookup b with
      |none=>
       rw[q]at z;exact .inl (un.keep b o e z (by intro z;exact absurd (show b∈([]:List Addr)from z) (by simp)) (by simp))
      |some u=>
       obtain⟨g1,_,g3⟩:=ht _ (tl q);rw[e]at g1;cases g1;obtain⟨ps,g4,_⟩:=hok' b _ (un.tbls b u (hT b u q));exact .inr ⟨g3,rfl,#[],ps,rfl,by rw[g4];simp⟩
     .have z2:=un.frzs b ob _ z;obtain⟨e1,_⟩:=hok b _ z;obtain⟨e2,_⟩:=hok' b _ z2;rw[e]at e1;cases e1;exact .inl e2
    refine⟨rfl,⟨λb o e=>?_,λb o e=>?_⟩,os,bare⟩
    .rcases was b o e with z|z
     .exact .inl z
     .exact .inr (.inl z)
    .rcases was b o e with z|⟨_,_,vs,more,_,z⟩
     .exact⟨_,z⟩
     .exact⟨_,z⟩
 have na:ts.lookup a=none:=by
  cases q:ts.lookup a with
  |none=>rfl
  |some u=>
   have:=(ht _ (tl q)).1;rw[ha]at this;cases this
 have hokT:∀(b:Addr) (q:Str),ts.lookup b=some q->∀H:Hp,ObjOk P w H s₁.heap b (.tbl q):=λb q e H=>⟨#[],(ht _ (tl e)).1,trivial,λpos cv z=>nomatch (show(none:Option Value)=some cv from z)⟩;cases hk:K0.lookup a with
 |some o=>
  have e:=KX a o hk;rw[ha]at e;cases e;refine core (λb=>(ts.lookup b).map HO.tbl) (.inr ⟨_,vs.toArray,_,(hlk a).trans hk,rfl,rfl,rfl,by rw[zai,lenV];exact hl,by simpa using rv⟩) (λb u z=>?_) (λb=>.inl rfl) (λb q e=>by simp only[e,Option.map_some]) (λz=>absurd (by simp only[na,Option.map_none]) z);obtain⟨q,e,rfl⟩:=zab.mp z;exact hokT b q e _
 |none=>
  refine core (λb=>if b=a then some (.frz { cls:=.type "list",data:=.seq vs.toArray } (.lst (ns.map V.int)))else(ts.lookup b).map HO.tbl) (.inl (.inr ⟨{ cls:=.type "list",data:=.seq vs.toArray },if_pos rfl⟩)) (λb u z=>?_) (λb=>?_) (λb q e=>?_) λ_=>hk
  .by_cases hb:b=a
   .have z':=(if_pos hb).symm.trans z;cases z';subst hb;exact⟨ha,by rw[zad];exact hl,vs,_,rv,ha⟩
   .have z':=(if_neg hb).symm.trans z;obtain⟨q,e,rfl⟩:=zab.mp z';exact hokT b q e _
  .by_cases hb:b=a
   .exact .inr ⟨hb,_,_,if_pos hb⟩
   .exact .inl (if_neg hb)
  .have hb:b≠a:=λz=>by rw[z,na]at e;cases e
   simp only[hb,if_false,e,Option.map_some]
noncomputable def b6(s:Stmt):Arguments:=match s with
 |.FunctionDef _ a _ _ _ _ _ _ _ _=>a
 |_=>{ posonlyargs:=[],args:=[],vararg:=none,kwonlyargs:=[],kw_defaults:=[],kwarg:=none,defaults:=[] }
noncomputable def be(s:Stmt):List Stmt:=match s with
 |.FunctionDef _ _ b _ _ _ _ _ _ _=>b
 |_=>[]
noncomputable def ak(s:Stmt):Scope:=match s with
 |.FunctionDef _ _ _ _ _ _ sc _ _ _=>sc
 |_=>{ kind:=.function,names:=[],isGenerator:=false,isCoroutine:=false }
abbrev CX0:CXT:=λ_ _ _ _ _ _=>False
abbrev E0:XK:=λ_ _ _=>False
def Ap:mK CX0 X E0:=λ_ _ _ _ _ _ _ h=>h.elim
structure Fun(K:zbV)(x qual:Str)(st:Stmt)(f:Addr)(fd:FuncData):Prop where
 ex:∃(oc:Value) (od:Option Addr) (kV doc pm:Value) (an:Option Addr) (cdv ct:Value) (osl:Array (Option Value)),
  fd=PySem.W.fnOf x qual (b6 st) (be st) (ak st) .none kV doc pm an cdv ct/\K.lookup f=some ⟨oc,od,.func fd,osl⟩/\PySem.W.codeIn K cdv qual=true
 kp:PySem.W.keepIn K (.ref f)=true
section
variable{K:zbV}{base:Heap}
def Fun.ok{N:List Str}{k:Nat}(F:Fun K x qual st f fd)(S:FnScope N ps (ak st))(len:∀vs H Q E,sp vs H Q E->vs.length=ps.length)
  (hbody:∀(cdv:Value) (A:Around) (outer:List Env) (s:Shared) (H:Hp) (vs:List V) (Q:VK) (E:XK),Room k (A.deeper (envOfC qual (ak st) s.heap.objs.size f cdv))->sp vs H Q E ->
   ∃t,PSs (iV CX0 P w K mg base N qual (ak st) f cdv A outer s H E).nox (be st) t/\t { nx:=λ_ H'=>Q .non H',rt:=Q } (bD N vs) H):FnOk P w K mg base CX0 (k+1) f fd ps sp:=by
 obtain⟨oc,od,kV,doc,pm,an,cdv,ct,osl,rfl,lk,hcd⟩:=F.ex;refine AJ lk hcd S len λA outer s H vs Q E hr hsp=>?_;obtain⟨t,h,q⟩:=hbody cdv A outer s H vs Q E hr hsp;exact⟨t,h.nox,q⟩
def Fun.binds(F:Fun K x qual st f fd)
  (h:∀(kV doc pm:Value) (an:Option Addr) (cdv ct:Value) (us:List Value),us.length=ps.length->bindArgs (PySem.W.fnOf x qual (b6 st) (be st) (ak st) .none kV doc pm an cdv ct) ⟨us,[]⟩=pure (ps.zip us)):Binds K fd ps []:=by
 obtain⟨oc,od,kV,doc,pm,an,cdv,ct,osl,rfl,lk,hcd⟩:=F.ex;exact .all (h kV doc pm an cdv ct)
def pX{oc:Value}{od an:Option Addr}{osl:Array (Option Value)}{kV doc pm cdv ct:Value}(l:K.lookup f=some ⟨oc,od,.func (PySem.W.fnOf x qual (b6 st) (be st) (ak st) .none kV doc pm an cdv ct),osl⟩)
  (c:PySem.W.codeIn K cdv qual=true) (k:PySem.W.keepIn K (.ref f)=true):Fun K x qual st f (PySem.W.fnOf x qual (b6 st) (be st) (ak st) .none kV doc pm an cdv ct):=⟨⟨oc,od,kV,doc,pm,an,cdv,ct,osl,rfl,l,c⟩,k⟩
end
def fy{k:Nat}(hr:Room k A):A.units+1<cLine:=zbJ (Nat.add_le_add_left (by decide:1<=64) _) hr.units
def pv(i:Nat)(hN:X.N[i]?=some x:=by rfl)(hv:Vis X.env.scope x:=by first|exact Or.inl rfl|exact Or.inr (Or.inl rfl)|exact Or.inr (Or.inr rfl))(hd:(x==("__debug__":Str))=false:=by decide)
  (hcd:(x==("__classdict__":Str))=false:=by decide):PE X (.Name x pos) (fT i):=cF hN hv hd hcd
section
variable{κ:Type}[DecidableEq κ]
noncomputable def cE(kvs:List (κ×V))(k:κ):Option V:=(kvs.find? λkv=>decide (kv.1=k)).map (·.2)
noncomputable def b9(kvs:List (κ×V))(k:κ)(v:V):List (κ×V):=
 if(kvs.any λkv=>decide (kv.1=k))=true then kvs.map (λkv=>if kv.1=k then(kv.1,v)else kv)else kvs++[(k,v)]
def jm{p:κ×V}{r:List (κ×V)}{k:κ}(e:p.1=k):cE (p::r) k=some p.2:=by simp[cE,zbo,e]
def jn{p:κ×V}{r:List (κ×V)}{k:κ}(e:¬p.1=k):cE (p::r) k=cE r k:=by simp[cE,zbo,e]
theorem oS(k:κ):∀kvs:List (κ×V),(kvs.any λkv=>decide (kv.1=k))=(cE kvs k).isSome
 |[]=>rfl
 |p::r=>by
  rw[List.any_cons];by_cases e:p.1=k
  .simp only[jm e,zaB e,Bool.true_or,Option.isSome_some]
  .rw[jn e,zaA e,Bool.false_or];exact oS k r
def iQ(kvs:List (κ×V))(k:κ)(v:V):(b9 kvs k v).length<=kvs.length+1:=by
 unfold b9;split
 .rw[zad];lia
 .rw[zae,zac,List.length_nil];lia
def RelO.isSome_eq{u:Option Value}(r:RelO o u):o.isSome=u.isSome:=by
 cases o with
 |none=>cases u with
  |none=>rfl
  |some _=>exact(show False from r).elim
 |some _=>cases u with
  |none=>exact(show False from r).elim
  |some _=>rfl
def KV.val{kvs:List (κ×V)}{vs:List (κ×Value)}(r:KV kvs vs)(k:κ):RelO (cE kvs k) (valueAt vs k):=by
 unfold KV at r
 induction r with
 |nil=>exact True.intro
 |@cons p q ps qs h t ih=>
  obtain⟨h1,h2⟩:=h;by_cases e:p.1=k
  .have e':q.1=k:=h1.symm.trans e;have b:valueAt (q::qs) k=some q.2:=by simp[valueAt,zbo,e']
   rw[jm e,b];exact h2
  .have e':¬q.1=k:=λz=>e (h1.trans z);have b:valueAt (q::qs) k=valueAt qs k:=by simp[valueAt,zbo,e']
   rw[jn e,b];exact ih
theorem KV.any{kvs:List (κ×V)}{vs:List (κ×Value)}(r:KV kvs vs)(k:κ):(kvs.any λkv=>decide (kv.1=k))=vs.any λkv=>decide (kv.1=k):=by
 unfold KV at r
 induction r with
 |nil=>rfl
 |cons h t ih=>rw[List.any_cons,List.any_cons,ih,h.1]
def KV.repl{kvs:List (κ×V)}{vs:List (κ×Value)}(r:KV kvs vs)(k:κ)(ry:RelV y u):
  KV (kvs.map λkv=>if kv.1=k then(kv.1,y)else kv) (vs.map λkv=>if kv.1=k then(kv.1,u)else kv):=by
 unfold KV at r ⊢
 induction r with
 |nil=>exact .nil
 |@cons p q ps qs h t ih=>
  rw[zar,zar];refine .cons ?_ ih;obtain⟨h1,h2⟩:=h;by_cases e:p.1=k
  .rw[if_pos e,if_pos (h1.symm.trans e)];exact⟨h1,ry⟩
  .rw[if_neg e,if_neg (λz=>e (h1.trans z))];exact⟨h1,h2⟩
def KV.put{kvs:List (κ×V)}{vs:List (κ×Value)}(r:KV kvs vs)(k:κ)(ry:RelV y u):KV (b9 kvs k y) (stored vs k u):=by
 unfold b9 stored;rw[r.any k];by_cases e:(vs.any λkv=>decide (kv.1=k))=true
 .rw[if_pos e,if_pos e];exact r.repl k ry
 .rw[if_neg e,if_neg e];exact Paired.snoc r ⟨rfl,ry⟩
def KV.length{kvs:List (κ×V)}{vs:List (κ×Value)}(r:KV kvs vs):kvs.length=vs.length:=Paired.length r
end
def mh{k:Key}(r:RelV (kV k) u):(bh P w).is k u=true:=by
 cases k with
 |inl i=>obtain⟨t,e⟩:=(show ∃t,u=Value.int i t from r);subst e;exact qG P w i t
 |inr x=>obtain⟨t,e⟩:=(show ∃t,u=Value.str x t from r);subst e;exact qF P w x t
def ES{a b:Key}(e:kV a=kV b):a=b:=by
 cases a with
 |inl i=>cases b with
  |inl j=>have e':V.int i=V.int j:=e;injection e' with e';rw[e']
  |inr y=>exact nomatch (show V.int i=V.str y from e)
 |inr x=>cases b with
  |inl j=>exact nomatch (show V.str x=V.int j from e)
  |inr y=>have e':V.str x=V.str y:=e;injection e' with e';rw[e']
def GD{k:Option Key}(r:RelV (oV k) u):(bx P w).is k u=true:=by
 cases k with
 |none=>rw[show u=Value.none from r];rfl
 |some k=>exact mh (P:=P) (w:=w) r
theorem ki{P:Program}{w:World}:∀{ks:List (Option Key)} {us:List Value},Vals (ks.map oV) us->ItemsAre (bx P w) ks us
 |[],_,r=>by rw[List.map_nil]at r;cases r;exact .nil
 |k::ks,_,r=>by
  rw[zar]at r;cases r with
  |cons h t=>exact .cons (GD h) (ki t)
abbrev KT(H:Hp)(ad:Addr->Prop):List (List (Option Key)×V)->List (List (Option Key)×Addr×Value)->Prop:=Paired λp q=>p.1=q.1/\(H q.2.1=some (.tup (p.1.map oV))/\ad q.2.1)/\RelV p.2 q.2.2
def KT.val(r:KT H ad kvs xs)(k:List (Option Key)):RelO (cE kvs k) ((atKey xs k).map (·.2)):=by
 induction r with
 |nil=>exact True.intro
 |@cons p q ps qs h t ih=>
  obtain⟨h1,_,h2⟩:=h;by_cases e:p.1=k
  .have e':q.1=k:=h1.symm.trans e;have b:atKey (q::qs) k=some q.2:=by simp[atKey,zbo,e']
   rw[jm e,b];exact h2
  .have e':¬q.1=k:=λz=>e (h1.trans z);have b:atKey (q::qs) k=atKey qs k:=by simp[atKey,zbo,e']
   rw[jn e,b];exact ih
def KT.repl(r:KT H ad kvs xs)(k:List (Option Key))(ry:RelV y u):
  KT H ad (kvs.map λkv=>if kv.1=k then(kv.1,y)else kv) (xs.map (putAt k u)):=by
 induction r with
 |nil=>exact .nil
 |@cons p q ps qs h t ih=>
  rw[zar,zar];refine .cons ?_ ih;obtain⟨h1,h2,h3⟩:=h;unfold putAt;by_cases e:p.1=k
  .rw[if_pos e,if_pos (h1.symm.trans e)];exact⟨h1,h2,ry⟩
  .rw[if_neg e,if_neg (λz=>e (h1.trans z))];exact⟨h1,h2,h3⟩
def KT.put(r:KT H ad kvs xs)(k:List (Option Key))(hb:H b=some (.tup (k.map oV)))(ry:RelV y u):
  KT H (λx=>ad x\/x=b) (b9 kvs k y) (storedH xs k b u):=by
 have e:(kvs.any λkv=>decide (kv.1=k))=(atKey xs k).isSome:=by
  rw[oS,(r.val k).isSome_eq,Option.isSome_map]
 unfold b9 storedH;rw[e];by_cases q:(atKey xs k).isSome=true
 .rw[if_pos q,if_pos q];exact Paired.mapP (r.repl k ry) λ_ _ z=>⟨z.1,⟨z.2.1.1,.inl z.2.1.2⟩,z.2.2⟩
 .rw[if_neg q,if_neg q];exact Paired.snoc (Paired.mapP r λ_ _ z=>⟨z.1,⟨z.2.1.1,.inl z.2.1.2⟩,z.2.2⟩) ⟨rfl,⟨hb,.inr rfl⟩,ry⟩
def KT.keeps(r:KT H ad kvs xs)(ht:∀b ys,H b=some (.tup ys)->H' b=some (.tup ys)):KT H' ad kvs xs:=
 Paired.mapP r λ_ _ z=>⟨z.1,⟨ht _ _ z.2.1.1,z.2.1.2⟩,z.2.2⟩
section
variable{h:Heap} 
def Am{u:HO}(ok:HOk P w H h)(e:Rd H a u):ObjOk P w H h a u:=e.ok ok
def lb{kvs:List (Key×V)}(ok:HOk P w H h)(e:Rd H a (.dK kvs)):kvs.length<=sizeLine/\(a==sysModules)=false/\∃vs,KV kvs vs/\h.DictOf (bh P w) a vs:=
 show ObjOk P w H h a (.dK kvs)from Am ok e
def tO{kvs:List (Key×V)}(ok:HOk P w H h)(e:H a=some (.dK kvs)):kvs.length<=sizeLine/\(a==sysModules)=false/\∃vs,KV kvs vs/\h.DictOf (bh P w) a vs:=lb ok (.inl e)
def kh{ks:List (Option Key)}(ok:HOk P w H h)(e:H a=some (.tup (ks.map oV))):(tupleKind (bx P w)).is h ks a:=by
 obtain⟨_,its,r,o,h1,h2,n,h3⟩:=(show ObjOk P w H h a (.tup (ks.map oV))from ok a _ e);exact⟨o,its.toArray,n,h1,h2,h3.1,by simpa using ki r⟩
def mC(ok:HOk P w H h)(e:Rd H a (.dT kvs ad)):kvs.length<=sizeLine/\(a==sysModules)=false /\
  ∃xs,KT H ad kvs xs/\h.DictOfH (tupleKind (bx P w)) a xs:=by
 obtain⟨z,y,xs,r,o,es,ep,h1,h2,h3,h4,h5⟩:=(show ObjOk P w H h a (.dT kvs ad)from Am ok e);refine⟨z,y,xs,r,o,es,ep,h1,h2,h3,h4,λx hx=>?_,h5⟩;have all:∀{l:List (List (Option Key)×V)} {m:List (List (Option Key)×Addr×Value)},KT H ad l m->∀x∈m,(tupleKind (bx P w)).is h x.1 x.2.1:=by
  intro l m q
  induction q with
  |nil=>intro x hx;exact nomatch hx
  |@cons p q ps qs hq t ih=>
   intro x hx;rcases zay.mp hx with e|hx
   .subst e;exact kh ok (by rw[<-hq.1];exact hq.2.1.1)
   .exact ih x hx
 exact all r x hx
def AL(ok:HOk P w H h)(e:H a=some (.dT kvs ad)):kvs.length<=sizeLine/\(a==sysModules)=false /\
  ∃xs,KT H ad kvs xs/\h.DictOfH (tupleKind (bx P w)) a xs:=mC ok (.inl e)
end
def DGet(H:Hp)(a:Addr)(y:V)(r:Option V):Prop:=
 (∃kvs k,Rd H a (.dK kvs)/\y=kV k/\r=cE kvs k)\/∃kvs ad k b,Rd H a (.dT kvs ad)/\y=.ref b/\H b=some (.tup (k.map oV))/\r=cE kvs k
def DPut(H:Hp)(a:Addr)(y v:V)(H':Hp):Prop:=
 (∃kvs k,H a=some (.dK kvs)/\y=kV k/\kvs.length<sizeLine/\H'=upd H a (.dK (b9 kvs k v))) \/
 ∃kvs ad k b,H a=some (.dT kvs ad)/\y=.ref b/\H b=some (.tup (k.map oV))/\kvs.length<sizeLine/\H'=upd H a (.dT (b9 kvs k v) λx=>ad x\/x=b)
def DGet.t{k:List (Option Key)}(e:Rd H a (.dT kvs ad))(eb:H b=some (.tup (k.map oV))):DGet H a (.ref b) (cE kvs k):=.inr ⟨kvs,ad,k,b,e,rfl,eb,rfl⟩
def DPut.k{H:Hp}{a:Addr}{kvs:List (Key×V)}{k:Key}{v:V}(e:H a=some (.dK kvs))(hl:kvs.length<sizeLine):DPut H a (kV k) v (upd H a (.dK (b9 kvs k v))):=.inl ⟨kvs,k,e,rfl,hl,rfl⟩
def DPut.t{k:List (Option Key)}(e:H a=some (.dT kvs ad))(eb:H b=some (.tup (k.map oV)))(hl:kvs.length<sizeLine):
  DPut H a (.ref b) v (upd H a (.dT (b9 kvs k v) λx=>ad x\/x=b)):=.inr ⟨kvs,ad,k,b,e,rfl,eb,hl,rfl⟩
section
variable{r:Value}  
def Inv.big(I:Inv X ρ σ H s):sysModules<s.heap.objs.size:=by
 have h:mainGlobals<s.heap.objs.size:=(I.mod.glob.keeps I.bk).lt;exact Nat.lt_trans (by decide) h
def vK(hu:A.units+1<cLine)(I:Inv X ρ σ H s)(g:DGet H a y (some v))(ry:RelV y u)(h:∀w' s',Inv X ρ σ H s'->RelV v w'->Q w' s'):
  wpAny (model X.prog X.w) A (getItem (.ref a) u) Q E s:=by
 rcases g with⟨kvs,k,e,ey,l⟩|⟨kvs,ad,k,b,e,ey,eb,l⟩
 .subst ey;obtain⟨z,hd,vs,rel,dd⟩:=lb I.hok e;obtain⟨w',hw,rw'⟩:=RelO.some_of (v:=v) (o:=valueAt vs k) (by rw[l];exact rel.val k);exact wpAny_getItem_of (mh ry) dd.mapOf hw (h w' _ (I.tok _) rw')
 .subst ey;cases(show u=Value.ref b from ry);obtain⟨z,hd,xs,rel,dd⟩:=mC I.hok e;obtain⟨w',hw,rw'⟩:=RelO.some_of (v:=v) (o:=(atKey xs k).map (·.2)) (by rw[l];exact rel.val k);obtain⟨p,hp,hp2⟩:=zab.mp hw;refine wpAny_getItem_heap (tupleKind_room_in1 hu) (kh I.hok eb) dd hp ?_;rw[hp2];exact h w' _ (I.tok _) rw'
def rU(hu:A.units+1<cLine)(I:Inv X ρ σ H s)(g:DGet H a y o)(ry:RelV y u)(h:∀s',Inv X ρ σ H s'->Q (.bool (!o.isSome)) s'):
  wpAny (model X.prog X.w) A (compareOp .NotIn u (.ref a)) Q E s:=by
 rcases g with⟨kvs,k,e,ey,l⟩|⟨kvs,ad,k,b,e,ey,eb,l⟩
 .subst ey;obtain⟨z,hd,vs,rel,dd⟩:=lb I.hok e;refine wpAny_notIn_of (mh ry) hd dd.mapOf ?_;rw[<-(rel.val k).isSome_eq,<-l];exact h _ (I.tok _)
 .subst ey;cases(show u=Value.ref b from ry);obtain⟨z,hd,xs,rel,dd⟩:=mC I.hok e;refine wpAny_notIn_heap (tupleKind_room_in1 hu) (kh I.hok eb) hd dd ?_;have q:=(rel.val k).isSome_eq;rw[Option.isSome_map]at q;rw[<-q,<-l];exact h _ (I.tok _)
def lg{t':Nat}{ob:HO}(I:Inv X ρ σ H s)(mu:Mut (H a))(hs:Heap.SameBut a s.heap h')(he:∃q,h'.get? a=some q)(new:ObjOk X.prog X.w (upd H a ob) h' a ob):
  Inv X ρ σ (upd H a ob) { s with heap:=h',toks:=t' }:=
 I.write (x:=a) (e:=a) mu (.inl rfl) (λb q hb z=>(hs.2 b hb).trans z) he new
def vI{kvs:List (Key×V)}{vs:List (Key×Value)}(z:kvs.length<=sizeLine)(hd:(a==sysModules)=false)(rel:KV kvs vs)(dd:h'.DictOf (bh P w) a vs):
  ObjOk P w H' h' a (.dK kvs):=⟨z,hd,vs,rel,dd⟩
def vJ{Q:Unit->Shared->Prop}(hu:A.units+1<cLine)(I:Inv X ρ σ H s)(g:DPut H a y v H')(ry:RelV y u)(rv:RelV v r)(h:∀s',Inv X ρ σ H' s'->Q () s'):
  wpAny (model X.prog X.w) A (setItem (.ref a) u r) Q E s:=by
 rcases g with⟨kvs,k,e,ey,l,eH⟩|⟨kvs,ad,k,b,e,ey,eb,l,eH⟩
 .subst ey eH;obtain⟨z,hd,vs,rel,dd⟩:=tO I.hok e;have hz:vs.length<=sizeLine:=by rw[<-rel.length];exact z
  have hl:(b9 kvs k v).length<=sizeLine:=by have:=iQ kvs k v;lia
  refine wpAny_setItem_pairs (hsz:=hz) (mh ry) dd λh' dd' hs=>h _ ?_;have he:∃q,h'.get? a=some q:=let⟨q,_,_,hq,_⟩:=dd';⟨q,hq⟩;exact lg I (by rw[e];exact True.intro) hs he (vI hl hd (rel.put k rv) dd')
 .subst ey eH;cases(show u=Value.ref b from ry);obtain⟨z,hd,xs,rel,dd⟩:=AL I.hok e;have hz:xs.length<=sizeLine:=by rw[<-Paired.length rel];exact z
  have hl:(b9 kvs k v).length<=sizeLine:=by have:=iQ kvs k v;lia
  refine wpAny_setItem_heap (hsz:=hz) (tupleKind_room_in1 hu) (kh I.hok eb) dd λh' dd' hs=>h _ ?_;obtain⟨q,es,ep,hq,h2,h3,h4,_,h5⟩:=dd';refine lg I (by rw[e];exact True.intro) hs ⟨q,hq⟩ ⟨hl,hd,_,(rel.put k eb rv).keeps λc ys ec=>?_,q,es,ep,hq,h2,h3,h4,h5⟩;rw[au (sL ec e (λz=>nomatch z))];exact ec
end
def tX(i:Expr):Prop:=∀ov iv,subscripted i false ov iv=operate [ov,iv] (getItem ov iv)
def AV{prog:Program}{env:Env}{slice:Expr}{T id:String} 
  (hl:typeLookup (.type T) "__getitem__"=pure (some (.builtin id))) (hs:tX slice)
  (h:wpAny (model prog w) A (eval value env) (λo s₁=>wpAny (model prog w) A (eval slice env) (λi s₂=>s₂.TypeIs o T/\wpAny (model prog w) A (getItem o i) Q E s₂) E s₁) E s):
  wpAny (model prog w) A (eval (.Subscript value slice pos) env) Q E s:=by
 refine Subscript_ (wpAny_mono h (λo s₁ h₁=>wpAny_mono h₁ (λi s₂ h₂=>?_) λ_ _ x=>x) λ_ _ x=>x);obtain⟨hT,h₂⟩:=h₂;unfold subscriptTail;refine zam ?_;rw[getitemInPython_of_ne hT.not_modules];refine zam (wpAny_specialOf hT hl ?_);have fin:wpAny (model prog w) A (subscripted slice false o i) (λr s₃=>wpAny (model prog w) A (letTemporaryGo value o r >>= λ_=>pure r) Q E s₃) E s₂:=by
  rw[hs o i];exact wpAny_operating (wpAny_mono h₂ (λr s₃ h₃=>zam (wpAny_letTemporaryGo (zaT h₃))) λ_ _ x=>x)
 first
  |exact zaT (zam fin)
  |exact zam (zaT (zam fin))
  |exact zam fin
def qL(I:Inv X ρ σ H s)(g:DGet H a y o):s.TypeIs (.ref a) "dict":=by
 rcases g with⟨kvs,k,e,_,_⟩|⟨kvs,ad,k,b,e,_,_,_⟩
 .obtain⟨_,_,vs,_,dd⟩:=lb I.hok e;exact dd.typeIs
 .obtain⟨_,_,xs,_,dd⟩:=mC I.hok e;exact dd.typeIs
noncomputable def su(td ty:TE):TE:=λσ H Q=>td σ H λx H1=>ty σ H1 λy H2=>∃a v,x=.ref a/\DGet H2 a y (some v)/\Q v H2
noncomputable def Hi(ty td:TE):TE:=λσ H Q=>ty σ H λy H1=>td σ H1 λx H2=>∃a o,x=.ref a/\DGet H2 a y o/\Q (.bl o.isSome) H2
noncomputable def qQ(ty td:TE):TE:=λσ H Q=>ty σ H λy H1=>td σ H1 λx H2=>∃a o,x=.ref a/\DGet H2 a y o/\Q (.bl (!o.isSome)) H2
noncomputable def sw(td ty tv:TE):TS:=λD σ H=>tv σ H λv H1=>td σ H1 λx H2=>ty σ H2 λy H3=>∃a H4,x=.ref a/\DPut H3 a y v H4/\D.nx σ H4
section
variable{o i e:Expr}{pos' tpos:Pos}{td ty:TE}
def qY(hu:X.A.units+1<cLine)(ho:PE X o td)(hi:PE X i ty)(hs:tX i):PE X (.Subscript o i pos) (su td ty):=by
 intro ρ s σ H Q I h;refine AV PySem.F.slot_dict_getitem.lookup hs (thn (ho ρ s σ H _ I h) λu s1 ⟨x,H1,I1,rx,q1⟩=>thn (hi ρ s1 σ H1 _ I1 q1) λiv s2 ⟨y,H2,I2,ry,a,v,ex,g,q2⟩=>?_);subst ex;obtain rfl:u=Value.ref a:=rx;exact⟨qL I2 g,vK hu I2 g ry λw' s3 I3 rw'=>⟨v,H2,I3,rw',q2⟩⟩
def uN(hu:X.A.units+1<cLine)(hi:PE X i ty)(ho:PE X o td):PC X .NotIn i o (qQ ty td):=by
 intro ρ s σ H Q I h;refine thn (hi ρ s σ H _ I h) λiv s1 ⟨y,H1,I1,ry,q1⟩=>thn (ho ρ s1 σ H1 _ I1 q1) λu s2 ⟨x,H2,I2,rx,a,ov,ex,g,q2⟩=>?_;subst ex;obtain rfl:u=Value.ref a:=rx;exact rU hu I2 g ry λs3 I3=>⟨.bl (!ov.isSome),H2,I3,rfl,q2⟩
def qV(hu:X.A.units+1<cLine)(ho:PE X o td)(hi:PE X i ty)(hv:PE X value tv)(hs:swapsWith value (some (.Subscript o i pos')) pos.line X.env=pure false):
  PS X (.Assign [.Subscript o i pos'] value pos) (sw td ty tv):=by
 intro ρ s σ H D I h;refine wpAny_Assign_Subscript (thn (hv ρ s σ H _ I h) λr s1 ⟨v,H1,I1,rv,q1⟩=>thn (ho ρ s1 σ H1 _ I1 q1) λu s2 ⟨x,H2,I2,rx,q2⟩=>thn (hi ρ s2 σ H2 _ I2 q2) λiv s3 ⟨y,H3,I3,ry,a,H4,ex,g,q3⟩=>?_) hs;subst ex;obtain rfl:u=Value.ref a:=rx;exact vJ hu I3 g ry rv λs4 I4=>⟨σ,H4,I4,q3⟩
end
def xz(h:Heap)(hb:sysModules<h.objs.size):ObjOk P w H (h.push { cls:=.type "dict",data:=.dict #[] }) h.objs.size (.dK []):=
 ⟨zbj _,zbP.mpr (Ne.symm (zaw hb)),[],.nil,Heap.DictOf.new h⟩
def qg(h:Heap)(hb:sysModules<h.objs.size):ObjOk P w H (h.push { cls:=.type "dict",data:=.dict #[] }) h.objs.size (.dT [] λ_=>False):=
 ⟨zbj _,zbP.mpr (Ne.symm (zaw hb)),[],.nil,_,#[],0,zan _ rfl,⟨rfl,rfl,rfl⟩,rfl,rfl,List.nodup_nil⟩
def D5:TE:=λ_ H Q=>∀p,H p=none->Q (.ref p) (upd H p (.dT [] λ_=>False))
def pe_dnewT:PE X (.Dict [] [] pos) D5:=λρ s σ H Q I h=>
 wpAny_Dict_empty ⟨.ref s.heap.objs.size,_,I.laid (a:=s.heap.objs.size) (o:=.dT [] λ_=>False) (t':=s.toks) (λ_ _ q=>zaf _ q) (zav _) (qg s.heap I.big),rfl,h _ (I.hok.fresh (zav _))⟩
def ka:List (TE×TE)->St->Hp->(List (V×V)->Hp->Prop)->Prop
 |[],_,H,Q=>Q [] H
 | (tk,tv)::r,σ,H,Q=>tk σ H λx H1=>tv σ H1 λy H2=>ka r σ H2 λps H3=>Q ((x,y)::ps) H3
abbrev VV:List (V×V)->List (Value×Value)->Prop:=Paired λp q=>RelV p.1 q.1/\RelV p.2 q.2
def PPs(X:Cx)(pos:Pos)(keys:List (Option Expr))(values:List Expr)(trs:List (TE×TE)):Prop:=
 ∀(ρ:List (Addr×Obj)) (s:Shared) (σ:St) (H:Hp) (Q:List (V×V)->Hp->Prop),Inv X ρ σ H s->ka trs σ H Q ->
  wpAny (model X.prog X.w) X.A (evalPairs (pairTrees keys values X.env pos)) (λvs s'=>∃ps H',Inv X ρ σ H' s'/\VV ps vs/\Q ps H') X.xe s
structure QPs(X:Cx)(pos:Pos)(ks:List (Option Expr))(vs:List Expr)(t:List (TE×TE)):Prop where
 h:PPs X pos ks vs t
def qW:PPs X pos [] [] []:=λρ s σ H Q I h=>pairTrees_nil_walk ⟨[],H,I,.nil,h⟩
def pp{k v:Expr}{ks:List (Option Expr)}{vs:List Expr}{tk:TE}{trs:List (TE×TE)}(hk:PE X k tk)(hv:PE X v tv)(hr:PPs X pos ks vs trs):
  PPs X pos (some k::ks) (v::vs) ((tk,tv)::trs):=λρ s σ H Q I h=>
 pairTrees_cons_walk (thn (hk ρ s σ H _ I h) λu s1 ⟨x,H1,I1,rx,q1⟩=>thn (hv ρ s1 σ H1 _ I1 q1) λw2 s2 ⟨y,H2,I2,ry,q2⟩=>
  thn (hr ρ s2 σ H2 _ I2 q2) λws s3 ⟨ps,H3,I3,rel,q3⟩=>⟨(x,y)::ps,H3,I3,.cons ⟨rx,ry⟩ rel,q3⟩)
def gu(kvs more:List (Key×V)):List (Key×V):=more.foldl (λacc kv=>b9 acc kv.1 kv.2) kvs
def KV.merge:∀{more:List (Key×V)} {rs:List (Key×Value)} {kvs:List (Key×V)} {vs:List (Key×Value)},KV more rs->KV kvs vs->KV (gu kvs more) (merged vs rs):=by
 intro more rs kvs vs r;unfold KV at r
 induction r generalizing kvs vs with
 |nil=>intro q;exact q
 |@cons p q ps qs h t ih=>
  intro r0;have e:KV (b9 kvs p.1 p.2) (stored vs q.1 q.2):=by
   have:=r0.put p.1 h.2;rw[<-h.1];exact this
  exact ih e
theorem j4:∀(more kvs:List (Key×V)),(gu kvs more).length<=kvs.length+more.length
 |[],kvs=>by show kvs.length<=kvs.length+0;lia
 |p::r,kvs=>by
  have h1:=j4 r (b9 kvs p.1 p.2);have h2:=iQ kvs p.1 p.2;show(gu (b9 kvs p.1 p.2) r).length<=_;rw[zac];lia
theorem mG{P:Program}{w:World}:∀{kvs:List (Key×V)} {ws:List (Value×Value)},VV (kvs.map λkv=>(kV kv.1,kv.2)) ws->∃rs,Carries (bh P w) ws rs/\KV kvs rs
 |[],_,r=>by rw[List.map_nil]at r;cases r;exact⟨[],True.intro,.nil⟩
 |p::kvs,_,r=>by
  rw[zar]at r;cases r with
  |@cons a b as bs h t=>
   obtain⟨rs,c,q⟩:=mG (P:=P) (w:=w) t;obtain⟨b1,b2⟩:=b;exact⟨(p.1,b2)::rs,⟨mh h.1,rfl,c⟩,.cons ⟨rfl,h.2⟩ q⟩
def Ah(trs:List (TE×TE)):TE:=λσ H Q=>∀p,H p=none->ka trs σ (upd H p (.dK [])) λps H2=>H2 p=some (.dK [])/\∃kvs:List (Key×V),ps=kvs.map (λkv=>(kV kv.1,kv.2))/\kvs.length<=15/\Q (.ref p) (upd H2 p (.dK (gu [] kvs)))
def Ba{keys:List (Option Expr)}{values:List Expr}{trs:List (TE×TE)}(h:PPs X pos keys values trs)(hall:keys.all (·.isSome)=true)(hl:keys.length=values.length)(h0:keys≠[])
  (h15:keys.length<=15):PE X (.Dict keys values pos) (Ah trs):=by
 intro ρ s σ H Q I q;have hn:=I.hok.fresh (zav s.heap.objs.size);have I1:=I.laid (a:=s.heap.objs.size) (o:=.dK []) (h':=s.heap.push { cls:=.type "dict",data:=.dict #[] }) (t':=s.toks) (λ_ _ q=>zaf _ q) (zav _) (xz s.heap I.big);refine wpAny_Dict_walk (knd:=bh X.prog X.w) hall hl h0 h15 (thn (h ρ _ σ _ _ I1 (q _ hn)) λws s2 ⟨ps,H2,I2,rel,e,kvs,ep,lk,q2⟩=>?_);subst ep;obtain⟨rs,c,rk⟩:=mG (P:=X.prog) (w:=X.w) rel;obtain⟨z,hd,vs0,r0,dd⟩:=tO I2.hok e;cases r0;refine⟨rs,c,dd,λh' dd' hs=>⟨.ref s.heap.objs.size,_,?_,rfl,q2⟩⟩;have hz:(gu [] kvs).length<=sizeLine:=by
  have h1:=j4 kvs [];rw[List.length_nil]at h1;rw[sizeLine_eq];lia
 have he:∃q,h'.get? s.heap.objs.size=some q:=let⟨q,_,_,hq,_⟩:=dd';⟨q,hq⟩;exact lg I2 (by rw[e];exact True.intro) hs he (vI hz hd (rk.merge .nil) dd')
structure M1(X:Cx)(o:Expr)(m:Str)(μ:Pos)(e:Expr)(ω:Pos):Prop where
 base:attributeBase o m X.env (eval o X.env)=eval o X.env
 few:((backTo ω (starEach [e] X.env)).all (λx=>!x.1)&&(backToKw ω (keywordEach [] X.env)).all (λx=>x.1.isSome)
 &&decide (([e]:List Expr).length+([]:List Keyword).length+(if([]:List Keyword).isEmpty then 0 else 1)<30))=true
 line:(μ.endLine==ω.line)=true
 trees:backTo ω (starEach [e] X.env)=[(false,eval e X.env)]
structure M2(X:Cx)(o:Expr)(m:Str)(μ:Pos)(e f:Expr)(ω:Pos):Prop where
 base:attributeBase o m X.env (eval o X.env)=eval o X.env
 few:((backTo ω (starEach [e,f] X.env)).all (λx=>!x.1)&&(backToKw ω (keywordEach [] X.env)).all (λx=>x.1.isSome)
 &&decide (([e,f]:List Expr).length+([]:List Keyword).length+(if([]:List Keyword).isEmpty then 0 else 1)<30))=true
 line:(μ.endLine==ω.line)=true
 trees:backTo ω (starEach [e,f] X.env)=[(false,eval e X.env),(false,eval f X.env)]
end L2
set_option maxHeartbeats 4000000
namespace L2
variable{scope:Scope}{env:Env}{names:List (Str×NameKind)}{n c k i j d d1 d2 d' dr cd:Nat}{X:Cx}{M:Model}{A:Around}{E:Value->Shared->Prop}{ρ:List (Addr×Obj)}{σ σ':St}{H H2 H' H1 H0:Hp}{fp:List Addr}{p p2 p1 q:Bool}{o:HO}{P prog:Program}{w:World}{K:zbV}{elts es ifs:List Expr}{tp pos ω μ ζ pos' px:Pos}{x z:Str}{ps N ns:List Str}{e tg elt iter b:Expr}{l jt tu a:Addr}{js:List (Option Nat)}{s2:Shared}{Qv Q Q':VK}{tn:Nat->Heap->Prop}{RR:Value->Addr->Result->Shared->Prop}{vs:List V}{rd rd':HO->Prop}{u fn:Value}{v y:V}{ds ds1 ds2 ds' ds0 dps lk dsi:List Nat}{t':TT}{op:CmpOp}{T:String}{Dn:Ends}{st:Stmt}{r r':List V->Hp->VK->Prop}
open PySem PySem.Spec PyProof.Rows
def BK{α β:Type}{l:List α}{f:α->β->Sem (ForInStep β)}{g:β->α->β}(h:∀x∈l,∀c,f x c=pure (.yield (g c x))):∀c,forIn l c f=pure (l.foldl g c):=by
 induction l with
 |nil=>intro c;rfl
 |cons x l ih=>
  intro c;rw[List.forIn_cons,h x zaq,pure_bind];exact ih (λy hy=>h y (zaj _ hy)) (g c x)
noncomputable def eI(env:Env)(acc:List (Str×Addr))(x:Str×NameKind):List (Str×Addr):=
 if x.2==NameKind.free then(x.1,(env.cells.lookup x.1).getD 0)::acc else acc
def bV(env:Env)(names:List (Str×NameKind)):List (Str×Addr):=names.foldl (eI env) []
def gW(h:∀y∈scope.names,y.2=.free->∃c,env.cells.lookup y.1=some c):closureFor scope env=pure (bV env scope.names):=by
 simp only[closureFor];rw[BK (g:=eI env) (λx hx c=>by
  obtain⟨n,kind⟩:=x;by_cases hk:kind=.free
  .obtain⟨a,e⟩:=h _ hx hk;subst hk;have e':env.cells.lookup n=some a:=e;simp[cellOf,eI,e']
  .have hb:(kind==NameKind.free)=false:=by simpa using hk
   simp[eI,hb])]
 rfl
theorem mE{env:Env}:∀(names:List (Str×NameKind)) (acc:List (Str×Addr)) (p:Str×Addr),
  p∈names.foldl (eI env) acc->p∈acc\/((p.1,NameKind.free)∈names/\p.2=(env.cells.lookup p.1).getD 0)
 |[],_,_,h=>.inl h
 | (n,k)::r,acc,p,h=>by
  rw[List.foldl_cons]at h;rcases mE r _ p h with q|⟨q,e⟩
  .unfold eI at q;by_cases hk:(k==NameKind.free)=true
   .rw[if_pos hk]at q;rcases zay.mp q with z|z
    .subst z;have hk':k=NameKind.free:=by simpa using hk
     subst hk';exact .inr ⟨zaq,rfl⟩
    .exact .inl z
   .rw[if_neg hk]at q;exact .inl q
  .exact .inr ⟨zaj _ q,e⟩
theorem lx{env:Env}:∀(names:List (Str×NameKind)) (acc:List (Str×Addr)) (p:Str×Addr),p∈acc->p∈names.foldl (eI env) acc
 |[],_,_,h=>h
 |x::r,acc,p,h=>by
  rw[List.foldl_cons];refine lx r _ p ?_;unfold eI;split
  .exact zaj _ h
  .exact h
theorem mF{env:Env}{n:Str}:∀(names:List (Str×NameKind)) (acc:List (Str×Addr)),(n,NameKind.free)∈names->∃c,(n,c)∈names.foldl (eI env) acc
 | (m,k)::r,acc,h=>by
  rw[List.foldl_cons];rcases zay.mp h with e|e
  .cases e;exact⟨(env.cells.lookup n).getD 0,lx r _ _ (by unfold eI;rw[if_pos (show(((n,NameKind.free):Str×NameKind).2==NameKind.free)=true from rfl)];exact zaq)⟩
  .exact mF r _ e
theorem gE{α:Type}:∀{l:List (Str×α)} {n:Str} {c:α},(n,c)∈l->∃c',l.lookup n=some c'
 | (m,d)::r,n,c,h=>by
  rw[zas];cases hb:n==m with
  |true=>exact⟨d,rfl⟩
  |false=>
   rcases zay.mp h with e|e
   .cases e;simp at hb
   .exact gE e
def lU{n:Str}(h:(n,NameKind.free)∈names):∃c,(bV env names).lookup n=some c:=
 let⟨_,e⟩:=mF (env:=env) names [] h
 gE e
def gB{n:Str}{c:Addr}(h:∀y∈names,y.2=.free->∃c,env.cells.lookup y.1=some c)(e:(bV env names).lookup n=some c):env.cells.lookup n=some c:=by
 rcases mE names [] (n,c) (zaU e)with q|⟨q,z⟩
 .simp at q
 .obtain⟨a,ea⟩:=h _ q rfl;have z':c=(env.cells.lookup n).getD 0:=z;have ea':env.cells.lookup n=some a:=ea;rw[ea']at z';rw[ea',z'];rfl
theorem jq{env:Env}:∀{names:List (Str×NameKind)} {x:Str} {k:NameKind},
  (names.map λ(n,k)=>if(k==NameKind.free&&env.scope.kind==.function&&env.kindOf n==some .cell)then(n,NameKind.cell)else(n,k)).lookup x=some k ->
  names.lookup x=some k\/(names.lookup x=some .free/\k=.cell)
 |[],_,_,h=>by simp at h
 | (n,k0)::r,x,k,h=>by
  rw[zar]at h;cases hx:x==n with
  |true=>
   rcases Bool.eq_false_or_eq_true (k0==NameKind.free&&env.scope.kind==.function&&env.kindOf n==some .cell)with hc|hc
   .simp only[hc,if_true,zas,hx]at h;have hk:k0=.free:=by
     simp only[zbm,beq_iff_eq]at hc;exact hc.1.1
    refine .inr ⟨?_,?_⟩
    .simp only[zas,hx,hk]
    .exact(zat h).symm
   .simp only[hc,Bool.false_eq_true,if_false,zas,hx]at h;refine .inl ?_;simp only[zas,hx];exact h
  |false=>
   have h':(r.map λ(n,k)=>if(k==NameKind.free&&env.scope.kind==.function&&env.kindOf n==some .cell)then(n,NameKind.cell)else(n,k)).lookup x=some k:=by
    rcases Bool.eq_false_or_eq_true (k0==NameKind.free&&env.scope.kind==.function&&env.kindOf n==some .cell)with hc|hc
    .simp only[hc,if_true,zas,hx]at h;exact h
    .simp only[hc,Bool.false_eq_true,if_false,zas,hx]at h;exact h
   simp only[zas,hx];exact jq h'
theorem l7{env:Env}:∀{names:List (Str×NameKind)} {x:Str},names.lookup x=some .free ->
  (names.map λ(n,k)=>if(k==NameKind.free&&env.scope.kind==.function&&env.kindOf n==some .cell)then(n,NameKind.cell)else(n,k)).lookup x=some .cell \/
  (names.map λ(n,k)=>if(k==NameKind.free&&env.scope.kind==.function&&env.kindOf n==some .cell)then(n,NameKind.cell)else(n,k)).lookup x=some .free
 |[],_,h=>by simp at h
 | (n,k0)::r,x,h=>by
  rw[zar];cases hx:x==n with
  |true=>
   simp only[zas,hx]at h;rcases Bool.eq_false_or_eq_true (k0==NameKind.free&&env.scope.kind==.function&&env.kindOf n==some .cell)with hc|hc
   .refine .inl ?_;simp only[hc,if_true,zas,hx]
   .refine .inr ?_;simp only[hc,Bool.false_eq_true,if_false,zas,hx];exact h
  |false=>
   simp only[zas,hx]at h;have ih:=l7 (env:=env) h;rcases Bool.eq_false_or_eq_true (k0==NameKind.free&&env.scope.kind==.function&&env.kindOf n==some .cell)with hc|hc
   .simp only[hc,if_true,zas,hx];exact ih
   .simp only[hc,Bool.false_eq_true,if_false,zas,hx];exact ih
noncomputable def dQ(js:List (Option Nat))(σ:St):St:=js.map λj=>match j with
 |some j=>(σ[j]?).join
 |none=>none
def PTs(X:Cx)(ifs:List Expr)(tt:TT):Prop:=
 ∀(ρ:List (Addr×Obj)) (s:Shared) (σ:St) (H:Hp) (Q:Bool->Hp->Prop),Inv X ρ σ H s->tt σ H Q ->
  wpAny (model X.prog X.w) X.A (forIn ifs true λc r=>if r=true then do let ok <-isTrue c X.env (eval c X.env);pure (ForInStep.yield ok)else pure (ForInStep.yield r)) (TP X ρ σ Q) X.xe s
structure QTs(X:Cx)(e:List Expr)(t:TT):Prop where
 h:PTs X e t
def Hg:TT:=λ_ H Q=>Q true H
def pts_nil:PTs X [] Hg:=λ_ _ _ H _ I h=>wpAny_tests_nil ⟨H,I,h⟩
def A2{c:Expr}{tc:TT}(hc:PT X c tc):PTs X [c] tc:=λρ s σ H Q I h=>wpAny_tests_one (hc ρ s σ H Q I h)
def EJ(g:TG)(tt:TT)(te:TE)(D:Addr)(x:V)(τ:St)(H:Hp)(N:St->Hp->Prop):Prop:=
 g x τ H λτ4 H4=>tt τ4 H4 λb H5=>if b=true then te τ4 H5 λv H6=>∃xs,H6 D=some (.lst xs)/\xs.length<sizeLine/\N τ4 (upd H6 D (.lst (xs++[v])))else N τ4 H5
def oK(J:It)(g:TG)(tt:TT)(te:TE)(σ0:St)(H1:Hp)(D:Addr)(Q:VK):Prop:=
 ∃W:Nat->Nat->St->Hp->Prop,(∃m,W 0 m σ0 (upd H1 D (.lst []))) /\
  ∀i m τ H2,W i m τ H2->(J.stop i H2/\Q (.ref D) H2)\/(J.go i H2/\∃N:St->Hp->Prop,(∀τ' H',N τ' H'->∃m',m'<m/\W (i+1) m' τ' H')/\∀x H3,J.yld i H2 x H3->EJ g tt te D x τ H3 N)
def tLC(wi:TI)(g:TG)(tt:TT)(te:TE)(js:List (Option Nat)):TE:=λσ H Q=>
 wi σ H λJ H1=>∀D,H1 D=none->oK J g tt te (dQ js σ) H1 D Q
def thF{α:Type}{t:Sem α}{Q Q':α->Shared->Prop}{s:Shared}(h:wpAny M A t Q (λ_ _=>False) s)(hQ:∀a s,Q a s->Q' a s):wpAny M A t Q' E s:=
 wpAny_mono h hQ λ_ _ x=>x.elim
def xC:CallR X (.builtin "isinstance") (λxs H Q=>∃x t n b,xs=[x,.ty n]/\TyOf X.K H x t/\PySem.W.kitOne X.K t (.type n)=some b/\Q (.bl b) H):=by
 intro ρ s σ H xs us Q I r h;obtain⟨x,t,n,b,rfl,ty,e,q⟩:=h;obtain⟨u,w',rfl,r1,r2⟩:=Gi r;cases r2;exact vf I r1 ty e λtk=>⟨.bl b,H,I.tok _,rfl,q⟩
section
open PySem.SeqAt
variable{s:Shared}
end
def Inv.turnedLaid{s:Shared}{h':Heap}{t':Nat}{p:Addr}(I:Inv X ρ σ H s)(f:∀b∈fp,gL X ρ H b)(hp:s.heap.objs.size<=p)
  (k:∀b ob,b∉fp->s.heap.get? b=some ob->h'.get? b=some ob) (th:∀b∈fp,∃ob,h'.get? b=some ob) (new:ObjOk X.prog X.w (upd H p o) h' p o):Inv X ρ σ (upd H p o) { s with heap:=h',toks:=t' }:=by
 have hn:H p=none:=I.hok.fresh hp;have ne:∀b ob,s.heap.get? b=some ob->b≠p:=λb ob e=>zaw (zag (zal e) hp);have nf:∀b u,H b=some u->b∉fp:=λb u e z=>by rw[(f b z).1]at e;cases e
 refine I.step (g':=s.gens) (d':=s.drawn) (ch:=fp) (λb hb=>⟨(f b hb).2.2.2.1,(f b hb).2.1,(f b hb).2.2.2.2.1,(f b hb).2.2.2.2.2⟩) (λb ob _ _ hc e _=>k b ob hc e) (λb ob _ _ hc e _=>⟨ob.slots,k b ob hc e⟩)
  (λb ob _ e n=>by rw[au (ne b ob e)];exact n) (λb ob hc e=>⟨ob,k b ob hc e⟩) (λb xs e=>by rw[au (a8 e hn)];exact e) (λb ob u e=>by rw[au (a8 e hn)];exact e)
  (λb ps e=>by rw[au (a8 e hn)];exact e) (λm hm=>?_) (λb u e=>?_) I.bare
 .obtain⟨ob,es,ep,ho,r⟩:=hm;exact⟨ob,es,ep,k _ ob (λz=>(f _ z).2.1 rfl) ho,r⟩
 .by_cases hb:b=p
  .subst hb;rw[ao]at e;cases e;exact new
  .rw[au hb]at e;refine(I.hok b u e).stay (λc v hc q=>k c v ?_ q) (λc q=>by rw[au (a8 q hn)];exact q) λc xs _ q=>by rw[au (a8 q hn)];exact q
   rcases hc with z|z
   .rw[z];exact nf b u e
   .exact nf c _ z
def Ite(K:zbV)(a:Addr):It:=
 ⟨λi H=>∃xs x,SqL K H a xs/\xs[i]?=some x,
  λi H y H'=>∃p x,y=.ref p/\H p=none/\H'=upd H p (.tup [.int i,x])/\∀xs,SqL K H a xs->xs[i]?=some x,
  λi H=>∃xs,SqL K H a xs/\xs.length<=i⟩
def ut(a e it:Addr)(hei:e≠it):
  Turn P w K (.Tuple elts k tp) (Ite K a) [e,it] e (λi h=>(∃old,IsEnum h e it i old)/\h.IsListIter it a i) where
 mem:=by simp
 obj:=λi h st b hb=>by
  obtain⟨⟨old,he⟩,o,ho,hc,hd⟩:=st;have hb':b=e\/b=it:=by simpa using hb
  rcases hb' with rfl|rfl
  .exact⟨_,he,λv z=>by
    have z':Data.fields _=Data.cell v:=z;cases z'⟩
  .exact⟨o,ho,λv z=>by rw[hd]at z;cases z⟩
 keep:=λi h h' st kp=>⟨let⟨old,he⟩:=st.1;⟨old,kp e (by simp) _ he⟩,st.2.at λo q=>kp it (by simp) o q⟩
 item:=by
  intro X hP hw hK hc i ρ s σ H E I hf st hg;subst hP hw hK;obtain⟨xs,x,hq,hx⟩:=hg;obtain⟨its,rv,p,hz⟩:=I.list hq;obtain⟨u,hu,ru⟩:=rv.get hx;obtain⟨⟨old,he⟩,hit⟩:=st;refine wpAny_pyNext_enum_item he hit p.isList (x:=u) (by simpa using hu) hei λh1 ho1 hit1 ht1 hz1 hk1=>?_;refine⟨_,rfl,wpAny_letOwnedTupleGo_enum ho1 λh2 he2 hs2=>?_⟩;have eL:e<s.heap.objs.size:=zal he;have ht2:h2.get? s.heap.objs.size=some { cls:=.type "tuple",data:=.seq #[.int i s.toks,u] }:=(hs2.2 _ (Nat.ne_of_gt eL)).trans ht1;have hit2:h2.IsListIter it a (i+1):=hit1.extBut hs2.extBut hei.symm;have I2:Inv X ρ σ (upd H s.heap.objs.size (.tup [.int i,x])) { s with heap:=h2,toks:=s.toks+1 }:=by
   refine I.turnedLaid (fp:=[e,it]) hf (zav _) (λb ob hb q=>?_) (λb hb=>?_) ?_
   .have h1:b≠e:=λz=>hb (by simp[z]);have h2':b≠it:=λz=>hb (by simp[z]);exact(hs2.2 b h1).trans (hk1 b ob h1 h2' q)
   .have hb':b=e\/b=it:=by simpa using hb
    rcases hb' with rfl|rfl
    .exact⟨_,he2⟩
    .obtain⟨o,ho,_⟩:=hit2;exact⟨o,ho⟩
   .refine⟨(by show 2<=sizeLine;decide),[.int i s.toks,u],.cons ⟨_,rfl⟩ (.cons ru .nil),?_⟩;exact⟨_,ht2,rfl,_,rfl,rfl⟩
  have fr:∀b∈[e,it],upd H s.heap.objs.size (.tup [.int i,x]) b=none:=λb hb=>by
   have hlt:b<s.heap.objs.size:=by
    have hb':b=e\/b=it:=by simpa using hb
    rcases hb' with rfl|rfl
    .exact eL
    .obtain⟨o,ho,_⟩:=hit;exact zal ho
   rw[au (zaw hlt)];exact(hf b hb).1
  exact⟨.ref s.heap.objs.size,_,I2,rfl,⟨_,x,rfl,I.fresh,rfl,λys hy=>by rw[I.list_inj hy hq];exact hx⟩,⟨⟨_,he2⟩,hit2⟩,fr⟩
 done:=by
  intro X hP hw hK hc i ρ s σ H E I hf st hg;subst hP hw hK;obtain⟨xs,hq,hx⟩:=hg;obtain⟨its,rv,p,hz⟩:=I.list hq;obtain⟨⟨old,he⟩,hit⟩:=st;obtain⟨f0,f1,f2,f3,f4,f5⟩:=hf it (by simp);have hl:=rv.length;exact wpAny_pyNext_enum_end (I.ok.hd hc) he hit p.isList (by simp;lia) λh' eb=>⟨rfl,I.turned (t':=s.toks) (λb o hb q=>eb b o hb q) f0 f1 f3 f4 f5⟩
 self:=λ_ _ _ _ _ st h=>let⟨⟨_,he⟩,_⟩:=st;wpAny_pyIter_enum he h
def Kn(P:Program)(w:World)(K:zbV)(mg:Str->Option Value)(base:Heap)(k:Nat)(x:Str)(ps:List Str)(sp:Sp):Prop:=
 ∃f fd,FnOk P w K mg base CX0 k f fd ps sp/\mg x=some (.ref f)/\PySem.W.keepIn K (.ref f)=true/\Binds K fd ps []
def Kn.mono{P:Program}{w:World}{K:zbV}{mg:Str->Option Value}{base:Heap}{j k:Nat}{x:Str}{ps:List Str}{sp:Sp}(G:Kn P w K mg base j x ps sp)(h:j<=k):Kn P w K mg base k x ps sp:=
 let⟨f,fd,a,b,c,d⟩:=G
 ⟨f,fd,a.mono h,b,c,d⟩
section
variable{sp:Sp}{p:Pos}{t:TA}
def Ao(G:Kn X.prog X.w X.K X.mg X.base k x ps sp)(hr:Room k X.A)(hg:Gl X x)(ha:PA X (e::es) t)(hdb:(x==("__debug__":Str))=false:=by decide)
  (he:starEach (e::es) X.env=(false,eval e X.env)::starEach es X.env:=by rfl) (hpl:(backTo pos (starEach es X.env)).any (·.1)=false:=by rfl):
  PE X (.Call (.Name x p) (e::es) [] pos) (kW sp [] E0 t):=by
 obtain⟨f,fd,F,hm,hk,hb⟩:=G;exact Bc F hr hg hm hk hb .nil Ap ha hdb he hpl
end
def Hl(K:zbV):List V->Hp->VK->Prop:=λxs H Q=>∃x n,xs=[x]/\Ge K x H n/\Q (.int n) H
def AY(K:zbV):List V->Hp->VK->Prop:=λxs H Q=>∃p ys,xs=[.ref p]/\(SqL K H p ys\/SqT K H p ys)/\∀l,H l=none->Q (.ref l) (upd H l (.lst ys))
section
def Ht(hK:X.K=K):CallR X (.builtin "len") (Hl K):=by subst hK;exact xB
def By(hK:X.K=K):CallR X (.type "list") (AY K):=by subst hK;exact ql
def Hu(hK:X.K=K):IxR X (sB K):=by subst hK;exact ix_list
variable{l:Expr}{tl:TE}{t:TGs}{p p2:Pos}
end
noncomputable def hide(p:Addr)(H:Hp):Hp:=λb=>if b=p then none else H b
noncomputable def sgn(c:Nat):V:=.str ⟨#[c]⟩
def Its(z:Str):It:=⟨λi _=>i<z.cps.size,λi H x H'=>H'=H/\∃c,z.cps[i]?=some c/\x=sgn c,λi _=>z.cps.size<=i⟩
def v1(it:Addr)(z:Str)(t:Tok)(ty:String)(hty:ty="str_ascii_iterator"\/ty="str_iterator"):
  Turn P w K tg (Its z) [it] it (λi h=>h.IsStrIter it ty z t i) where
 mem:=by simp
 obj:=λi h st b hb=>by
  have e:b=it:=by simpa using hb
  subst e;obtain⟨o,e,c,d⟩:=st;exact⟨o,e,λv q=>by rw[d]at q;cases q⟩
 keep:=λi h h' st k=>let⟨o,e,r⟩:=st;⟨o,k it (by simp) o e,r⟩
 item:=by
  intro X hP hw hK hc i ρ s σ H E I hf st hg;subst hP hw hK;obtain⟨f0,f1,f2,f3,f4,f5⟩:=hf it (by simp);have W:Walks X.prog X.w X.A it [it] [it] z.cps.size (SignAt z) (λi h=>h.IsStrIter it ty z t i):=by
   rcases hty with rfl|rfl
   .exact Walks.strAscii (I.ok.hd hc) it z t
   .exact Walks.strWide (I.ok.hd hc) it z t
  refine W.item i s _ _ hg st λv h' tk hv st' kk=>?_;obtain⟨c,u,hcv,rfl⟩:=hv;have I1:Inv X ρ σ H { s with heap:=h',toks:=tk }:=I.turned (λb o hb e=>kk b o (by simpa using hb) e) f0 f1 f3 f4 f5;obtain⟨o,e,ec,ed⟩:=id st';refine⟨_,rfl,mq (s:={ s with heap:=h',toks:=tk }) (n:=ty) e ec ed (by rcases hty with rfl|rfl<;>decide) ⟨sgn c,H,I1,⟨u,rfl⟩,⟨rfl,c,hcv,rfl⟩,st',λb hb=>(hf b hb).1⟩⟩
 done:=by
  intro X hP hw hK hc i ρ s σ H E I hf st hg;subst hP hw hK;obtain⟨f0,f1,f2,f3,f4,f5⟩:=hf it (by simp);have hle:z.cps.size<=i:=hg;rcases hty with rfl|rfl
  .exact wpAny_pyNext_ascii_end (I.ok.hd hc) st (by simpa using hle) λh' he=>⟨rfl,I.turned (t':=s.toks) (λb o hb e=>he b o hb e) f0 f1 f3 f4 f5⟩
  .exact wpAny_pyNext_wide_end (I.ok.hd hc) st (by simpa using hle) λh' he=>⟨rfl,I.turned (t':=s.toks) (λb o hb e=>he b o hb e) f0 f1 f3 f4 f5⟩
 self:=λA i s Q E st h=>by
  rcases hty with rfl|rfl
  .exact wpAny_pyIter_striter_ascii st h
  .exact wpAny_pyIter_striter_wide st h
def dL(z:Str):List V:=z.cps.toList.map sgn
theorem iL:∀{xs:List V} {us:List Value},xs.length=us.length->(∀(i:Nat) x u,xs[i]?=some x->us[i]?=some u->RelV x u)->Vals xs us
 |[],[],_,_=>.nil
 |[],_::_,h,_=>by cases h
 |_::_,[],h,_=>by cases h
 |x::xs,u::us,h,f=>.cons (f 0 x u rfl rfl) (iL (Nat.succ.inj h) λi y v a b=>f (i+1) y v (by simpa using a) (by simpa using b))
def nu(hc:X.calm=true):CallR X (.type "list") (λxs H Q=>∃z,xs=[.str z]/\z.cps.size<=sizeLine/\∀l,H l=none->Q (.ref l) (upd H l (.lst (dL z)))):=by
 intro ρ s σ H xs us Q I r h;obtain⟨z,rfl,hz,q⟩:=h;obtain⟨u,rfl,t,rfl⟩:=kS r;refine call_list_str (I.ok.hd hc) z t (λh' tk acc c' hk ho hi=>?_) hz;have hl:(dL z).length=acc.toList.length:=by
  unfold dL;rw[zad,zaY,zaY,hi.1]
 have rv:Vals (dL z) acc.toList:=iL hl λi x v a b=>by
  obtain⟨c,tk',hcv,rfl⟩:=hi.2 i v (by simpa using b);unfold dL at a;rw[zao]at a;have e:z.cps.toList[i]?=some c:=by simpa using hcv
  rw[e]at a;cases a;exact⟨_,rfl⟩
 refine⟨.ref s.heap.objs.size,_,I.laid (t':=tk) (o:=.lst (dL z)) hk (zav _) ⟨?_,acc.toList,c',rv,by simpa using ho⟩,rfl,q _ I.fresh⟩;unfold dL;rw[zad,zaY];exact hz
def HG(xs:List Nat)(lo hi:Option Int):List Nat:=(xs.drop (HT.sIx xs.length 0 lo)).take (HT.sIx xs.length xs.length hi-HT.sIx xs.length 0 lo)
noncomputable def hid(l:List Addr)(H:Hp):Hp:=λb=>if b∈l then none else H b
abbrev li(z:Str):List Nat:=z.cps.toList
noncomputable def mk1(c:Nat):Str:=⟨#[c]⟩
def Sub(x z:List Nat):Prop:=∀c∈x,c∈z
noncomputable def vh(z y:Str):Bool:=!(Builtin.Str.occurrences z y 0 z.length 1).isEmpty
section
open PySem.SeqAt
end
theorem eP:∀(names:List (Str×NameKind)) (n:Nat) (acc:List (Str×Addr)),cellsFrom n names acc=cellsFrom n names []++acc
 |[],_,_=>rfl
 | (x,k)::r,n,acc=>by
  unfold cellsFrom;split
  .rw[eP r (n+1) ((x,n)::acc),eP r (n+1) [(x,n)],List.append_assoc];rfl
  .exact eP r n acc
theorem gF:∀(names:List (Str×NameKind)) (n:Nat) (acc:List (Str×Addr)) {x:Str} {c:Addr},(x,c)∈cellsFrom n names acc->(x,c)∈acc\/(x,NameKind.cell)∈names
 |[],_,_,_,_,h=>.inl h
 | (y,k)::r,n,acc,x,c,h=>by
  unfold cellsFrom at h;split at h
  .rename_i hk;rcases gF r _ _ h with h|h
   .rcases zay.mp h with e|e
    .have hk':k=.cell:=by simpa using hk
     have e':=(Prod.mk.inj e).1;rw[e',<-hk'];exact .inr zaq
    .exact .inl e
   .exact .inr (zaj _ h)
  .rcases gF r _ _ h with h|h
   .exact .inl h
   .exact .inr (zaj _ h)
theorem gc:∀(names:List (Str×NameKind)) (n:Nat) (acc:List (Str×Addr)) {p:Str×Addr},p∈acc->p∈cellsFrom n names acc
 |[],_,_,_,h=>h
 | (y,k)::r,n,acc,p,h=>by
  unfold cellsFrom;split
  .exact gc r _ _ (zaj _ h)
  .exact gc r _ _ h
theorem gH:∀(names:List (Str×NameKind)) (n:Nat) (acc:List (Str×Addr)) {x:Str},(x,NameKind.cell)∈names->∃c,(x,c)∈cellsFrom n names acc
 |[],_,_,_,h=>by simp at h
 | (y,k)::r,n,acc,x,h=>by
  unfold cellsFrom;rcases zay.mp h with e|e
  .cases e;rw[if_pos (by rfl)];exact⟨n,gc r _ _ zaq⟩
  .split
   .exact gH r _ _ e
   .exact gH r _ _ e
theorem pH{α:Type}:∀{a b:List (Str×α)} {x:Str} {c:α},(a++b).lookup x=some c->a.lookup x=some c\/(a.lookup x=none/\b.lookup x=some c)
 |[],_,_,_,h=>.inr ⟨rfl,h⟩
 | (n,v)::r,b,x,c,h=>by
  rw[zaZ,zas]at h;rw[zas];cases e:x==n with
  |true=>rw[e]at h;exact .inl h
  |false=>rw[e]at h;exact pH h
theorem kf{α:Type}:∀{a b:List (Str×α)} {x:Str} {c:α},a.lookup x=some c->(a++b).lookup x=some c
 |[],_,_,_,h=>by simp at h
 | (n,v)::r,b,x,c,h=>by
  rw[zaZ,zas];rw[zas]at h;cases e:x==n with
  |true=>rw[e]at h;exact h
  |false=>rw[e]at h;exact kf h
theorem jx{α:Type}:∀{a b:List (Str×α)} {x:Str} {c:α},a.lookup x=none->b.lookup x=some c->(a++b).lookup x=some c
 |[],_,_,_,_,h=>h
 | (n,v)::r,b,x,c,hn,h=>by
  rw[zaZ,zas];rw[zas]at hn;cases e:x==n with
  |true=>rw[e]at hn;cases hn
  |false=>rw[e]at hn;exact jx hn h
abbrev aF(X:Cx)(scope:Scope)(ns:List Str)(C:Addr)(cl:List (Str×Addr))(s₀:Shared)(H₀:Hp)(fp:List Addr):Cx:=
 { X with N:=ns,s₀:=s₀,H₀:=H₀,env:=compEnvC scope cl C X.env,outer:=X.stack,ex:=fp,fn:=λx=>scope.names.lookup x==some NameKind.cell,pn:=[],xe:=λ_ _=>False,hide:=λ_=>none }
structure BlkOkC(X:Cx)(scope:Scope)(ns:List Str)(js:List (Option Nat)):Prop where
 kind:scope.kind=.function
 uniq:∀y∈scope.names,y.2=.cell->scope.names.lookup y.1=some .cell
 names:∀y∈scope.names,y.2=.local->scope.names.lookup y.1=some .local
 free:∀y∈scope.names,y.2=.free->X.env.kindOf y.1=some .cell\/X.env.kindOf y.1=some .free
 nd:ns.Nodup
 len:js.length=ns.length
 out:∀(i:Nat) (x:Str) (j:Nat),ns[i]?=some x->js[i]?=some (some j)->X.N[j]?=some x/\scope.names.lookup x=some .free
noncomputable def rX(N:List Str)(sc scope:Scope)(ns:List Str)(js:List (Option Nat)):Bool:=
 decide (scope.kind=.function)&&scope.names.all (λy=>decide (y.2=.cell->scope.names.lookup y.1=some .cell))&&scope.names.all (λy=>decide (y.2=.local->scope.names.lookup y.1=some .local)) &&
 scope.names.all (λy=>decide (y.2=.free->sc.names.lookup y.1=some .cell\/sc.names.lookup y.1=some .free))&&decide ns.Nodup&&decide (js.length=ns.length) &&
 (List.range ns.length).all (λi=>match js[i]?,ns[i]? with
  |some (some j),some x=>decide (N[j]?=some x)&&decide (scope.names.lookup x=some .free)
  |_,_=>true)
def B5(h7:∀i<ns.length,(match js[i]?,ns[i]? with
  |some (some j),some x=>decide (N[j]?=some x)&&decide (scope.names.lookup x=some .free)
  |_,_=>true)=true)(e1:ns[i]?=some x)(e2:js[i]?=some (some j)):N[j]?=some x/\scope.names.lookup x=some .free:=by
 have q:=h7 i (zah.mp e1).1;rw[e1,e2]at q;simpa using q
def BlkOkC.of{N0:List Str}{sc0:Scope}(hN:X.N=N0)(hS:X.env.scope=sc0)(h:rX N0 sc0 scope ns js=true):BlkOkC X scope ns js:=by
 unfold rX at h;simp only[zbm,List.all_eq_true,decide_eq_true_eq,zbr]at h;obtain⟨⟨⟨⟨⟨⟨h1,h2⟩,h3⟩,h4⟩,h5⟩,h6⟩,h7⟩:=h;refine⟨h1,λy hy=>h2 y hy,λy hy=>h3 y hy,λy hy hk=>?_,h5,h6,λi x j e1 e2=>?_⟩
 .have q:=h4 y hy hk;rw[<-hS]at q;exact q
 .rw[hN];exact B5 h7 e1 e2
section
variable{s:Shared}
def iu{globals:Addr}{closure:List (Str×Addr)}{qual:Str}{outer:Env}{builtins:Addr}{Q:Env->Shared->Prop}
  (hQ:Q (newEnv scope s.heap.objs.size globals (cellsFrom (s.heap.objs.size+1) scope.names closure) qual none .none (some outer) builtins) { s with heap:=pushCells (s.heap.push { cls:=.type "dict",data:=.dict #[] }) scope.names }):
  wpAny M A (newFunctionEnv scope globals closure [] qual none .none (some outer) builtins) Q E s:=by
 simp only[newFunctionEnv,Option.isSome_some,if_true];refine zam (wpAny_alloc ?_);refine zam (wpAny_layCells _ (λname kind cells=>by cases hkc:kind==NameKind.cell<;>simp[hkc]) _ _ _ _ ?_);rw[show({ s with heap:=s.heap.push { cls:=.type "dict",data:=.dict #[] } }:Shared).heap.objs.size=s.heap.objs.size+1 from zbv ..];rw[List.forIn_nil];exact zam (zaT (zaT hQ))
end
section
variable{wi:TI}{g:TG}{tt:TT}{te:TE}
def xD{s3:Shared}{H3:Hp}{h₁:Heap}{tk:Nat}(B:BlkOkC X scope ns js)(I3:Inv X ρ σ H3 s3)
  (f3:∀b∈fp,gL X ρ H3 b) (lt3:∀b∈fp,b<s3.heap.objs.size) (hns:h₁.Ns s3.heap.objs.size (λ_=>none)) (old:∀b u,s3.heap.get? b=some u->h₁.get? b=some u)
  (cok:CellsOk h₁ (s3.heap.objs.size+1) (cellsFrom (s3.heap.objs.size+1) scope.names [])):
  Inv (aF X scope ns s3.heap.objs.size (cellsFrom (s3.heap.objs.size+1) scope.names (bV X.env scope.names)) s3 H3 fp) [] (dQ js σ) H3 { s3 with heap:=h₁,toks:=tk }:=by
 rw[eP];have hmem:∀{x:Str} {c:Addr},(x,c)∈cellsFrom (s3.heap.objs.size+1) scope.names []->scope.names.lookup x=some .cell:=λ{x c} h=>by
  rcases gF _ _ _ h with h|h
  .simp at h
  .exact B.uniq _ h rfl
 have hhas:∀{x:Str},scope.names.lookup x=some .cell->∃c,(cellsFrom (s3.heap.objs.size+1) scope.names []).lookup x=some c:=λ{x} h=>by
  obtain⟨c,hc⟩:=gH scope.names (s3.heap.objs.size+1) [] (zaU h);exact gE hc
 generalize cellsFrom (s3.heap.objs.size+1) scope.names []=CS at cok hmem hhas;have has:∀y∈scope.names,y.2=.free->∃c,X.env.cells.lookup y.1=some c:=λy hy hk=>I3.ok.has y.1 (B.free y hy hk);have look:∀{n:Str} {c:Addr},(CS++bV X.env scope.names).lookup n=some c->(CS.lookup n=some c/\h₁.IsCell c none/\s3.heap.objs.size+1<=c)\/(CS.lookup n=none/\X.env.cells.lookup n=some c/\c<s3.heap.objs.size):=λ{n c} e=>by
  rcases pH e with e|⟨e1,e2⟩
  .exact .inl ⟨e,cok.empty n c (zaU e)⟩
  .have e3:=gB has e2;obtain⟨v,hv⟩:=I3.cell n c e3;exact .inr ⟨e1,e3,hv.lt⟩
 refine⟨⟨I3.ok.mod,B.kind,I3.ok.glob,I3.ok.blt,zav _,λy z c h1 h2=>?_,λy hy=>?_,λy c hf h=>?_,I3.ok.hd,I3.ok.frames,.inl rfl,λb hb=>?_,I3.bs,zau I3.ok.bsz I3.sz,
   λb o e hb=>?_,λb hb z=>?_,I3.stack,I3.stkFree,λP q h=>I3.base.tbls _ _ (I3.ok.reg P q h)⟩,
  rfl,I3.bare,Un.kept old,⟨_,hns,λi x v h1 h2 h3=>?_⟩,λy c h=>?_,I3.fresh,λy c h=>?_,λp hp=>absurd (show p∈([]:List (Addr×Obj))from hp) (by simp),I3.hok.kept old,?_,λi u e=>nomatch e⟩
 .rcases look h1 with⟨a1,_,a3⟩|⟨_,a2,a3⟩<;>rcases look h2 with⟨b1,_,b3⟩|⟨_,b2,b3⟩
  .exact name_of_addr cok.apart (zaU a1) (zaU b1)
  .exact absurd (zag (zag b3 (Nat.le_succ _)) a3) (zaI _)
  .exact absurd (zag (zag a3 (Nat.le_succ _)) b3) (zaI _)
  .exact I3.ok.inj y z c a2 b2
 .have hf:scope.names.lookup y=some .cell\/scope.names.lookup y=some .free:=by
   rcases hy with hy|hy
   .rcases jq (env:=X.env) hy with q|q
    .exact .inl q
    .exact .inr q.1
   .rcases jq (env:=X.env) hy with q|q
    .exact .inr q
    .exact .inr q.1
  show ∃c,(CS++bV X.env scope.names).lookup y=some c;rcases hf with hf|hf
  .obtain⟨c,hc⟩:=hhas hf;exact⟨c,kf hc⟩
  .obtain⟨c,hc⟩:=lU (env:=X.env) (zaU hf);cases e:CS.lookup y with
   |none=>exact⟨c,jx e hc⟩
   |some d=>exact⟨d,kf e⟩
 .rcases look h with⟨_,_,a3⟩|⟨a1,_,_⟩
  .show s3.heap.objs.size<=c
   lia
  .have hf':(scope.names.lookup y==some NameKind.cell)=true:=hf;obtain⟨d,hd⟩:=hhas (by simpa using hf');rw[a1]at hd;cases hd
 .refine⟨zaw (lt3 b hb),λx c e=>?_⟩;rcases look e with⟨_,_,a3⟩|⟨_,a2,_⟩
  .have:=lt3 b hb;intro z;subst z;exact zaI _ (zag (zag this (Nat.le_succ _)) a3)
  .exact(f3 b hb).2.2.2.2.1 x c a2
 .rcases(f3 b hb).2.2.2.1 with z|z
  .exact I3.ok.noex b o e z
  .exact absurd (zag (zag (zal e) I3.ok.bsz) z) (zaI _)
 .rcases zay.mp (I3.stkSub b z)with q|q
  .exact(f3 b hb).2.1 q
  .exact(f3 b hb).2.2.1 q
 .have h2':(js.map λj=>match j with|some j=>(σ[j]?).join|none=>none)[i]?=some (some v):=h2;rw[zao]at h2';obtain⟨j,hj,hσ⟩:∃j,js[i]?=some (some j)/\σ[j]?=some (some v):=by
   cases e:js[i]? with
   |none=>rw[e]at h2';simp at h2'
   |some oj=>
    rw[e]at h2';cases oj with
    |none=>simp at h2'
    |some j=>
     refine⟨j,rfl,?_⟩;have q:(σ[j]?).join=some v:=by simpa using h2'
     cases e2:σ[j]? with
     |none=>rw[e2]at q;simp at q
     |some ov=>
      rw[e2]at q;simp at q;rw[q]
  obtain⟨hN,hfr⟩:=B.out i x j h1 hj;have hf:=B.free (x,.free) (zaU hfr) rfl;have hf':X.env.kindOf x=some .cell\/X.env.kindOf x=some .free:=hf;obtain⟨m,hn,hl⟩:=I3.loc;obtain⟨u,r,l⟩:=hl j x v hN hσ (by
   rcases hf' with z|z
   .exact .inr (.inl z)
   .exact .inr (.inr z))
  refine⟨u,r,?_⟩;rcases l with⟨hk,_⟩|⟨hk,c,hc,hcell⟩
  .rcases hf' with z|z
   .rw[z]at hk;cases hk
   .rw[z]at hk;cases hk
  .obtain⟨c',hc'⟩:=lU (env:=X.env) (zaU hfr);have e':=gB has hc';rw[hc]at e';cases e';obtain⟨o,ho,hd⟩:=hcell;have hno:CS.lookup x=none:=by
    cases e:CS.lookup x with
    |none=>rfl
    |some d=>
     have q:=hmem (zaU e);rw[hfr]at q;cases q
   exact .inr ⟨l7 (env:=X.env) hfr,c,jx hno hc',⟨o,old c o ho,hd⟩⟩
 .rcases look h with⟨_,a2,_⟩|⟨_,a2,_⟩
  .exact⟨_,a2⟩
  .obtain⟨v,o,ho,hd⟩:=I3.cell y c a2;exact⟨v,o,old c o ho,hd⟩
 .rcases look h with⟨_,_,a3⟩|⟨_,a2,_⟩
  .exact I3.hok.fresh (by lia)
  .exact I3.freeC y c a2
 .show(js.map _).length=ns.length;rw[zad];exact B.len
def Bg(I2:Inv X ρ σ H2 s2){C:Addr}(le2:s2.heap.objs.size<=C):C≠X.env.locals/\X.s₀.heap.objs.size<=C/\(∀x c,X.env.cells.lookup x=some c->c≠C)/\∀p∈X.pn++ρ,p.1≠C:=by
 refine⟨Nat.ne_of_gt (zag I2.lt le2),zau I2.sz le2,λx c e z=>?_,λp hp z=>?_⟩
 .obtain⟨v,hv⟩:=I2.cell x c e;exact absurd (zag hv.lt (by rw[z];exact le2)) (zaI _)
 .exact absurd (zag (zal (I2.pin p hp).1) (by rw[z];exact le2)) (zaI _)
def wK{XX:Hp->Shared->Value->Shared->Prop}{J:It}{it:Addr} 
  (B:BlkOkC X scope ns js) (hc:X.calm=true) (I2:Inv X ρ σ H2 s2) (T:Turn X.prog X.w X.K tg J fp it tn) (st2:tn 0 s2.heap) (f2:∀b∈fp,gL X ρ H2 b)
  (hg:∀C cl s₀ H₀ fp,PG (aF X scope ns C cl s₀ H₀ fp) tg g) (ht:∀C cl s₀ H₀ fp,PTs (aF X scope ns C cl s₀ H₀ fp) ifs tt) (he:∀C cl s₀ H₀ fp ρ s τ H Q E1,Inv (aF X scope ns C cl s₀ H₀ fp) ρ τ H s->te τ H Q->(∀{ρ σ H1 s1 ev s'},Inv (aF X scope ns C cl s₀ H₀ fp) ρ σ H1 s1->XX H1 s1 ev s'->E1 ev s')->wpAny (model X.prog X.w) X.A (eval elt (aF X scope ns C cl s₀ H₀ fp).env) (EP (aF X scope ns C cl s₀ H₀ fp) ρ τ Q) E1 s)
  (hw:∀D,H2 D=none->oK J g tt te (dQ js σ) H2 D Qv)
  (hRR:∀D C s' H',Inv X ρ σ H' s'->(∃m,s'.heap.Ns C m)->H' C=none->s2.heap.objs.size<=C->(Qv (.ref D) H'->RR (.ref D) C (.ok .next) s')/\∀cl ev s4,XX H' s' ev s4->notedBy (model X.prog X.w) X.A (compEnvC scope cl C X.env) (λe s'=>RR (.ref D) C (.error e) s') ev s4):
  wpAny (model X.prog X.w) X.A (newList []) (λacc s₃=>wpAny (model X.prog X.w) X.A (newFunctionEnv scope X.env.globals (bV X.env scope.names) [] X.env.qual none .none (some X.env)) (λcenv s₄=>
   cenv.frame=X.env.frame/\codeAny (model X.prog X.w) X.A (.compStart (.ListComp elt [⟨tg,iter,ifs,0⟩] scope pos) 0 (.ref it) acc { cenv with scope:=relabel scope X.env }) (RR acc cenv.locals) s₄) X.xe s₃) X.xe s2:=by
 refine wpAny_newObj_type (iu ⟨rfl,?_⟩)
 dsimp only
 have I3:Inv X ρ σ (upd H2 s2.heap.objs.size (.lst [])) { s2 with heap:=s2.heap.push { cls:=.type "list",data:=.seq ([]:List Value).toArray },toks:=s2.toks }:=I2.lnew .nil (zbj _);generalize hs3:({ s2 with heap:=s2.heap.push { cls:=.type "list",data:=.seq ([]:List Value).toArray },toks:=s2.toks }:Shared)=s3 at I3;have e3:s3.heap=s2.heap.push { cls:=.type "list",data:=.seq ([]:List Value).toArray }:=by rw[<-hs3]
 have k3:∀b u,s2.heap.get? b=some u->s3.heap.get? b=some u:=λb u e=>by rw[e3];exact zaf _ e
 have sz3:s3.heap.objs.size=s2.heap.objs.size+1:=by rw[e3,zbv]
 have hD:H2 s2.heap.objs.size=none:=I2.fresh;obtain⟨h₁,hh₁⟩:∃h₁,h₁=pushCells (s3.heap.push { cls:=.type "dict",data:=.dict #[] }) scope.names:=⟨_,rfl⟩;have old:∀b u,s3.heap.get? b=some u->h₁.get? b=some u:=λb u e=>by
  rw[hh₁];exact pushCells_keeps _ _ b u (zaf _ e)
 have hns:h₁.Ns s3.heap.objs.size (λ_=>none):=by
  rw[hh₁];exact(Heap.Ns.new s3.heap (.type "dict")).keeps (pushCells_keeps _ _)
 have cok:CellsOk h₁ (s3.heap.objs.size+1) (cellsFrom (s3.heap.objs.size+1) scope.names []):=by
  have q:=cellsFrom_ok scope.names (s3.heap.push { cls:=.type "dict",data:=.dict #[] }) (s3.heap.objs.size+1) [] ⟨λ_ _ hm=>(nomatch hm),List.Pairwise.nil⟩ (by rw[zbv];exact zav _);rw[zbv,<-hh₁]at q;exact q
 have obj2:∀b∈fp,b<s2.heap.objs.size:=λb hb=>let⟨o,e,_⟩:=T.obj 0 _ st2 b hb;zal e;have f3:∀b∈fp,gL X ρ (upd H2 s2.heap.objs.size (.lst [])) b:=λb hb=>⟨by rw[au (zaw (obj2 b hb))];exact(f2 b hb).1,(f2 b hb).2⟩;have lt3:∀b∈fp,b<s3.heap.objs.size:=λb hb=>by rw[sz3];exact Nat.lt_succ_of_lt (obj2 b hb)
 obtain⟨W,⟨m0,w0⟩,turn⟩:=hw _ hD;have J0:=λtk=>xD (tk:=tk) B I3 f3 lt3 hns old cok;have has:∀y∈scope.names,y.2=.free->∃c,X.env.cells.lookup y.1=some c:=λy hy hk=>I2.ok.has y.1 (B.free y hy hk);have stat:∀{H':Hp},(∀b∈fp,H' b=none)->∀b∈fp,gL (aF X scope ns s3.heap.objs.size (cellsFrom (s3.heap.objs.size+1) scope.names (bV X.env scope.names)) s3 (upd H2 s2.heap.objs.size (.lst [])) fp) [] H' b:=λhn b hb=>
  ⟨hn b hb,zaw (lt3 b hb),(J0 0).ok.exfs b hb,.inl hb,λx c e=>(J0 0).ok.exf b hb |>.2 x c e,λp hp=>absurd (show p∈([]:List (Addr×Obj))from hp) (by simp)⟩
 have fin:∀{pins':List (Addr×Obj)} {τ:St} {H':Hp} {s':Shared},Inv (aF X scope ns s3.heap.objs.size (cellsFrom (s3.heap.objs.size+1) scope.names (bV X.env scope.names)) s3 (upd H2 s2.heap.objs.size (.lst [])) fp) pins' τ H' s'->_:=λ{_ _ H' s'} I6=>by
  have u1:Un (frs X.stack) fp H2 (upd H2 s2.heap.objs.size (.lst [])) s2.heap s3.heap:=Un.laid k3 (zav _) hD;have os3:s3.os=s2.os:=by rw[<-hs3]
  have I7:Inv X ρ σ H' s':=I2.call' (ch:=fp) (I6.os.trans os3) (u1.trans I6.base) I6.hok I6.bare λb hb=>⟨(f2 b hb).2.2.2.1,(f2 b hb).2.1,(f2 b hb).2.2.2.2.1,(f2 b hb).2.2.2.2.2⟩;exact hRR s2.heap.objs.size s3.heap.objs.size s' H' I7 (I6.loc.imp λ_ z=>z.1) I6.free (by rw[sz3];exact Nat.le_succ _)
 rw[<-e3,<-hh₁];have loop:∀tk,codeAny (model X.prog X.w) X.A (.compLoop (.ListComp elt [⟨tg,iter,ifs,0⟩] scope pos) 0 (.ref it) (.ref s2.heap.objs.size) (compEnvC scope (cellsFrom (s3.heap.objs.size+1) scope.names (bV X.env scope.names)) s3.heap.objs.size X.env))
   (RR (.ref s2.heap.objs.size) s3.heap.objs.size) { s3 with heap:=h₁,toks:=tk }:=λtk=>by
  refine codeAny_loop rfl (λn s'=>∃i τ H',Inv (aF X scope ns s3.heap.objs.size (cellsFrom (s3.heap.objs.size+1) scope.names (bV X.env scope.names)) s3 (upd H2 s2.heap.objs.size (.lst [])) fp) [] τ H' s'/\tn i s'.heap/\(∀b∈fp,H' b=none)/\W i n τ H') (λn s5 hI=>?_) m0
   ⟨0,_,_,J0 tk,T.keep _ _ _ st2 λb _ o e=>old b o (k3 b o e),λb hb=>(f3 b hb).1,w0⟩
  obtain⟨i,τ,H5,I5,st5,fr5,w5⟩:=hI;show wpAny _ X.A ((compTurn (.ListComp elt [⟨tg,iter,ifs,0⟩] scope pos) 0 (.ref it) (.ref s2.heap.objs.size) (compEnvC scope (cellsFrom (s3.heap.objs.size+1) scope.names (bV X.env scope.names)) s3.heap.objs.size X.env)).onRaise (λx=>do noteFrame x (compEnvC scope (cellsFrom (s3.heap.objs.size+1) scope.names (bV X.env scope.names)) s3.heap.objs.size X.env);theTreesLotGoes x)) _ _ s5;refine wpAny_noted ?_;rw[compTurn_list];refine zam (wpAny_standAt (zam ?_));rcases turn i n τ H5 w5 with⟨stop,qn⟩|⟨go,N,hN,step⟩
  .refine thn (T.done (aF X scope ns s3.heap.objs.size (cellsFrom (s3.heap.objs.size+1) scope.names (bV X.env scope.names)) s3 (upd H2 s2.heap.objs.size (.lst [])) fp) rfl rfl rfl hc i [] s5 τ H5 _ I5 (stat fr5) st5 stop) ?_;rintro r s6 ⟨hr,I6⟩;subst hr;exact zaT ((fin I6).1 qn)
  .refine thn (T.item (aF X scope ns s3.heap.objs.size (cellsFrom (s3.heap.objs.size+1) scope.names (bV X.env scope.names)) s3 (upd H2 s2.heap.objs.size (.lst [])) fp) rfl rfl rfl hc i [] s5 τ H5 _ I5 (stat fr5) st5 go) ?_;rintro r s6 ⟨u,hr,h6⟩;subst hr
   dsimp only
   refine zam (thn h6 λ_ s7 ⟨x,H7,I7,r7,y7,st7,fr7⟩=>?_);have I7':=I7.pinned (stat fr7) (T.obj _ _ st7);have back:∀{τ9:St} {H9:Hp} {s9:Shared},Inv (aF X scope ns s3.heap.objs.size (cellsFrom (s3.heap.objs.size+1) scope.names (bV X.env scope.names)) s3 (upd H2 s2.heap.objs.size (.lst [])) fp) ([]++kc fp s7.heap) τ9 H9 s9 ->
     Inv (aF X scope ns s3.heap.objs.size (cellsFrom (s3.heap.objs.size+1) scope.names (bV X.env scope.names)) s3 (upd H2 s2.heap.objs.size (.lst [])) fp) [] τ9 H9 s9/\tn (i+1) s9.heap/\∀b∈fp,H9 b=none:=λ{τ9 H9 s9} I9=>by
    refine⟨I9.unpinned,T.keep _ _ _ st7 λb hb o e=>(I9.pin (b,o) (zbg _ (zbg _ (gS hb e)))).1,λb hb=>?_⟩;obtain⟨o,e,d⟩:=T.obj _ _ st7 b hb;exact(I9.pin (b,o) (zbg _ (zbg _ (gS hb e)))).2.1
   refine zam (thF (hg _ _ _ _ _ _ s7 τ H7 x u _ I7' r7 (step x H7 y7)) λ_ s8 ⟨τ8,H8,I8,q8⟩=>?_);refine zam (thF (ht _ _ _ _ _ _ s8 τ8 H8 _ I8 q8) λb s9 ⟨H9,I9,q9⟩=>?_);cases b with
   |false=>
    rw[if_neg zbn]at q9;obtain⟨m',hm,w9⟩:=hN _ _ q9;obtain⟨a1,a2,a3⟩:=back I9;exact zaT ⟨rfl,m',hm,i+1,τ8,H9,a1,a2,a3,w9⟩
   |true=>
    rw[if_pos rfl]at q9;refine zam (zam (thn (he _ _ _ _ _ _ s9 τ8 H9 _ _ I9 q9 λI hx=>(fin I).2 _ _ _ hx) λv s10 ⟨y,H10,I10,r10,q10⟩=>?_));obtain⟨xs,hx,hz,n10⟩:=q10;obtain⟨m',hm,w10⟩:=hN _ _ n10;refine zam (thF (nL _ s10 τ8 H10 (.ref s2.heap.objs.size) [y] (.ref s2.heap.objs.size) [v] (λ_ H11=>W (i+1) m' τ8 H11) I10 rfl (.cons r10 .nil) ⟨_,xs,y,rfl,rfl,hx,hz,w10⟩) λ_ s11 ⟨_,H11,I11,_,q11⟩=>?_);obtain⟨a1,a2,a3⟩:=back I11;exact zaT (zaT ⟨rfl,m',hm,i+1,τ8,H11,a1,a2,a3,q11⟩)
 have hst1:tn 0 h₁:=T.keep _ _ _ st2 λb _ o e=>old b o (k3 b o e);subst hs3;exact codeAny_compStart_list (loop _) (T.self _ 0 _ _ _ hst1 (loop _))
def pK{J:It}{it:Addr} 
  (B:BlkOkC X scope ns js) (hc:X.calm=true) (I2:Inv X ρ σ H2 s2) (T:Turn X.prog X.w X.K tg J fp it tn) (st2:tn 0 s2.heap) (f2:∀b∈fp,gL X ρ H2 b)
  (hg:∀C cl s₀ H₀ fp,PG (aF X scope ns C cl s₀ H₀ fp) tg g) (ht:∀C cl s₀ H₀ fp,PTs (aF X scope ns C cl s₀ H₀ fp) ifs tt) (he:∀C cl s₀ H₀ fp,PE (aF X scope ns C cl s₀ H₀ fp) elt te)
  (hw:∀D,H2 D=none->oK J g tt te (dQ js σ) H2 D Qv)
  (hRR:∀D C s' H',Inv X ρ σ H' s'->Qv (.ref D) H'->(∃m,s'.heap.Ns C m)->H' C=none->C≠X.env.locals->X.s₀.heap.objs.size<=C->(∀x c,X.env.cells.lookup x=some c->c≠C)->(∀p∈X.pn++ρ,p.1≠C)->RR (.ref D) C (.ok .next) s'):
  wpAny (model X.prog X.w) X.A (newList []) (λacc s₃=>wpAny (model X.prog X.w) X.A (newFunctionEnv scope X.env.globals (bV X.env scope.names) [] X.env.qual none .none (some X.env)) (λcenv s₄=>
   codeAny (model X.prog X.w) X.A (.compStart (.ListComp elt [⟨tg,iter,ifs,0⟩] scope pos) 0 (.ref it) acc { cenv with scope:=relabel scope X.env }) (RR acc cenv.locals) s₄) X.xe s₃) X.xe s2:=
 thn (wK (XX:=λ_ _ _ _=>False) B hc I2 T st2 f2 hg ht (λC cl s₀ H₀ fp ρ s τ H Q E1 I h _=>thF (he C cl s₀ H₀ fp ρ s τ H Q I h) λ_ _ z=>z) hw λD C s' H' I' hm c0 le=>⟨λq=>(Bg I2 le).elim λc1 z=>hRR D C s' H' I' q hm c0 c1 z.1 z.2.1 z.2.2,λ_ _ _ z=>z.elim⟩) λ_ _ h=>thn h λ_ _ z=>z.2
def uM(B:BlkOkC X scope ns js)(hc:X.calm=true)(hi:PI X tg iter wi)
  (hg:∀C cl s₀ H₀ fp,PG (aF X scope ns C cl s₀ H₀ fp) tg g) (ht:∀C cl s₀ H₀ fp,PTs (aF X scope ns C cl s₀ H₀ fp) ifs tt) (he:∀C cl s₀ H₀ fp,PE (aF X scope ns C cl s₀ H₀ fp) elt te)
  (hs:∀x,foldedSetIterable iter X.env x=pure x:=by intro _;rfl):PE X (.ListComp elt [⟨tg,iter,ifs,0⟩] scope pos) (tLC wi g tt te js):=by
 intro ρ s σ H Q I h;rw[eval_ListComp];have hclos:=gW (scope:=scope) (env:=X.env) (λy hy hk=>I.ok.has y.1 (B.free y hy hk));refine wpAny_comprehension_free (use:=none) rfl hs hclos B.kind B.names (thn (hi ρ s σ H _ I h) λv s1 h1=>thn h1 λitv s2 h2=>?_);obtain⟨it,fp,tn,J,H2,e,I2,T,st2,f2,hw⟩:=h2;subst e;refine pK (RR:=λacc C=>compPost (model X.prog X.w) X.A X.xe none (EP X ρ σ Q) acc C) B hc I2 T st2 f2 hg ht he hw ?_;intro D C s' H' I' q hm c0 c1 c2 c3 c4;obtain⟨m,hn⟩:=hm;exact⟨m,hn,λh' hs'=>⟨.ref D,H',I'.turned (t':=s'.toks) (λb o hb e=>(hs'.2 b hb).trans e) c0 c1 (.inr c2) c3 c4,rfl,q⟩⟩
def uI(hN:X.N.Nodup)(hi':X.N[i]?=some x)(hx:X.env.scope.names.lookup x=some .local)(B:BlkOkC X scope ns js)(hc:X.calm=true)(hi:PI X tg iter wi)
  (hg:∀C cl s₀ H₀ fp,PG (aF X scope ns C cl s₀ H₀ fp) tg g) (ht:∀C cl s₀ H₀ fp,PTs (aF X scope ns C cl s₀ H₀ fp) ifs tt) (he:∀C cl s₀ H₀ fp,PE (aF X scope ns C cl s₀ H₀ fp) elt te)
  (hsw:swapsWith (.ListComp elt [⟨tg,iter,ifs,0⟩] scope pos) (some (.Name x pos')) ζ.line X.env=pure true:=by rfl)
  (hs:∀x,foldedSetIterable iter X.env x=pure x:=by intro _;rfl):PS X (.Assign [.Name x pos'] (.ListComp elt [⟨tg,iter,ifs,0⟩] scope pos) ζ) (lD (tLC wi g tt te js) (mr i)):=by
 intro ρ s σ H D I h;rw[exec_Assign_Name_used _ _ _ _ hsw];have hclos:=gW (scope:=scope) (env:=X.env) (λy hy hk=>I.ok.has y.1 (B.free y hy hk));refine zam (wpAny_standAt (zam ?_));show wpAny _ X.A (do let _ <-comprehension (.ListComp elt [⟨tg,iter,ifs,0⟩] scope pos) scope X.env _ (newList []) false (eval iter X.env) (some (assign (.Name x pos') X.env))) _ _ s;refine zam (wpAny_mono (wpAny_comprehension_free (use:=some (assign (.Name x pos') X.env)) (Q:=λ_ s'=>SP X ρ D .next s') rfl hs hclos B.kind B.names
  (thn (hi ρ s σ H _ I h) λv s1 h1=>thn h1 λitv s2 h2=>?_)) (λ_ s' hq=>zaT (zaT hq)) λ_ _ e=>e)
 obtain⟨it,fp,tn,J,H2,e,I2,T,st2,f2,hw⟩:=h2;subst e;refine pK (RR:=λacc C=>compPost (model X.prog X.w) X.A X.xe (some (assign (.Name x pos') X.env)) (λ_ s'=>SP X ρ D .next s') acc C) B hc I2 T st2 f2 hg ht he hw ?_;intro D' C s' H' I' q hm c0 c1 c2 c3 c4;obtain⟨m,hn⟩:=hm;show wpAny _ X.A (assign (.Name x pos') X.env (.ref D')) _ _ _;refine wpAny_assign_Name (nJ (v:=.ref D') I' hN hi' (.inl hx) rfl (λs4 I4 ⟨a,hsb,ha⟩=>?_) (.inr hx));have ne:C≠a:=by
  rcases ha with z|z
  .rw[z];exact c1
  .exact(c3 x a z).symm
 exact⟨m,hn.sameBut hsb ne,λh' hs'=>⟨_,H',I4.turned (t':=s4.toks) (λb o hb e=>(hs'.2 b hb).trans e) c0 c1 (.inr c2) c3 c4,q⟩⟩
end
mutual
def DV(H:Hp):V->PyData->Prop
 |v,.none=>v=.non
 |v,.bool b=>v=.bl b
 |v,.int i=>v=.int i
 |v,.str x=>v=.str x
 |v,.list ds=>∃a xs,v=.ref a/\H a=some (.lst xs)/\DVs H xs ds
 |v,.tuple ds=>∃a xs,v=.ref a/\H a=some (.tup xs)/\DVs H xs ds
 |_,.dict _=>False
def DVs(H:Hp):List V->List PyData->Prop
 |vs,[]=>vs=[]
 |vs,d::ds=>∃v r,vs=v::r/\DV H v d/\DVs H r ds
end
section
variable{s:Shared}
def sk{vals:Array Value}{y:Value}{R:Value->Shared->Prop}(a1:s.heap.IsTupleIter jt tu n)(a2:s.heap.IsTuple tu vals)(a3:vals[n]?=some y)
  (q:∀g,g.IsTupleIter jt tu (n+1)->Heap.SameBut jt s.heap g->R y { s with heap:=g }):wpAny (model prog w) A (Builtin.SmallTypes.nextOf (.ref jt)) R E s:=by
 obtain⟨ob,b1,b2,b3⟩:=id a1;obtain⟨ot,c1,_,m,c2⟩:=a2;unfold Builtin.SmallTypes.nextOf;refine zam (zbB (name:=Str.ofString "__next__") a1.typeIs F.slot_tuple_iterator_next (wpAny_call_entry F.slot_tuple_iterator_next a1.typeIs F.entry_tuple_iterator_next ?_ (F.args_tuple_iterator_next_1 _)));show wpAny _ _ (field (.ref jt) 0 >>= _) _ _ s;refine zam (wpAny_field b1 b3 (x:=.ref tu) rfl ?_);show wpAny _ _ (if(Value.ref tu==Value.none)=true then _ else _) _ _ s;rw[if_neg (show ¬((Value.ref tu==Value.none)=true)from zbn)];show wpAny _ _ (field (.ref jt) 1 >>= _) _ _ s;refine zam (wpAny_field b1 b3 (x:=.int n 0) rfl ?_);show wpAny _ _ (seqItems? (.ref tu) >>= _) _ _ s;refine zam (wpAny_seqItems c1 c2 ?_);simp only[zaL,a3];refine zam (wpAny_setField b1 b3 (by simp) (zaT ⟨y,rfl,zaT (q _ ?_ (Heap.SameBut.update ..))⟩));refine⟨_,Heap.get?_update_self _ b1 (Obj.isFreed_of_fields (Obj.data_mapFields b3 _)),(Obj.cls_mapFields ..).trans b2,?_⟩;rw[Obj.data_mapFields b3];simp[rawInt]
def nG{vals:Array Value}{R:Value->Shared->Prop}(hh:A.handled=none)(a1:s.heap.IsTupleIter jt tu n)(a2:s.heap.IsTuple tu vals)(a3:vals[n]?=none)
  (q:∀g e,Heap.ExtBut jt s.heap g->(∃o,g.get? e=some o/\o.cls=.type "StopIteration")->E (.ref e) { s with heap:=g }):wpAny (model prog w) A (Builtin.SmallTypes.nextOf (.ref jt)) R E s:=by
 obtain⟨ob,b1,b2,b3⟩:=id a1;obtain⟨ot,c1,_,m,c2⟩:=a2;unfold Builtin.SmallTypes.nextOf;refine zam (zbB (name:=Str.ofString "__next__") a1.typeIs F.slot_tuple_iterator_next (wpAny_call_entry F.slot_tuple_iterator_next a1.typeIs F.entry_tuple_iterator_next ?_ (F.args_tuple_iterator_next_1 _)));show wpAny _ _ (field (.ref jt) 0 >>= _) _ _ s;refine zam (wpAny_field b1 b3 (x:=.ref tu) rfl ?_);show wpAny _ _ (if(Value.ref tu==Value.none)=true then _ else _) _ _ s;rw[if_neg (show ¬((Value.ref tu==Value.none)=true)from zbn)];show wpAny _ _ (field (.ref jt) 1 >>= _) _ _ s;refine zam (wpAny_field b1 b3 (x:=.int n 0) rfl ?_);show wpAny _ _ (seqItems? (.ref tu) >>= _) _ _ s;refine zam (wpAny_seqItems c1 c2 ?_);simp only[zaL,a3];refine zam (wpAny_rule (zam (wpAny_setField b1 b3 (by simp) ?_)));show wpAny _ _ (newExc (.type "StopIteration") [] >>= _) _ _ _;refine zam ?_;simp only[newExc,newTuple];refine zam (wpAny_newObj_type ?_ (by show(0:Nat)<=_;exact zbj _));refine zam (m:=firstArgMember _ _) (wpAny_of_eq (a:=Value.none) (by first|rfl | (simp only[firstArgMember];rfl)) ?_);refine wpAny_newObj_type ?_;simp only[raiseNew];refine zam (wpAny_handled ?_)
 first|rw[show A.in1.handled=none from hh]|rw[hh]
 refine zam (zaT (wpAny_throw ?_));exact q _ _ (((Heap.SameBut.update ..).extBut.push _).push _) ⟨_,zan _ rfl,rfl⟩
def vH(hh:A.handled=none)(jt tu:Addr)(hne:tu≠jt)(vals:Array Value):Draws prog w A jt [jt,tu] vals.size (λi v=>vals[i]?=some v) (λi h=>h.IsTupleIter jt tu i/\h.IsTuple tu vals) where
 live:=λ_ _ st=>let⟨o,ho,_⟩:=st.1;⟨o,ho⟩
 frame:=λ_ _ _ st hk=>⟨st.1.at λo e=>hk jt (by simp) o e,let⟨o,ho,r⟩:=st.2;⟨o,hk tu (by simp) o ho,r⟩⟩
 item:=λi s Q E hi st hQ=>by
  refine sk st.1 st.2 (y:=vals[i]) (by simp[hi]) λg st' sb=>?_;exact hQ _ g s.toks (by simp[hi]) ⟨st',let⟨o,ho,r⟩:=st.2;⟨o,sb.extBut _ _ hne ho,r⟩⟩ sb
 done:=λs Q E st hE=>nG hh st.1 st.2 (by simp) hE
end
def m8(tu:Addr)(vals:Array Value)(n:Nat)(dct:Option Addr)(sl:Array (Option Value)):
  Meets (Builtin.«enumerate.__new__» ⟨[.type "enumerate",.ref tu],[]⟩) (λ_ R s=>s.heap.get? tu=some { cls:=.type "tuple",dict:=dct,data:=.seq vals n,slots:=sl } /\
   R (.ok (.ret (.ref (s.heap.push { cls:=.type "tuple_iterator",data:=.fields #[.ref tu,.int 0 0] }).objs.size)))
    { s with heap:=(s.heap.push { cls:=.type "tuple_iterator",data:=.fields #[.ref tu,.int 0 0] }).push { cls:=.type "enumerate",data:=.fields #[.none,.bool false,.ref s.heap.objs.size,rawInt 0,.none,.none] } }):=
 .of_wp λprog w A R s h=>by
  obtain⟨hp,g,d,tk,os⟩:=s;obtain⟨ht,h⟩:=h;have hsub:=sub_enumerate;have hT:Heap.IsTuple (Shared.heap ⟨hp,g,d,tk,os⟩) tu vals:=⟨_,ht,rfl,n,rfl⟩
  wp_walk using AutoSeq1.wpAny_loadPart' ht
  refine wpAny_stack_any λst=>zaT ?_;split
  .rename_i c _ _ _ _ _;cases(c==Value.type "enumerate")
   .wp_walk using AutoSeq1.wpAny_loadPart' ht,wpAny_pyIter_tuple hT
    exact⟨_,rfl,h⟩
   .wp_walk using AutoSeq1.wpAny_loadPart' ht,wpAny_pyIter_tuple hT
    exact⟨_,rfl,h⟩
  .wp_walk using AutoSeq1.wpAny_loadPart' ht,wpAny_pyIter_tuple hT
   exact⟨_,rfl,h⟩
section
variable{s:Shared}
def oA{vals:Array Value}{Q:Value->Shared->Prop}(hT:s.heap.IsTuple tu vals)
  (h:∀g,IsEnum g (s.heap.objs.size+1) s.heap.objs.size 0 .none->g.IsTupleIter s.heap.objs.size tu 0->g.objs.size=s.heap.objs.size+2 ->
   (∀b o,s.heap.get? b=some o->g.get? b=some o)->Q (.ref (s.heap.objs.size+1)) { s with heap:=g }):
  wpAny (model prog w) A (call (.type "enumerate") [.ref tu]) Q E s:=by
 obtain⟨⟨c,dct,dt,sl⟩,hl,hc,n,hd⟩:=hT;have hc':c=.type "tuple":=hc;have hd':dt=.seq vals n:=hd;subst hc' hd';refine callType_new F.called_enumerate (by decide) (F.typeCall_enumerate_1 _) (F.newCall_enumerate_1 _) (λob=>F.args_object_init_2 ob _) F.entry_enumerate_new (m8 tu vals n dct sl) ⟨hl,?_⟩;have sz1:(s.heap.push { cls:=.type "tuple_iterator",data:=.fields #[.ref tu,.int 0 0] }).objs.size=s.heap.objs.size+1:=zbv ..;show _/\_;rw[sz1];have g2:=zan (s.heap.push { cls:=.type "tuple_iterator",data:=.fields #[.ref tu,.int 0 0] }) (o:={ cls:=.type "enumerate",data:=.fields #[.none,.bool false,.ref s.heap.objs.size,rawInt 0,.none,.none] }) rfl;rw[sz1]at g2;refine⟨⟨_,g2,rfl⟩,h _ g2 ⟨_,zaf _ (zan _ rfl),rfl,rfl⟩ (by rw[zbv,sz1]) λb o x=>zaf _ (zaf _ x)⟩
def vG{e it:Addr}{i:Int}{vals:Array Value}{old:Value}{Q:Option Value->Shared->Prop}(hh:A.handled=none)(he:IsEnum s.heap e it i old)(a1:s.heap.IsTupleIter it tu n)(a2:s.heap.IsTuple tu vals)(a3:vals[n]?=none)
  (q:∀g,Heap.ExtBut it s.heap g->Q none { s with heap:=g }):wpAny (model prog w) A (pyNext (.ref e)) Q E s:=by
 have ty:s.TypeIs (.ref e) "enumerate":=⟨_,he,rfl⟩;unfold pyNext;refine zam (wpAny_attempt (zbB (name:=Str.ofString "__next__") ty F.slot_enumerate_next (wpAny_call_entry F.slot_enumerate_next ty F.entry_enumerate_next ?_ (F.args_enumerate_next_1 _))));show wpAny _ _ (field (.ref e) 2 >>= _) _ _ _;refine zam (wpAny_field he rfl (x:=.ref it) rfl ?_);refine zam (nG hh a1 a2 a3 λg x k hx=>?_);obtain⟨o,ho,hc⟩:=hx;exact zam (wpAny_isInstance (T:="StopIteration") (b:=true) ⟨o,ho,hc⟩ isSubtype_stop (zaT (q _ k)))
end
def ItT(K:zbV)(a:Addr):It:=
 ⟨λi H=>∃xs x,SqT K H a xs/\xs[i]?=some x,
  λi H y H'=>∃p x,y=.ref p/\H p=none/\H'=upd H p (.tup [.int i,x])/\∀xs,SqT K H a xs->xs[i]?=some x,
  λi H=>∃xs,SqT K H a xs/\xs.length<=i⟩
def sj(a e it:Addr)(hei:e≠it)(hai:a≠it):
  Turn P w K (.Tuple elts k tp) (ItT K a) [e,it] e (λi h=>(∃old,IsEnum h e it i old)/\h.IsTupleIter it a i) where
 mem:=by simp
 obj:=λi h st b hb=>by
  obtain⟨⟨old,he⟩,o,ho,hc,hd⟩:=st;have hb':b=e\/b=it:=by simpa using hb
  rcases hb' with rfl|rfl
  .exact⟨_,he,λv z=>by
    have z':Data.fields _=Data.cell v:=z;cases z'⟩
  .exact⟨o,ho,λv z=>by rw[hd]at z;cases z⟩
 keep:=λi h h' st kp=>⟨let⟨old,he⟩:=st.1;⟨old,kp e (by simp) _ he⟩,st.2.at λo q=>kp it (by simp) o q⟩
 item:=by
  intro X hP hw hK hc i ρ s σ H E I hf st hg;subst hP hw hK;obtain⟨xs,x,hq,hx⟩:=hg;obtain⟨its,rv,pt,hz⟩:=I.tuple hq;obtain⟨u,hu,ru⟩:=rv.get hx;obtain⟨⟨old,he⟩,hit⟩:=st;have hT:s.heap.IsTuple a its.toArray:=pt;have hea:e≠a:=λz=>by
   subst z;obtain⟨o,e1,e2,_⟩:=id hT;have he':s.heap.get? e=some _:=he;rw[e1]at he';cases he';simp at e2
  have hu':its.toArray[i]?=some u:=by simpa using hu
  have hlt:i<its.toArray.size:=(Array.getElem?_eq_some_iff.mp hu').1;refine wpAny_pyNext_enum_itemD (vH (A:=X.A.in1) (show X.A.in1.handled=none from I.ok.hd hc) it a hai its.toArray) he ⟨hit,hT⟩ hlt hei (by simp[hei,hea]) λy h1 tk hy ho1 st1 ht1 hz1 hk1=>?_;rw[hu']at hy;cases hy;refine⟨_,rfl,wpAny_letOwnedTupleGo_enum ho1 λh2 he2 hs2=>?_⟩;have eL:e<s.heap.objs.size:=zal he;have ht2:h2.get? s.heap.objs.size=some { cls:=.type "tuple",data:=.seq #[.int i tk,u] }:=(hs2.2 _ (Nat.ne_of_gt eL)).trans ht1;have hit2:h2.IsTupleIter it a (i+1):=st1.1.at λo q=>hs2.extBut _ _ hei.symm q;have I2:Inv X ρ σ (upd H s.heap.objs.size (.tup [.int i,x])) { s with heap:=h2,toks:=tk+1 }:=by
   refine I.turnedLaid (fp:=[e,it]) hf (zav _) (λb ob hb q=>?_) (λb hb=>?_) ?_
   .have h1:b≠e:=λz=>hb (by simp[z]);have h2':b≠it:=λz=>hb (by simp[z]);exact(hs2.2 b h1).trans (hk1 b ob h1 h2' q)
   .have hb':b=e\/b=it:=by simpa using hb
    rcases hb' with rfl|rfl
    .exact⟨_,he2⟩
    .obtain⟨o,ho,_⟩:=hit2;exact⟨o,ho⟩
   .refine⟨(by show 2<=sizeLine;decide),[.int i tk,u],.cons ⟨_,rfl⟩ (.cons ru .nil),?_⟩;exact⟨_,ht2,rfl,_,rfl,rfl⟩
  have fr:∀b∈[e,it],upd H s.heap.objs.size (.tup [.int i,x]) b=none:=λb hb=>by
   have hlt:b<s.heap.objs.size:=by
    have hb':b=e\/b=it:=by simpa using hb
    rcases hb' with rfl|rfl
    .exact eL
    .obtain⟨o,ho,_⟩:=hit;exact zal ho
   rw[au (zaw hlt)];exact(hf b hb).1
  exact⟨.ref s.heap.objs.size,_,I2,rfl,⟨_,x,rfl,I.fresh,rfl,λys hy=>by rw[I.tuple_inj hy hq];exact hx⟩,⟨⟨_,he2⟩,hit2⟩,fr⟩
 done:=by
  intro X hP hw hK hc i ρ s σ H E I hf st hg;subst hP hw hK;obtain⟨xs,hq,hx⟩:=hg;obtain⟨its,rv,pt,hz⟩:=I.tuple hq;obtain⟨⟨old,he⟩,hit⟩:=st;obtain⟨f0,f1,f2,f3,f4,f5⟩:=hf it (by simp);have hl:=rv.length;have hT:s.heap.IsTuple a its.toArray:=pt;exact vG (I.ok.hd hc) he hit hT (by simp;lia) λh' eb=>⟨rfl,I.turned (t':=s.toks) (λb o hb q=>eb b o hb q) f0 f1 f3 f4 f5⟩
 self:=λ_ _ _ _ _ st h=>let⟨⟨_,he⟩,_⟩:=st;wpAny_pyIter_enum he h
section
open PySem.SeqAt
end
def Rp(H:Hp)(v:V)(txt:Str):Prop:=(∃d,DV H v d/\d.showable=true/\d.depth<=60/\d.shown.length<=sizeLine/\txt=d.shown)\/∃a,v=.ref a/\Rd H a (.dK [])/\txt=("{}":Str)
abbrev D:=PyData
variable{t t1 t2:D}{ks:List (D×D)}{g g':D->D->Option D}{ts us:List D}
abbrev En:=List (Option D)
variable{en en' en1 en2:En}
abbrev AS:=Addr->Prop
variable{R R' R1:Nat->AS}{O O' G F2 Ox Ox' F1 F0 F' O1:AS}
noncomputable def dn:Nat->Nat
 |0=>0
 |1=>0
 |2=>1
 |n+3=>n+3
def B3:∀{a b:Nat},a<=b->dn a<=dn b
 |0,_,_=>zbj _
 |1,_,_=>zbj _
 |2,2,_=>zav _
 |2,b+3,_=>by show 1<=b+3;lia
 |a+3,b+3,h=>h
 |a+3,0,h=>by lia
 |a+3,1,h=>by lia
 |a+3,2,h=>by lia
 |2,0,h=>by lia
 |2,1,h=>by lia
noncomputable def kD:Key->D
 |.inl i=>.int i
 |.inr x=>.str x
def FzL(K:zbV)(O:AS)(H:Hp)(a:Addr)(vs:List V):Prop:=(Rd H a (.lst vs)/\¬O a)\/∀H',SqL K H' a vs
def FzT(K:zbV)(O:AS)(H:Hp)(a:Addr)(vs:List V):Prop:=H a=some (.tup vs)/\¬O a
def FzL.sq(h:FzL K O H a vs):SqL K H a vs:=h.elim (λh=>.inl h.1) λh=>h H
def FzT.sq(h:FzT K O H a vs):SqT K H a vs:=SqT.of h.1
def FF(a C:Addr):Heap->Prop:=λh=>∃o,h.get? a=some o/\o.cls=.ref C/\∀c,o.data≠.cls c
def oD:Option Key->D
 |none=>.none
 |some k=>kD k
noncomputable def scaD:D->Bool
 |.none=>true
 |.bool _=>true
 |.int _=>true
 |.str _=>true
 |_=>false
noncomputable def dV:D->V
 |.bool b=>.bl b
 |.int i=>.int i
 |.str x=>.str x
 |_=>.non
abbrev TKs:=List (List (Option Key)×D)
def tkD(q:List (Option Key)×D):D×D:=(.tuple (q.1.map oD),q.2)
def tkL(kvs:TKs):List (D×D):=(.none,.none)::kvs.map tkD
def tkV(q:List (Option Key)×D):List (Option Key)×V:=(q.1,dV q.2)
def PrD(O:AS)(H:Hp)(rd:HO->Prop)(ks:List (D×D)):Prop:=∃(kvs:TKs) (ad:Addr->Prop),(kvs.all λq=>scaD q.2)=true/\ks=tkL kvs/\rd (.dT (kvs.map tkV) ad)/\∀b,ad b->¬O b/\∃vs,H b=some (.tup vs)
def Gg(H:Hp)(a:Addr):Prop:=∃(o:Obj) (fd:FuncData),H a=some (.frz o (.own a))/\o.data=.func fd
noncomputable def fnK(a:Addr):List (D×D):=[(.none,.int (a:Int))]
def TupD(K:zbV)(H:Hp)(O:AS)(ks:List (D×D))(a:Addr):Prop:=(PrD O H (Rd H a) ks/\¬O a) \/
 (∃(x:Str) (C:Addr),ks=[(.none,.str x)]/\PySem.W.nsIn K mainGlobals x=some (some (.ref C))/\H a=some (.ext (FF a C))/\¬O a)\/(ks=fnK a/\Gg H a/\¬O a)
def PrD.to(h:PrD O H rd ks)(k0:∀kvs ad,rd (.dT kvs ad)->rd' (.dT kvs ad))(k:∀b o,H b=some o->¬O b->H' b=some o/\¬O' b):PrD O' H' rd' ks:=by
 obtain⟨kvs,ad,h2,h3,h4,h5⟩:=h;refine⟨kvs,ad,h2,h3,k0 _ _ h4,λb z=>?_⟩;obtain⟨g1,vs,g2⟩:=h5 b z;exact⟨(k b _ g2 g1).2,vs,(k b _ g2 g1).1⟩
def PrD.toT(h:PrD O H rd ks)(k0:∀kvs ad,rd (.dT kvs ad)->rd' (.dT kvs ad))(k:∀b vs,H b=some (.tup vs)->H' b=some (.tup vs)):PrD O H' rd' ks:=by
 obtain⟨kvs,ad,h2,h3,h4,h5⟩:=h;exact⟨kvs,ad,h2,h3,k0 _ _ h4,λb z=>⟨(h5 b z).1,(h5 b z).2.imp λvs q=>k b vs q⟩⟩
def TupD.to{K:zbV}{H H':Hp}{O O':AS}{ks:List (D×D)}{a:Addr}(h:TupD K H O ks a)(k:∀b o,H b=some o->¬O b->H' b=some o/\¬O' b):TupD K H' O' ks a:=by
 rcases h with⟨h2,h3⟩|⟨x,C,h1,h0,h2,h3⟩|⟨h1,⟨o,fd,h2,h0⟩,h3⟩
 .refine .inl ⟨h2.to (λkvs ad r=>?_) k,?_⟩
  .rcases r with r|⟨o,r⟩
   .exact .inl (k a _ r h3).1
   .exact .inr ⟨o,(k a _ r h3).1⟩
  .obtain⟨_,_,_,_,r,_⟩:=h2;rcases r with r|⟨o,r⟩<;>exact(k a _ r h3).2
 .obtain⟨g1,g2⟩:=k a _ h2 h3;exact .inr (.inl ⟨x,C,h1,h0,g1,g2⟩)
 .obtain⟨g1,g2⟩:=k a _ h2 h3;exact .inr (.inr ⟨h1,⟨o,fd,g1,h0⟩,g2⟩)
def Le4(a b:Nat):Prop:=a<=b/\(b=4->a=0\/a=4)
instance (a b:Nat):Decidable (Le4 a b):=inferInstanceAs (Decidable (_/\_))
def Le4.refl(a:Nat):Le4 a a:=⟨zav _,.inr⟩
def Le4.zero(a:Nat):Le4 0 a:=⟨zbj _,λ_=>.inl rfl⟩
theorem Le4.dn{a b:Nat}(h:Le4 a b):Le4 (L2.dn a) (L2.dn b):=⟨B3 h.1,λe=>by
 have:b=4:=by
  match b,e with
  |0,e=>cases e
  |1,e=>cases e
  |2,e=>cases e
  |n+3,e=>exact e
 exact(h.2 this).imp (λz=>by rw[z];rfl) λz=>by rw[z];rfl⟩
inductive Ow0(Z:Prop)(S:Nat->List V->AS->Prop)(d:Nat)(vs:List V)(F:AS):Prop
 |mk (h:d=0) (z:Z) (s:S 0 vs F)
inductive Ow1{α:Type}(E:Prop)(S:Nat->List α->AS->Prop)(d:Nat)(vs:List α)(a:Addr)(F:AS):Prop
 |mk (h:d≠0) (e:E) (f:F a) (F':AS) (g:∀b,F' b->F b/\b≠a) (s:S (dn d) vs F')
inductive OwC(H:Hp)(u:List V->HO)(Z:Addr->List V->Prop)(S:Nat->List V->AS->Prop)(d:Nat)(v:V)(F:AS):Prop
 |mk (a:Addr) (vs:List V) (e:v=.ref a) (q:Ow0 (Z a vs) S d vs F\/Ow1 (H a=some (u vs)) S d vs a F)
inductive OwD0(Z:Prop)(O:AS)(a:Addr)(S:Prop)(d:Nat):Prop
 |mk (h:d=0) (z:Z) (n:¬O a) (s:S)
inductive OwDi(K:zbV)(O:AS)(H:Hp)(ks:List (D×D))(S:Nat->List (Key×V)->AS->Prop)(d:Nat)(v:V)(F:AS):Prop
 |mk (a:Addr) (vs:List (Key×V)) (e:v=.ref a) (q:OwD0 (Rd H a (.dK vs)) O a (S 0 vs F) d\/Ow1 (H a=some (.dK vs)) S d vs a F\/(d=0/\TupD K H O ks a)\/(d=4/\F a/\PrD O H (λu=>H a=some u) ks))
inductive OwsC(A:V->AS->Prop)(B:List V->AS->Prop)(vs:List V)(F:AS):Prop
 |mk (v:V) (r:List V) (F1 F2:AS) (e:vs=v::r) (h1:∀b,F1 b->F b) (h2:∀b,F2 b->F b) (h3:∀b,F1 b->¬F2 b) (x:A v F1) (y:B r F2)
inductive OwdC(k:D)(A:V->AS->Prop)(B:List (Key×V)->AS->Prop)(vs:List (Key×V))(F:AS):Prop
 |mk (q:Key) (v:V) (r:List (Key×V)) (F1 F2:AS) (e:vs=(q,v)::r) (e2:k=kD q) (h1:∀b,F1 b->F b) (h2:∀b,F2 b->F b) (h3:∀b,F1 b->¬F2 b) (x:A v F1) (y:B r F2)
mutual
def Ow(K:zbV)(O:AS)(H:Hp):D->Nat->V->AS->Prop
 |.none,_,v,_=>v=.non
 |.bool b,_,v,_=>v=.bl b
 |.int i,_,v,_=>v=.int i
 |.str x,_,v,_=>v=.str x
 |.tuple ts,d,v,F=>OwC H .tup (FzT K O H) (Ows K O H ts) d v F
 |.list ts,d,v,F=>OwC H .lst (FzL K O H) (Ows K O H ts) d v F
 |.dict ks,d,v,F=>OwDi K O H ks (Owd K O H ks) d v F
def Ows(K:zbV)(O:AS)(H:Hp):List D->Nat->List V->AS->Prop
 |[],_,vs,_=>vs=[]
 |t::ts,d,vs,F=>OwsC (Ow K O H t d) (Ows K O H ts d) vs F
def Owd(K:zbV)(O:AS)(H:Hp):List (D×D)->Nat->List (Key×V)->AS->Prop
 |[],_,vs,_=>vs=[]
 | (k,t)::ts,d,vs,F=>OwdC k (Ow K O H t d) (Owd K O H ts d) vs F
end
def Rd.mv{u:HO}(hk:∀o,H a=some o->H' a=some o)(h:Rd H a u):Rd H' a u:=by
 rcases h with h|⟨o,h⟩
 .exact .inl (hk _ h)
 .exact .inr ⟨o,hk _ h⟩
def Rd.there{u:HO}(h:Rd H a u):H a≠none:=by
 rcases h with h|⟨o,h⟩<;>rw[h]<;>exact λz=>nomatch z
structure Mv(O O':AS)(G:AS)(H H':Hp):Prop where
 k:∀a o,H a=some o->(¬O a\/G a)->H' a=some o
 o:∀a,O' a->O a\/H a=none
def FzL.mv{G:AS}{a:Addr}{vs:List V}(m:Mv O O' G H H')(h:FzL K O H a vs):FzL K O' H' a vs:=by
 rcases h with⟨h,n⟩|h
 .refine .inl ⟨h.mv λo e=>m.k _ _ e (.inl n),λz=>?_⟩;rcases m.o _ z with z|z
  .exact n z
  .exact h.there z
 .exact .inr h
def FzT.mv(m:Mv O O' G H H')(h:FzT K O H a vs):FzT K O' H' a vs:=by
 obtain⟨h,n⟩:=h;refine⟨m.k _ _ h (.inl n),λz=>?_⟩;rcases m.o _ z with z|z
 .exact n z
 .rw[h]at z;cases z
mutual
theorem Ow.mv{G:AS}(m:Mv O O' G H H'):∀(t:D) {d:Nat} {v:V} {F:AS},(∀b,F b->G b)->Ow K O H t d v F->Ow K O' H' t d v F
 |.none,_,_,_,_,h=>h
 |.bool _,_,_,_,_,h=>h
 |.int _,_,_,_,_,h=>h
 |.str _,_,_,_,_,h=>h
 |.tuple ts,_,_,_,g,h=>by
  obtain⟨a,vs,e,⟨h0,h1,h2⟩|⟨h0,h1,h2,F',hf,h3⟩⟩:=h
  .exact⟨a,vs,e,.inl ⟨h0,h1.mv m,Ows.mv m ts g h2⟩⟩
  .exact⟨a,vs,e,.inr ⟨h0,m.k _ _ h1 (.inr (g _ h2)),h2,F',hf,Ows.mv m ts (λb hb=>g _ (hf b hb).1) h3⟩⟩
 |.list ts,_,_,_,g,h=>by
  obtain⟨a,vs,e,⟨h0,h1,h2⟩|⟨h0,h1,h2,F',hf,h3⟩⟩:=h
  .exact⟨a,vs,e,.inl ⟨h0,h1.mv m,Ows.mv m ts g h2⟩⟩
  .exact⟨a,vs,e,.inr ⟨h0,m.k _ _ h1 (.inr (g _ h2)),h2,F',hf,Ows.mv m ts (λb hb=>g _ (hf b hb).1) h3⟩⟩
 |.dict ks,_,_,_,g,h=>by
  obtain⟨a,vs,e,⟨h0,h1,hn,h2⟩|⟨h0,h1,h2,F',hf,h3⟩|⟨h0,ht⟩|⟨h0,h1,hp⟩⟩:=h
  .refine⟨a,vs,e,.inl ⟨h0,h1.mv λo e=>m.k _ _ e (.inl hn),λz=>?_,Owd.mv m ks g h2⟩⟩;rcases m.o _ z with z|z
   .exact hn z
   .exact h1.there z
  .exact⟨a,vs,e,.inr (.inl ⟨h0,m.k _ _ h1 (.inr (g _ h2)),h2,F',hf,Owd.mv m ks (λb hb=>g _ (hf b hb).1) h3⟩)⟩
  .refine⟨a,vs,e,.inr (.inr (.inl ⟨h0,ht.to λb o h2 hn=>⟨m.k _ _ h2 (.inl hn),λz=>?_⟩⟩))⟩;rcases m.o _ z with z|z
   .exact hn z
   .rw[h2]at z;cases z
  .refine⟨a,vs,e,.inr (.inr (.inr ⟨h0,h1,hp.to (λ_ _ q=>m.k _ _ q (.inr (g _ h1))) λb o h2 hn=>⟨m.k _ _ h2 (.inl hn),λz=>?_⟩⟩))⟩;rcases m.o _ z with z|z
   .exact hn z
   .rw[h2]at z;cases z
theorem Ows.mv{G:AS}(m:Mv O O' G H H'):∀(ts:List D) {d:Nat} {vs:List V} {F:AS},(∀b,F b->G b)->Ows K O H ts d vs F->Ows K O' H' ts d vs F
 |[],_,_,_,_,h=>h
 |t::ts,_,_,_,g,h=>by
  obtain⟨v,r,F1,F2,e,h1,h2,h3,h4,h5⟩:=h;exact⟨v,r,F1,F2,e,h1,h2,h3,Ow.mv m t (λb hb=>g _ (h1 b hb)) h4,Ows.mv m ts (λb hb=>g _ (h2 b hb)) h5⟩
theorem Owd.mv{G:AS}(m:Mv O O' G H H'):∀(ts:List (D×D)) {d:Nat} {vs:List (Key×V)} {F:AS},(∀b,F b->G b)->Owd K O H ts d vs F->Owd K O' H' ts d vs F
 |[],_,_,_,_,h=>h
 | (k,t)::ts,_,_,_,g,h=>by
  obtain⟨q,v,r,F1,F2,e,e2,h1,h2,h3,h4,h5⟩:=h;exact⟨q,v,r,F1,F2,e,e2,h1,h2,h3,Ow.mv m t (λb hb=>g _ (h1 b hb)) h4,Owd.mv m ts (λb hb=>g _ (h2 b hb)) h5⟩
end
def FzL.sub(ho:∀a,O' a->O a)(h:FzL K O H a vs):FzL K O' H a vs:=h.imp (λh=>⟨h.1,λz=>h.2 (ho _ z)⟩) id
def FzT.sub(ho:∀a,O' a->O a)(h:FzT K O H a vs):FzT K O' H a vs:=⟨h.1,λz=>h.2 (ho _ z)⟩
mutual
theorem Ow.cut:∀(t:D) {d d':Nat} {v:V} {F:AS},Le4 d' d->Ow K O H t d v F->∃F':AS,(∀b,F' b->F b)/\∀O':AS,(∀a,O' a->O a)->(∀a,F a->O' a->F' a)->Ow K O' H t d' v F'
 |.none,_,_,_,F,_,h=>⟨F,λ_ z=>z,λ_ _ _=>h⟩
 |.bool _,_,_,_,F,_,h=>⟨F,λ_ z=>z,λ_ _ _=>h⟩
 |.int _,_,_,_,F,_,h=>⟨F,λ_ z=>z,λ_ _ _=>h⟩
 |.str _,_,_,_,F,_,h=>⟨F,λ_ z=>z,λ_ _ _=>h⟩
 |.tuple ts,d,d',_,F,hd,h=>by
  obtain⟨a,vs,e,⟨h0,h1,h2⟩|⟨h0,h1,h2,G,hg,h3⟩⟩:=h
  .subst h0;have e0:d'=0:=Nat.le_zero.mp hd.1;subst e0;obtain⟨F',s1,s2⟩:=Ows.cut ts (.refl _) h2;exact⟨F',s1,λO' ho hx=>⟨a,vs,e,.inl ⟨rfl,h1.sub ho,s2 O' ho hx⟩⟩⟩
  .by_cases e0:d'=0
   .subst e0;obtain⟨F',s1,s2⟩:=Ows.cut ts (.zero _) h3;refine⟨F',λb hb=>(hg _ (s1 b hb)).1,λO' ho hx=>⟨a,vs,e,.inl ⟨rfl,⟨h1,λz=>(hg _ (s1 _ (hx _ h2 z))).2 rfl⟩,s2 O' ho λb hb=>hx b (hg b hb).1⟩⟩⟩
   .obtain⟨F',s1,s2⟩:=Ows.cut ts hd.dn h3;refine⟨λb=>b=a\/F' b,λb hb=>hb.elim (λz=>z▸h2) λz=>(hg _ (s1 b z)).1,λO' ho hx=>⟨a,vs,e,.inr ⟨e0,h1,.inl rfl,F',λb hb=>⟨.inr hb,(hg _ (s1 b hb)).2⟩,s2 O' ho λb hb hz=>?_⟩⟩⟩;exact(hx b (hg b hb).1 hz).elim (λz=>absurd z (hg b hb).2) id
 |.list ts,d,d',_,F,hd,h=>by
  obtain⟨a,vs,e,⟨h0,h1,h2⟩|⟨h0,h1,h2,G,hg,h3⟩⟩:=h
  .subst h0;have e0:d'=0:=Nat.le_zero.mp hd.1;subst e0;obtain⟨F',s1,s2⟩:=Ows.cut ts (.refl _) h2;exact⟨F',s1,λO' ho hx=>⟨a,vs,e,.inl ⟨rfl,h1.sub ho,s2 O' ho hx⟩⟩⟩
  .by_cases e0:d'=0
   .subst e0;obtain⟨F',s1,s2⟩:=Ows.cut ts (.zero _) h3;refine⟨F',λb hb=>(hg _ (s1 b hb)).1,λO' ho hx=>⟨a,vs,e,.inl ⟨rfl,.inl ⟨.inl h1,λz=>(hg _ (s1 _ (hx _ h2 z))).2 rfl⟩,s2 O' ho λb hb=>hx b (hg b hb).1⟩⟩⟩
   .obtain⟨F',s1,s2⟩:=Ows.cut ts hd.dn h3;refine⟨λb=>b=a\/F' b,λb hb=>hb.elim (λz=>z▸h2) λz=>(hg _ (s1 b z)).1,λO' ho hx=>⟨a,vs,e,.inr ⟨e0,h1,.inl rfl,F',λb hb=>⟨.inr hb,(hg _ (s1 b hb)).2⟩,s2 O' ho λb hb hz=>?_⟩⟩⟩;exact(hx b (hg b hb).1 hz).elim (λz=>absurd z (hg b hb).2) id
 |.dict ts,d,d',_,F,hd,h=>by
  obtain⟨a,vs,e,⟨h0,h1,hn,h2⟩|⟨h0,h1,h2,G,hg,h3⟩|⟨h0,ht⟩|⟨h0,h1,hp⟩⟩:=h
  .subst h0;have e0:d'=0:=Nat.le_zero.mp hd.1;subst e0;obtain⟨F',s1,s2⟩:=Owd.cut ts (.refl _) h2;exact⟨F',s1,λO' ho hx=>⟨a,vs,e,.inl ⟨rfl,h1,λz=>hn (ho _ z),s2 O' ho hx⟩⟩⟩
  .by_cases e0:d'=0
   .subst e0;obtain⟨F',s1,s2⟩:=Owd.cut ts (.zero _) h3;refine⟨F',λb hb=>(hg _ (s1 b hb)).1,λO' ho hx=>⟨a,vs,e,.inl ⟨rfl,.inl h1,λz=>(hg _ (s1 _ (hx _ h2 z))).2 rfl,s2 O' ho λb hb=>hx b (hg b hb).1⟩⟩⟩
   .obtain⟨F',s1,s2⟩:=Owd.cut ts hd.dn h3;refine⟨λb=>b=a\/F' b,λb hb=>hb.elim (λz=>z▸h2) λz=>(hg _ (s1 b z)).1,λO' ho hx=>⟨a,vs,e,.inr (.inl ⟨e0,h1,.inl rfl,F',λb hb=>⟨.inr hb,(hg _ (s1 b hb)).2⟩,s2 O' ho λb hb hz=>?_⟩)⟩⟩;exact(hx b (hg b hb).1 hz).elim (λz=>absurd z (hg b hb).2) id
  .subst h0;have e0:d'=0:=Nat.le_zero.mp hd.1;subst e0;exact⟨F,λ_ z=>z,λO' ho hx=>⟨a,vs,e,.inr (.inr (.inl ⟨rfl,ht.to λ_ o h2 hn=>⟨h2,λz=>hn (ho _ z)⟩⟩))⟩⟩
  .rcases hd.2 h0 with e0|e0
   .exact⟨λ_=>False,λ_ z=>z.elim,λO' ho hx=>⟨a,vs,e,.inr (.inr (.inl ⟨e0,.inl ⟨hp.to (λ_ _ q=>.inl q) λ_ o h2 hn=>⟨h2,λz=>hn (ho _ z)⟩,λz=>hx a h1 z⟩⟩))⟩⟩
   .exact⟨F,λ_ z=>z,λO' ho hx=>⟨a,vs,e,.inr (.inr (.inr ⟨e0,h1,hp.to (λ_ _ q=>q) λ_ o h2 hn=>⟨h2,λz=>hn (ho _ z)⟩⟩))⟩⟩
theorem Ows.cut:∀(ts:List D) {d d':Nat} {vs:List V} {F:AS},Le4 d' d->Ows K O H ts d vs F->∃F':AS,(∀b,F' b->F b)/\∀O':AS,(∀a,O' a->O a)->(∀a,F a->O' a->F' a)->Ows K O' H ts d' vs F'
 |[],_,_,_,F,_,h=>⟨F,λ_ z=>z,λ_ _ _=>h⟩
 |t::ts,_,_,_,F,hd,h=>by
  obtain⟨v,r,F1,F2,e,h1,h2,h3,h4,h5⟩:=h;obtain⟨G1,a1,a2⟩:=Ow.cut t hd h4;obtain⟨G2,b1,b2⟩:=Ows.cut ts hd h5;refine⟨λb=>G1 b\/G2 b,λb hb=>hb.elim (λz=>h1 _ (a1 _ z)) λz=>h2 _ (b1 _ z),λO' ho hx=>⟨v,r,G1,G2,e,λb=>.inl,λb=>.inr,λb z1 z2=>h3 b (a1 b z1) (b1 b z2),a2 O' ho λb hb hz=>?_,b2 O' ho λb hb hz=>?_⟩⟩
  .exact(hx b (h1 b hb) hz).elim id λz=>absurd (b1 b z) (h3 b hb)
  .exact(hx b (h2 b hb) hz).elim (λz=>absurd hb (h3 b (a1 b z))) id
theorem Owd.cut:∀(ts:List (D×D)) {d d':Nat} {vs:List (Key×V)} {F:AS},Le4 d' d->Owd K O H ts d vs F->∃F':AS,(∀b,F' b->F b)/\∀O':AS,(∀a,O' a->O a)->(∀a,F a->O' a->F' a)->Owd K O' H ts d' vs F'
 |[],_,_,_,F,_,h=>⟨F,λ_ z=>z,λ_ _ _=>h⟩
 | (k,t)::ts,_,_,_,F,hd,h=>by
  obtain⟨q,v,r,F1,F2,e,e2,h1,h2,h3,h4,h5⟩:=h;obtain⟨G1,a1,a2⟩:=Ow.cut t hd h4;obtain⟨G2,b1,b2⟩:=Owd.cut ts hd h5;refine⟨λb=>G1 b\/G2 b,λb hb=>hb.elim (λz=>h1 _ (a1 _ z)) λz=>h2 _ (b1 _ z),λO' ho hx=>⟨q,v,r,G1,G2,e,e2,λb=>.inl,λb=>.inr,λb z1 z2=>h3 b (a1 b z1) (b1 b z2),a2 O' ho λb hb hz=>?_,b2 O' ho λb hb hz=>?_⟩⟩
  .exact(hx b (h1 b hb) hz).elim id λz=>absurd (b1 b z) (h3 b hb)
  .exact(hx b (h2 b hb) hz).elim (λz=>absurd hb (h3 b (a1 b z))) id
end
mutual
theorem Ow.grow(ho:∀a,O' a->O a):∀(t:D) {d:Nat} {v:V} {F F':AS},(∀b,F b->F' b)->Ow K O H t d v F->Ow K O' H t d v F'
 |.none,_,_,_,_,_,h=>h
 |.bool _,_,_,_,_,_,h=>h
 |.int _,_,_,_,_,_,h=>h
 |.str _,_,_,_,_,_,h=>h
 |.tuple ts,_,_,_,_,hf,h=>by
  obtain⟨a,vs,e,⟨h0,h1,h2⟩|⟨h0,h1,h2,G,hg,h3⟩⟩:=h
  .exact⟨a,vs,e,.inl ⟨h0,h1.sub ho,Ows.grow ho ts hf h2⟩⟩
  .exact⟨a,vs,e,.inr ⟨h0,h1,hf _ h2,G,λb hb=>⟨hf _ (hg b hb).1,(hg b hb).2⟩,Ows.grow ho ts (λ_ z=>z) h3⟩⟩
 |.list ts,_,_,_,_,hf,h=>by
  obtain⟨a,vs,e,⟨h0,h1,h2⟩|⟨h0,h1,h2,G,hg,h3⟩⟩:=h
  .exact⟨a,vs,e,.inl ⟨h0,h1.sub ho,Ows.grow ho ts hf h2⟩⟩
  .exact⟨a,vs,e,.inr ⟨h0,h1,hf _ h2,G,λb hb=>⟨hf _ (hg b hb).1,(hg b hb).2⟩,Ows.grow ho ts (λ_ z=>z) h3⟩⟩
 |.dict ts,_,_,_,_,hf,h=>by
  obtain⟨a,vs,e,⟨h0,h1,hn,h2⟩|⟨h0,h1,h2,G,hg,h3⟩|⟨h0,ht⟩|⟨h0,h1,hp⟩⟩:=h
  .exact⟨a,vs,e,.inl ⟨h0,h1,λz=>hn (ho _ z),Owd.grow ho ts hf h2⟩⟩
  .exact⟨a,vs,e,.inr (.inl ⟨h0,h1,hf _ h2,G,λb hb=>⟨hf _ (hg b hb).1,(hg b hb).2⟩,Owd.grow ho ts (λ_ z=>z) h3⟩)⟩
  .exact⟨a,vs,e,.inr (.inr (.inl ⟨h0,ht.to λ_ o h2 hn=>⟨h2,λz=>hn (ho _ z)⟩⟩))⟩
  .exact⟨a,vs,e,.inr (.inr (.inr ⟨h0,hf _ h1,hp.to (λ_ _ q=>q) λ_ o h2 hn=>⟨h2,λz=>hn (ho _ z)⟩⟩))⟩
theorem Ows.grow(ho:∀a,O' a->O a):∀(ts:List D) {d:Nat} {vs:List V} {F F':AS},(∀b,F b->F' b)->Ows K O H ts d vs F->Ows K O' H ts d vs F'
 |[],_,_,_,_,_,h=>h
 |t::ts,_,_,_,_,hf,h=>by
  obtain⟨v,r,F1,F2,e,h1,h2,h3,h4,h5⟩:=h;exact⟨v,r,F1,F2,e,λb z=>hf _ (h1 b z),λb z=>hf _ (h2 b z),h3,Ow.grow ho t (λ_ z=>z) h4,Ows.grow ho ts (λ_ z=>z) h5⟩
theorem Owd.grow(ho:∀a,O' a->O a):∀(ts:List (D×D)) {d:Nat} {vs:List (Key×V)} {F F':AS},(∀b,F b->F' b)->Owd K O H ts d vs F->Owd K O' H ts d vs F'
 |[],_,_,_,_,_,h=>h
 | (k,t)::ts,_,_,_,_,hf,h=>by
  obtain⟨q,v,r,F1,F2,e,e2,h1,h2,h3,h4,h5⟩:=h;exact⟨q,v,r,F1,F2,e,e2,λb z=>hf _ (h1 b z),λb z=>hf _ (h2 b z),h3,Ow.grow ho t (λ_ z=>z) h4,Owd.grow ho ts (λ_ z=>z) h5⟩
end
mutual
theorem Ow.full:∀(t:D) {v:V} {F:AS},Ow K O H t 3 v F->Ow K O' H t 3 v F
 |.none,_,_,h=>h
 |.bool _,_,_,h=>h
 |.int _,_,_,h=>h
 |.str _,_,_,h=>h
 |.tuple ts,_,_,h=>by
  obtain⟨a,vs,e,⟨h0,h1,h2⟩|⟨h0,h1,h2,G,hg,h3⟩⟩:=h
  .cases h0
  .exact⟨a,vs,e,.inr ⟨h0,h1,h2,G,hg,Ows.full ts h3⟩⟩
 |.list ts,_,_,h=>by
  obtain⟨a,vs,e,⟨h0,h1,h2⟩|⟨h0,h1,h2,G,hg,h3⟩⟩:=h
  .cases h0
  .exact⟨a,vs,e,.inr ⟨h0,h1,h2,G,hg,Ows.full ts h3⟩⟩
 |.dict ts,_,_,h=>by
  obtain⟨a,vs,e,⟨h0,h1,hn,h2⟩|⟨h0,h1,h2,G,hg,h3⟩|⟨h0,_⟩|⟨h0,hp⟩⟩:=h
  .cases h0
  .exact⟨a,vs,e,.inr (.inl ⟨h0,h1,h2,G,hg,Owd.full ts h3⟩)⟩
  .cases h0
  .cases h0
theorem Ows.full:∀(ts:List D) {vs:List V} {F:AS},Ows K O H ts 3 vs F->Ows K O' H ts 3 vs F
 |[],_,_,h=>h
 |t::ts,_,_,h=>by
  obtain⟨v,r,F1,F2,e,h1,h2,h3,h4,h5⟩:=h;exact⟨v,r,F1,F2,e,h1,h2,h3,Ow.full t h4,Ows.full ts h5⟩
theorem Owd.full:∀(ts:List (D×D)) {vs:List (Key×V)} {F:AS},Owd K O H ts 3 vs F->Owd K O' H ts 3 vs F
 |[],_,_,h=>h
 | (k,t)::ts,_,_,h=>by
  obtain⟨q,v,r,F1,F2,e,e2,h1,h2,h3,h4,h5⟩:=h;exact⟨q,v,r,F1,F2,e,e2,h1,h2,h3,Ow.full t h4,Owd.full ts h5⟩
end
mutual
theorem Ow.any0:∀(t:D) {v:V} {F F':AS},Ow K O H t 0 v F->Ow K O H t 0 v F'
 |.none,_,_,_,h=>h
 |.bool _,_,_,_,h=>h
 |.int _,_,_,_,h=>h
 |.str _,_,_,_,h=>h
 |.tuple ts,_,_,_,h=>by
  obtain⟨a,vs,e,⟨h0,h1,h2⟩|⟨h0,_⟩⟩:=h
  .exact⟨a,vs,e,.inl ⟨rfl,h1,Ows.any0 ts h2⟩⟩
  .exact absurd rfl h0
 |.list ts,_,_,_,h=>by
  obtain⟨a,vs,e,⟨h0,h1,h2⟩|⟨h0,_⟩⟩:=h
  .exact⟨a,vs,e,.inl ⟨rfl,h1,Ows.any0 ts h2⟩⟩
  .exact absurd rfl h0
 |.dict ts,_,_,_,h=>by
  obtain⟨a,vs,e,⟨h0,h1,hn,h2⟩|⟨h0,_⟩|⟨_,ht⟩|⟨h0,_⟩⟩:=h
  .exact⟨a,vs,e,.inl ⟨rfl,h1,hn,Owd.any0 ts h2⟩⟩
  .exact absurd rfl h0
  .exact⟨a,vs,e,.inr (.inr (.inl ⟨rfl,ht⟩))⟩
  .cases h0
theorem Ows.any0:∀(ts:List D) {vs:List V} {F F':AS},Ows K O H ts 0 vs F->Ows K O H ts 0 vs F'
 |[],_,_,_,h=>h
 |t::ts,_,_,_,h=>by
  obtain⟨v,r,F1,F2,e,_,_,_,h4,h5⟩:=h;exact⟨v,r,λ_=>False,λ_=>False,e,λ_ z=>z.elim,λ_ z=>z.elim,λ_ z=>z.elim,Ow.any0 t h4,Ows.any0 ts h5⟩
theorem Owd.any0:∀(ts:List (D×D)) {vs:List (Key×V)} {F F':AS},Owd K O H ts 0 vs F->Owd K O H ts 0 vs F'
 |[],_,_,_,h=>h
 | (k,t)::ts,_,_,_,h=>by
  obtain⟨q,v,r,F1,F2,e,e2,_,_,_,h4,h5⟩:=h;exact⟨q,v,r,λ_=>False,λ_=>False,e,e2,λ_ z=>z.elim,λ_ z=>z.elim,λ_ z=>z.elim,Ow.any0 t h4,Owd.any0 ts h5⟩
end
def Ow.fz{F:AS}(ho:∀a,O' a->O a)(hn:∀a,F a->¬O' a)(h:Ow K O H t d v F):Ow K O' H t 0 v F2:=by
 obtain⟨F',s1,s2⟩:=Ow.cut t (.zero d) h;exact Ow.any0 t (s2 O' ho λa z1 z2=>absurd z2 (hn a z1))
noncomputable def U(A B:AS):AS:=λa=>A a\/B a
noncomputable def Own(R:Nat->AS)(Ox:AS):AS:=λa=>(∃i,R i a)\/Ox a
def dv{A B:AS}(h:∀a,A a↔B a):A=B:=funext λa=>propext (h a)
structure EnvOk(K:zbV)(ds:List Nat)(Ox:AS)(H:Hp)(σ:St)(en:En)(R:Nat->AS):Prop where
 at_:∀(i:Nat) (t:D),en[i]?=some (some t)->∃v d,σ[i]?=some (some v)/\ds[i]?=some d/\Ow K (Own R Ox) H t d v (R i)
 dj:∀i j a,R i a->R j a->i=j
 dx:∀i a,R i a->¬Ox a
 dom:∀a,Own R Ox a->∃o,H a=some o
 l1:en.length=σ.length
 l2:ds.length=σ.length
structure Post(K:zbV)(p:Bool)(ds':List Nat)(Ox:AS)(σ:St)(H:Hp)(en:En)(R:Nat->AS)(en':En)(H':Hp)(R':Nat->AS)(F:AS):Prop where
 env:EnvOk K ds' (U F Ox) H' σ en' R'
 fx:∀a,F a->¬Ox a
 keep:∀a o,H a=some o->(∀i,¬R i a)->H' a=some o
 own:∀a,(F a\/∃i,R' i a)->(∃i,R i a)\/H a=none
 dom:∀a o,H a=some o->∃o',H' a=some o'
 pure:p=true->en'=en/\R'=R/\∀a o,H a=some o->H' a=some o
def EnvOk.grow(e:EnvOk K ds Ox H σ en R)(hk:∀a o,H a=some o->H' a=some o){F:AS}(hf:∀a,F a->H a=none/\∃o,H' a=some o):EnvOk K ds (U F Ox) H' σ en R:=by
 have fo:∀a,F a->¬Own R Ox a:=λa z z2=>by
  obtain⟨o,q⟩:=e.dom a z2;rw[(hf a z).1]at q;cases q
 refine⟨λi t h=>?_,e.dj,λi a h z=>?_,λa h=>?_,e.l1,e.l2⟩
 .obtain⟨v,d,h1,h2,h3⟩:=e.at_ i t h;refine⟨v,d,h1,h2,Ow.mv (G:=R i) ⟨λa o q _=>hk a o q,λa z=>?_⟩ t (λ_ z=>z) h3⟩;rcases z with z|z|z
  .exact .inl (.inl z)
  .exact .inr (hf a z).1
  .exact .inl (.inr z)
 .rcases z with z|z
  .exact fo a z (.inl ⟨i,h⟩)
  .exact e.dx i a h z
 .rcases h with h|h|h
  .obtain⟨o,q⟩:=e.dom a (.inl h);exact⟨o,hk a o q⟩
  .exact(hf a h).2
  .obtain⟨o,q⟩:=e.dom a (.inr h);exact⟨o,hk a o q⟩
def EnvOk.fewer(e:EnvOk K ds Ox H σ en R)(h:∀a,Ox' a->Ox a):EnvOk K ds Ox' H σ en R:=by
 refine⟨λi t q=>?_,e.dj,λi a z1 z2=>e.dx i a z1 (h a z2),λa z=>e.dom a (z.imp id (h a)),e.l1,e.l2⟩;obtain⟨v,d,h1,h2,h3⟩:=e.at_ i t q;exact⟨v,d,h1,h2,Ow.grow (λa z=>z.imp id (h a)) t (λ_ z=>z) h3⟩
inductive tF(K:zbV)(p:Bool)(ds ds':List Nat)(d:Nat)(f:En->Option (D×En))(σ:St)(H:Hp)(Q:VK):Prop
 |mk (Ox:AS) (en:En) (R:Nat->AS) (t:PyData) (en':En) (h0:EnvOk K ds Ox H σ en R) (h1:f en=some (t,en')) (h2:∀v H' R' F,Post K p ds' Ox σ H en R en' H' R' F->Ow K (Own R' (U F Ox)) H' t d v F->Q v H')
def kB{a b:Bool}(h:(a&&b)=true):a=true:=by cases a;cases h;rfl
def tR{a b:Bool}(h:(a&&b)=true):b=true:=by cases a;cases h;exact h
def Post.refl(e:EnvOk K ds Ox H σ en R):Post K p ds Ox σ H en R en H R (λ_=>False):=by
 have eq:U (λ_=>False) Ox=Ox:=dv λa=>⟨λz=>z.elim (λz=>z.elim) id,.inr⟩;exact⟨eq.symm▸e,λ_ z=>z.elim,λ_ _ q _=>q,λa z=>z.elim (λz=>z.elim) .inl,λa o q=>⟨o,q⟩,λ_=>⟨rfl,rfl,λ_ _ q=>q⟩⟩
def Post.new(e:EnvOk K ds Ox H σ en R)(hk:∀a o,H a=some o->H' a=some o){F:AS}(hf:∀a,F a->H a=none/\∃o,H' a=some o):Post K p ds Ox σ H en R en H' R F:=by
 refine⟨e.grow hk hf,λa z z2=>?_,λa o q _=>hk a o q,λa z=>z.elim (λz=>.inr (hf a z).1) .inl,λa o q=>⟨o,hk a o q⟩,λ_=>⟨rfl,rfl,hk⟩⟩;obtain⟨o,q⟩:=e.dom a (.inr z2);rw[(hf a z).1]at q;cases q
theorem Post.trans{H1 H2:Hp}{R1 R2:Nat->AS}{F1 F2:AS}(P1:Post K p1 ds1 Ox σ H en R en1 H1 R1 F1)(P2:Post K p2 ds2 (U F1 Ox) σ H1 en1 R1 en2 H2 R2 F2):
  Post K (p1&&p2) ds2 Ox σ H en R en2 H2 R2 (U F1 F2):=by
 have eq:U F2 (U F1 Ox)=U (U F1 F2) Ox:=dv λa=>by unfold U;exact⟨λz=>by rcases z with z|z|z;exact .inl (.inr z);exact .inl (.inl z);exact .inr z,λz=>by rcases z with (z|z)|z;exact .inr (.inl z);exact .inl z;exact .inr (.inr z)⟩
 have n1:∀a,H1 a=none->H a=none:=λa z=>by
  cases q:H a with
  |none=>rfl
  |some o=>
   obtain⟨o',q'⟩:=P1.dom a o q;rw[z]at q';cases q'
 refine⟨eq▸P2.env,λa z z2=>?_,λa o q n=>?_,λa z=>?_,λa o q=>?_,λhp=>?_⟩
 .rcases z with z|z
  .exact P1.fx a z z2
  .exact P2.fx a z (.inr z2)
 .refine P2.keep a o (P1.keep a o q n) λi z=>?_;rcases P1.own a (.inr ⟨i,z⟩)with⟨j,z⟩|z
  .exact n j z
  .rw[q]at z;cases z
 .rcases z with (z|z)|z
  .exact P1.own a (.inl z)
  .rcases P2.own a (.inl z)with z|z
   .exact P1.own a (.inr z)
   .exact .inr (n1 a z)
  .rcases P2.own a (.inr z)with z|z
   .exact P1.own a (.inr z)
   .exact .inr (n1 a z)
 .obtain⟨o',q'⟩:=P1.dom a o q;exact P2.dom a o' q'
 .have h1:p1=true:=kB hp;have h2:p2=true:=tR hp;obtain⟨a1,a2,a3⟩:=P1.pure h1;obtain⟨b1,b2,b3⟩:=P2.pure h2;exact⟨b1.trans a1,b2.trans a2,λa o q=>b3 a o (a3 a o q)⟩
def Ow.over{R2:Nat->AS}(P1:EnvOk K ds1 (U F1 Ox) H1 σ en1 R1)(P2:Post K p2 ds2 (U F1 Ox) σ H1 en1 R1 en2 H2 R2 F2)(h:Ow K (Own R1 (U F1 Ox)) H1 t d v F1):
  Ow K (Own R2 (U (U F1 F2) Ox)) H2 t d v F1:=by
 refine Ow.mv (G:=F1) ⟨λa o q z=>P2.keep a o q λi zi=>?_,λa z=>?_⟩ t (λ_ z=>z) h
 .rcases z with z|z
  .exact z (.inl ⟨i,zi⟩)
  .exact P1.dx i a zi (.inl z)
 .rcases z with z | (z|z)|z
  .rcases P2.own a (.inr z)with z|z
   .exact .inl (.inl z)
   .exact .inr z
  .exact .inl (.inr (.inl z))
  .rcases P2.own a (.inl z)with z|z
   .exact .inl (.inl z)
   .exact .inr z
  .exact .inl (.inr (.inr z))
def mI:U F2 (U F1 Ox)=U (U F1 F2) Ox:=dv λa=>by unfold U;exact⟨λz=>by rcases z with z|z|z;exact .inl (.inr z);exact .inl (.inl z);exact .inr z,λz=>by rcases z with (z|z)|z;exact .inr (.inl z);exact .inl z;exact .inr (.inr z)⟩
def two{f g:En->Option (D×En)}{Q:V->V->Hp->Prop}(e:EnvOk K ds Ox H σ en R)(h1:f en=some (t1,en1))(h2:g en1=some (t2,en2))
  (k:∀x y H2 R2 F1 F2,Post K (p1&&p2) ds2 Ox σ H en R en2 H2 R2 (U F1 F2)->Ow K (Own R2 (U (U F1 F2) Ox)) H2 t1 d1 x F1->Ow K (Own R2 (U (U F1 F2) Ox)) H2 t2 d2 y F2->Q x y H2):
  tF K p1 ds ds1 d1 f σ H λx H1=>tF K p2 ds1 ds2 d2 g σ H1 λy H2=>Q x y H2:=by
 refine⟨Ox,en,R,t1,en1,e,h1,λx H1 R1 F1 P1 o1=>?_⟩;refine⟨U F1 Ox,en1,R1,t2,en2,P1.env,h2,λy H2 R2 F2 P2 o2=>?_⟩;exact k x y H2 R2 F1 F2 (P1.trans P2) (Ow.over P1.env P2 o1) (mI▸o2)
abbrev ME:=En->Option (D×En)
variable{f f1 f2 fk fe:ME}{fs:List (ME×ME)}
abbrev MT:=En->Option (Bool×En)
variable{c1 c2:MT}
abbrev MA:=En->Option (List (D ⊕ Nat)×En)
variable{fa:MA}
noncomputable def ac(i:Nat):ME:=λen=>(en[i]?).join.map λt=>(t,en)
noncomputable def eMv(i:Nat):ME:=λen=>(en[i]?).join.map λt=>(t,en.set i none)
noncomputable def eC(t:D):ME:=λen=>some (t,en)
noncomputable def e1(g:D->Option D)(f:ME):ME:=λen=>(f en).bind λr=>(g r.1).map λt=>(t,r.2)
noncomputable def e2(g:D->D->Option D)(f1 f2:ME):ME:=λen=>(f1 en).bind λr=>(f2 r.2).bind λq=>(g r.1 q.1).map λt=>(t,q.2)
noncomputable def kt(f g:ME):ME:=λen=>(f en).bind λr=>match r.1 with
 |.bool true=>g r.2
 |.bool false=>some (.bool false,r.2)
 |_=>none
noncomputable def eOr(f g:ME):ME:=λen=>(f en).bind λr=>match r.1 with
 |.bool true=>some (.bool true,r.2)
 |.bool false=>g r.2
 |_=>none
noncomputable def km(f:ME):ME:=λen=>(f en).bind λr=>match r.1 with
 |.bool b=>some (.bool (!b),r.2)
 |_=>none
noncomputable def eIf(c:MT)(f g:ME):ME:=λen=>(c en).bind λr=>if r.1 then f r.2 else g r.2
noncomputable def tV(f:ME):MT:=λen=>(f en).bind λr=>match r.1 with
 |.bool b=>some (b,r.2)
 |_=>none
noncomputable def dC(f g:MT):MT:=λen=>(f en).bind λr=>if r.1 then g r.2 else some (false,r.2)
noncomputable def bOr(f g:MT):MT:=λen=>(f en).bind λr=>if r.1 then some (true,r.2)else g r.2
noncomputable def cc(f:MT):MT:=λen=>(f en).map λr=>(!r.1,r.2)
noncomputable def ai:MA:=λen=>some ([],en)
noncomputable def ab(f:ME)(r:MA):MA:=λen=>(f en).bind λx=>(r x.2).map λy=>(.inl x.1::y.1,y.2)
noncomputable def aX(i:Nat)(r:MA):MA:=λen=>(en[i]?).join.bind λ_=>(r en).map λy=>(.inr i::y.1,y.2)
noncomputable def vals:List (D ⊕ Nat)->Option (List D)
 |[]=>some []
 |.inl t::r=>(vals r).map (t::·)
 |.inr _::_=>none
def eN(g:List D->Option D)(fa:MA):ME:=λen=>(fa en).bind λr=>(vals r.1).bind λts=>(g ts).map λt=>(t,r.2)
structure NewTo(H H':Hp)(F:AS):Prop where
 l:∀a o,H a=some o->H' a=some o
 r:∀a,F a->H a=none/\∃o,H' a=some o
noncomputable def NoA:AS:=λ_=>False
def ij{A:AS}:U NoA A=A:=dv λa=>⟨λz=>z.elim (λz=>z.elim) id,.inr⟩
inductive rF2(K:zbV)(g:D->D->Option D)(d:Nat)(x:V)(y:V)(H:Hp)(Q:VK):Prop
 |mk (O:AS) (a b t:D) (h0:Ow K O H a 0 x NoA) (h1:Ow K O H b 0 y NoA) (h2:(∀a,O a->∃o,H a=some o)) (h3:g a b=some t) (h4:∀v H' F,NewTo H H' F->Ow K (U F O) H' t d v F->Q v H')
inductive rFn(K:zbV)(g:List D->Option D)(d:Nat)(xs:List V)(H:Hp)(Q:VK):Prop
 |mk (O:AS) (ts:List D) (t:D) (h0:Ows K O H ts 0 xs NoA) (h1:(∀a,O a->∃o,H a=some o)) (h2:g ts=some t) (h3:∀v H' F,NewTo H H' F->Ow K (U F O) H' t d v F->Q v H')
section
variable{fa fb:ME}
def tW{F:AS}:U F (Own R Ox)=Own R (U F Ox):=dv λa=>by
 unfold U Own;exact⟨λz=>by rcases z with z|z|z;exact .inr (.inl z);exact .inl z;exact .inr (.inr z),λz=>by rcases z with z|z|z;exact .inr (.inl z);exact .inl z;exact .inr (.inr z)⟩
def Post.fin{F:AS}(P:Post K p ds' Ox σ H en R en' H1 R' F0)(n:NewTo H1 H' F):Post K p ds' Ox σ H en R en' H' R' F:=by
 have e:=P.env.fewer (Ox':=Ox) λa z=>.inr z;have n1:∀a,H1 a=none->H a=none:=λa z=>by
  cases q:H a with
  |none=>rfl
  |some o=>
   obtain⟨o',q'⟩:=P.dom a o q;rw[z]at q';cases q'
 refine⟨e.grow n.1 n.2,λa z z2=>?_,λa o q nn=>n.1 a o (P.keep a o q nn),λa z=>?_,λa o q=>?_,λhp=>?_⟩
 .obtain⟨o,q⟩:=e.dom a (.inr z2);rw[(n.2 a z).1]at q;cases q
 .rcases z with z|z
  .exact .inr (n1 a (n.2 a z).1)
  .exact P.own a (.inr z)
 .obtain⟨o',q'⟩:=P.dom a o q;exact⟨o',n.1 a o' q'⟩
 .obtain⟨a1,a2,a3⟩:=P.pure hp;exact⟨a1,a2,λa o q=>n.1 a o (a3 a o q)⟩
def Post.less{F:AS}(P:Post K p ds' Ox σ H en R en' H' R' F)(h:∀a,F' a->F a):Post K p ds' Ox σ H en R en' H' R' F':=
 ⟨P.env.fewer λa z=>z.imp (h a) id,λa z=>P.fx a (h a z),P.keep,λa z=>P.own a (z.imp (h a) id),P.dom,P.pure⟩
def Ow.letgo{F:AS}(P:Post K p ds' Ox σ H en R en' H' R' F0)(hf:∀a,F a->F0 a)(h:Ow K (Own R' (U F0 Ox)) H' t d v F):Ow K (Own R' Ox) H' t 0 v NoA:=by
 refine Ow.fz (λa z=>z.imp id .inr) (λa z z2=>?_) h;rcases z2 with⟨i,z2⟩|z2
 .exact P.env.dx i a z2 (.inl (hf a z))
 .exact P.fx a (hf a z) z2
def Post.doms(P:Post K p ds' Ox σ H en R en' H' R' F0):∀a,Own R' Ox a->∃o,H' a=some o:=λa z=>P.env.dom a (z.imp id .inr)
def AK(hd:ds[i]?=some 0)(h:tF K true ds ds 0 (ac i) σ H Q):fT i σ H Q:=by
 obtain⟨Ox,en,R,t,en',e,hf,k⟩:=h;unfold ac at hf;cases q:en[i]? with
 |none=>rw[q]at hf;cases hf
 |some o=>
  rw[q]at hf;cases o with
  |none=>cases hf
  |some t'=>
   cases hf;obtain⟨v,d,h1,h2,h3⟩:=e.at_ i t q;rw[hd]at h2;cases h2;exact⟨v,h1,k v H R NoA (Post.refl e) (by rw[ij];exact Ow.any0 t h3)⟩
def HD(hd:ds[i]?=some d)(h:tF K false ds (ds.set i 0) d (eMv i) σ H Q):fT i σ H Q:=by
 obtain⟨Ox,en,R,t,en',e,hf,k⟩:=h;unfold eMv at hf;cases q:en[i]? with
 |none=>rw[q]at hf;cases hf
 |some o=>
  rw[q]at hf;cases o with
  |none=>cases hf
  |some t'=>
   cases hf;obtain⟨v,d',h1,h2,h3⟩:=e.at_ i t q;rw[hd]at h2;cases h2;have eq:Own (λj=>if j=i then NoA else R j) (U (R i) Ox)=Own R Ox:=dv λa=>by
    unfold Own U;constructor
    .rintro (⟨j,z⟩|z|z)
     .by_cases hj:j=i
      .rw[if_pos hj]at z;exact z.elim
      .rw[if_neg hj]at z;exact .inl ⟨j,z⟩
     .exact .inl ⟨i,z⟩
     .exact .inr z
    .rintro (⟨j,z⟩|z)
     .by_cases hj:j=i
      .subst hj;exact .inr (.inl z)
      .exact .inl ⟨j,by show(if j=i then NoA else R j) a;rw[if_neg hj];exact z⟩
     .exact .inr (.inr z)
   refine⟨v,h1,k v H (λj=>if j=i then NoA else R j) (R i) ⟨⟨λj u hu=>?_,λj j' a z z'=>?_,λj a z=>?_,λa z=>e.dom a (eq▸z),?_,?_⟩,e.dx i,λa o q _=>q,λa z=>?_,λa o q=>⟨o,q⟩,λz=>nomatch z⟩ (eq.symm▸h3)⟩
   .by_cases hj:j=i
    .subst hj;rw[List.getElem?_set_self' ]at hu;rw[q]at hu;cases hu
    .rw[zaO (Ne.symm hj)]at hu;obtain⟨v',d',a1,a2,a3⟩:=e.at_ j u hu;refine⟨v',d',a1,by rw[zaO (Ne.symm hj)];exact a2,?_⟩;rw[if_neg hj,eq];exact a3
   .by_cases hj:j=i
    .rw[if_pos hj]at z;exact z.elim
    .rw[if_neg hj]at z;by_cases hj':j'=i
     .rw[if_pos hj']at z';exact z'.elim
     .rw[if_neg hj']at z';exact e.dj j j' a z z'
   .by_cases hj:j=i
    .rw[if_pos hj]at z;exact z.elim
    .rw[if_neg hj]at z;rintro (z2|z2)
     .exact hj (e.dj j i a z z2)
     .exact e.dx j a z z2
   .rw[zaV];exact e.l1
   .rw[zaV];exact e.l2
   .rcases z with z|⟨j,z⟩
    .exact .inl ⟨i,z⟩
    .by_cases hj:j=i
     .rw[if_pos hj]at z;exact z.elim
     .rw[if_neg hj]at z;exact .inl ⟨j,z⟩
def f_c(hv:∀K O H F,Ow K O H t 3 v F)(h:tF K true ds ds 3 (eC t) σ H Q):tC v σ H Q:=by
 obtain⟨Ox,en,R,t',en',e,hf,k⟩:=h;cases hf;exact k v H R NoA (Post.refl e) (hv _ _ _ _)
def GX(hd:Le4 d' d)(h:tF K p ds ds' d' f σ H Q):tF K p ds ds' d f σ H Q:=by
 obtain⟨Ox,en,R,t,en',e,hf,k⟩:=h;refine⟨Ox,en,R,t,en',e,hf,λv H' R' F P o=>?_⟩;obtain⟨F',s1,s2⟩:=Ow.cut t hd o;refine k v H' R' F' (P.less s1) (s2 _ (λa z=>z.imp id λz=>z.imp (s1 a) id) λa z z2=>?_);rcases z2 with⟨i,z2⟩|z2|z2
 .exact absurd (.inl z) (P.env.dx i a z2)
 .exact z2
 .exact absurd z2 (P.fx a z)
def jJ(hp:p'=true->p=true)(h:tF K p' ds ds' d f σ H Q):tF K p ds ds' d f σ H Q:=by
 obtain⟨Ox,en,R,t,en',e,hf,k⟩:=h;exact⟨Ox,en,R,t,en',e,hf,λv H' R' F P o=>k v H' R' F ⟨P.env,P.fx,P.keep,P.own,P.dom,λz=>P.pure (hp z)⟩ o⟩
theorem EnvOk.cut(e:EnvOk K ds Ox H σ en R)(hl:ds0.length=ds.length)(hd:∀(i:Nat) a b,ds0[i]?=some a->ds[i]?=some b->Le4 a b):∃R',(∀i a,R' i a->R i a)/\EnvOk K ds0 Ox H σ en R':=by
 have ch:∀i,∃F':AS,(∀b,F' b->R i b)/\∀t v d0,en[i]?=some (some t)->σ[i]?=some (some v)->ds0[i]?=some d0->∀O':AS,(∀a,O' a->Own R Ox a)->(∀a,R i a->O' a->F' a)->Ow K O' H t d0 v F':=λi=>by
  by_cases h:∃t,en[i]?=some (some t)
  .obtain⟨t,ht⟩:=h;obtain⟨v,d,h1,h2,h3⟩:=e.at_ i t ht;cases q:ds0[i]? with
   |none=>exact⟨NoA,λ_ z=>z.elim,λ_ _ _ _ _ z=>nomatch z⟩
   |some d0=>
    obtain⟨F',s1,s2⟩:=Ow.cut t (hd i d0 d q h2) h3;refine⟨F',s1,λt' v' d0' h1' h2' h3' O'=>?_⟩;rw[ht]at h1';cases h1';rw[h1]at h2';cases h2';cases h3';exact s2 O'
  .exact⟨NoA,λ_ z=>z.elim,λt _ _ ht=>absurd ⟨t,ht⟩ h⟩
 refine⟨λi=>(ch i).choose,λi=>(ch i).choose_spec.1,λi t ht=>?_,λi j a z1 z2=>e.dj i j a ((ch i).choose_spec.1 a z1) ((ch j).choose_spec.1 a z2),λi a z=>e.dx i a ((ch i).choose_spec.1 a z),λa z=>e.dom a (z.imp (λ⟨i,z⟩=>⟨i,(ch i).choose_spec.1 a z⟩) id),e.l1,hl.trans e.l2⟩;obtain⟨v,d,h1,h2,h3⟩:=e.at_ i t ht;have hi:i<ds0.length:=by rw[hl];exact(zah.mp h2).1
 refine⟨v,ds0[i],h1,zak hi,(ch i).choose_spec.2 t v _ ht h1 (zak hi) _ (λa z=>z.imp (λ⟨j,z⟩=>⟨j,(ch j).choose_spec.1 a z⟩) id) λa z z2=>?_⟩;rcases z2 with⟨j,z2⟩|z2
 .have:=e.dj i j a z ((ch j).choose_spec.1 a z2);subst this;exact z2
 .exact absurd z2 (e.dx i a z)
noncomputable def leD:List Nat->List Nat->Bool
 |[],[]=>true
 |a::r,b::s=>decide (Le4 a b)&&leD r s
 |_,_=>false
theorem dN:∀{a b:List Nat},leD a b=true->a.length=b.length/\∀(i:Nat) x y,a[i]?=some x->b[i]?=some y->Le4 x y
 |[],[],_=>⟨rfl,λi x y h=>by simp at h⟩
 |a::r,b::s,h=>by
  unfold leD at h;rw[zbm]at h;obtain⟨h1,h2⟩:=h;obtain⟨h3,h4⟩:=dN h2;refine⟨by rw[zac,zac,h3],λi x y e1 e2=>?_⟩;cases i with
  |zero=>cases e1;cases e2;exact of_decide_eq_true h1
  |succ i=>exact h4 i x y e1 e2
 |[],_::_,h=>nomatch h
 |_::_,[],h=>nomatch h
def HF(hd:leD ds0 ds=true)(h:tF K false ds ds' d f σ H Q):tF K p ds0 ds' d f σ H Q:=by
 obtain⟨Ox,en,R,t,en',e,hf,k⟩:=h;obtain⟨R1,s1,e1⟩:=e.cut (dN hd).1 (dN hd).2;refine⟨Ox,en,R1,t,en',e1,hf,λv H' R' F P o=>k v H' R' F ⟨P.env,P.fx,λa o q n=>P.keep a o q λi z=>n i (s1 i a z),λa z=>(P.own a z).imp (λ⟨i,z⟩=>⟨i,s1 i a z⟩) id,P.dom,λz=>nomatch z⟩ o⟩
def G6(hd:leD ds0 ds=true)(h:tF K true ds ds 3 f σ H Q):tF K true ds0 ds0 3 f σ H Q:=by
 obtain⟨Ox,en,R,t,en',e,hf,k⟩:=h;obtain⟨R1,s1,e1⟩:=e.cut (dN hd).1 (dN hd).2;refine⟨Ox,en,R1,t,en',e1,hf,λv H' R' F P o=>?_⟩;obtain⟨a1,a2,a3⟩:=P.pure rfl;subst a1 a2;have nf:∀a,F a->H a=none:=λa z=>by
  rcases P.own a (.inl z)with⟨i,z2⟩|z2
  .exact absurd (.inl z) (P.env.dx i a z2)
  .exact z2
 have nt:NewTo H H' F:=⟨a3,λa z=>⟨nf a z,P.env.dom a (.inr (.inl z))⟩⟩;exact k v H' R F (Post.new e nt.1 nt.2) (Ow.full t o)
def oN(h:tF K (p1&&p2) ds ds2 d (e2 g f1 f2) σ H Q):tOp (rF2 K g d) (tF K p1 ds ds1 d1 f1) (tF K p2 ds1 ds2 d2 f2) σ H Q:=by
 obtain⟨Ox,en,R,t,en',e,hf,k⟩:=h;unfold e2 at hf;obtain⟨⟨t1,en1⟩,h1,hf⟩:=zaa.mp hf;obtain⟨⟨t2,en2⟩,h2,hf⟩:=zaa.mp hf;obtain⟨t',h3,hf⟩:=zab.mp hf;cases hf;refine two e h1 h2 λx y H2 R2 F1 F2 P o1 o2=>?_;exact⟨Own R2 Ox,t1,t2,t,Ow.letgo P (λ_=>.inl) o1,Ow.letgo P (λ_=>.inr) o2,P.doms,h3,λv2 H3 F3 n o3=>k v2 H3 R2 F3 (P.fin n) (tW▸o3)⟩
def Post.after{R2:Nat->AS}{F:AS}(P1:Post K p1 ds1 Ox σ H en R en1 H1 R1 F1)(P2:Post K p2 ds2 Ox σ H1 en1 R1 en2 H' R2 F):Post K (p1&&p2) ds2 Ox σ H en R en2 H' R2 F:=by
 have P1':=P1.less (F':=NoA) λ_ z=>z.elim;have P2':Post K p2 ds2 (U NoA Ox) σ H1 en1 R1 en2 H' R2 F:=by rw[ij];exact P2
 have:=P1'.trans P2';rw[ij]at this;exact this
def Post.env0{F:AS}(P:Post K p ds' Ox σ H en R en' H' R' F):EnvOk K ds' Ox H' σ en' R':=P.env.fewer λa z=>.inr z
def G8(h:tF K (p1&&p2) ds ds1 d (kt f1 f2) σ H Q):Ai (tF K p1 ds ds1 d1 f1) (tF K p2 ds1 ds1 d f2) σ H Q:=by
 obtain⟨Ox,en,R,t,en',e,hf,k⟩:=h;unfold kt at hf;obtain⟨⟨t1,en1⟩,h1,hf⟩:=zaa.mp hf;refine⟨Ox,en,R,t1,en1,e,h1,λv H1 R1 F1 P1 o1=>?_⟩;cases t1 with
 |bool b=>
  have ev:v=.bl b:=o1;refine⟨b,ev,?_⟩;cases b with
  |true=>
   rw[if_pos rfl];exact⟨Ox,en1,R1,t,en',P1.env0,hf,λv2 H2 R2 F2 P2 o2=>k v2 H2 R2 F2 (P1.after P2) o2⟩
  |false=>
   cases hf;rw[if_neg zbn];refine k _ H1 R1 NoA ?_ rfl
   have:=(P1.less (F':=NoA) λ_ z=>z.elim);exact⟨this.env,this.fx,this.keep,this.own,this.dom,λhp=>this.pure (kB hp)⟩
 |_=>cases hf
def HC(h:tF K (p1&&p2) ds ds1 d (eOr f1 f2) σ H Q):DZ (tF K p1 ds ds1 d1 f1) (tF K p2 ds1 ds1 d f2) σ H Q:=by
 obtain⟨Ox,en,R,t,en',e,hf,k⟩:=h;unfold eOr at hf;obtain⟨⟨t1,en1⟩,h1,hf⟩:=zaa.mp hf;refine⟨Ox,en,R,t1,en1,e,h1,λv H1 R1 F1 P1 o1=>?_⟩;cases t1 with
 |bool b=>
  have ev:v=.bl b:=o1;refine⟨b,ev,?_⟩;cases b with
  |false=>
   rw[if_neg zbn];exact⟨Ox,en1,R1,t,en',P1.env0,hf,λv2 H2 R2 F2 P2 o2=>k v2 H2 R2 F2 (P1.after P2) o2⟩
  |true=>
   cases hf;rw[if_pos rfl];refine k _ H1 R1 NoA ?_ rfl
   have:=(P1.less (F':=NoA) λ_ z=>z.elim);exact⟨this.env,this.fx,this.keep,this.own,this.dom,λhp=>this.pure (kB hp)⟩
 |_=>cases hf
def GZ(h:tF K p ds ds1 3 (km f) σ H Q):Ae (tF K p ds ds1 d1 f) σ H Q:=by
 obtain⟨Ox,en,R,t,en',e,hf,k⟩:=h;unfold km at hf;obtain⟨⟨t1,en1⟩,h1,hf⟩:=zaa.mp hf;refine⟨Ox,en,R,t1,en1,e,h1,λv H1 R1 F1 P1 o1=>?_⟩;cases t1 with
 |bool b=>
  cases hf;exact⟨b,o1,k _ H1 R1 NoA (P1.less λ_ z=>z.elim) rfl⟩
 |_=>cases hf
inductive tFT(K:zbV)(p:Bool)(ds ds':List Nat)(f:MT)(σ:St)(H:Hp)(Q:Bool->Hp->Prop):Prop
 |mk (Ox:AS) (en:En) (R:Nat->AS) (b:Bool) (en':En) (h0:EnvOk K ds Ox H σ en R) (h1:f en=some (b,en')) (h2:∀H' R',Post K p ds' Ox σ H en R en' H' R' NoA->Q b H')
variable{c:MT}{QT:Bool->Hp->Prop}
def ms(h:tFT K p ds ds' (tV f) σ H QT):tB (tF K p ds ds' d f) σ H QT:=by
 obtain⟨Ox,en,R,b,en',e,hf,k⟩:=h;unfold tV at hf;obtain⟨⟨t1,en1⟩,h1,hf⟩:=zaa.mp hf;refine⟨Ox,en,R,t1,en1,e,h1,λv H1 R1 F1 P1 o1=>?_⟩;cases t1 with
 |bool b=>
  cases hf;exact⟨_,o1,k H1 R1 (P1.less λ_ z=>z.elim)⟩
 |_=>cases hf
def Fi(h:tFT K (p1&&p2) ds ds1 (dC c1 c2) σ H QT):D8 (tFT K p1 ds ds1 c1) (tFT K p2 ds1 ds1 c2) σ H QT:=by
 obtain⟨Ox,en,R,b,en',e,hf,k⟩:=h;unfold dC at hf;obtain⟨⟨b1,en1⟩,h1,hf⟩:=zaa.mp hf;refine⟨Ox,en,R,b1,en1,e,h1,λH1 R1 P1=>?_⟩;cases b1 with
 |true=>
  rw[if_pos rfl];exact⟨Ox,en1,R1,b,en',P1.env0,hf,λH2 R2 P2=>k H2 R2 (P1.after P2)⟩
 |false=>
  cases hf;rw[if_neg zbn];exact k H1 R1 ⟨P1.env,P1.fx,P1.keep,P1.own,P1.dom,λhp=>P1.pure (kB hp)⟩
def GP(h:tFT K (p1&&p2) ds ds1 (bOr c1 c2) σ H QT):tOr (tFT K p1 ds ds1 c1) (tFT K p2 ds1 ds1 c2) σ H QT:=by
 obtain⟨Ox,en,R,b,en',e,hf,k⟩:=h;unfold bOr at hf;obtain⟨⟨b1,en1⟩,h1,hf⟩:=zaa.mp hf;refine⟨Ox,en,R,b1,en1,e,h1,λH1 R1 P1=>?_⟩;cases b1 with
 |false=>
  rw[if_neg zbn];exact⟨Ox,en1,R1,b,en',P1.env0,hf,λH2 R2 P2=>k H2 R2 (P1.after P2)⟩
 |true=>
  cases hf;rw[if_pos rfl];exact k H1 R1 ⟨P1.env,P1.fx,P1.keep,P1.own,P1.dom,λhp=>P1.pure (kB hp)⟩
def Fg(h:tFT K p ds ds1 (cc c) σ H QT):D0 (tFT K p ds ds1 c) σ H QT:=by
 obtain⟨Ox,en,R,b,en',e,hf,k⟩:=h;unfold cc at hf;obtain⟨⟨b1,en1⟩,h1,hf⟩:=zab.mp hf;cases hf;exact⟨Ox,en,R,b1,_,e,h1,λH1 R1 P1=>k H1 R1 P1⟩
def Fh(hd:leD ds0 ds=true)(h:tFT K true ds ds c σ H QT):tFT K true ds0 ds0 c σ H QT:=by
 obtain⟨Ox,en,R,t,en',e,hf,k⟩:=h;obtain⟨R1,s1,e1⟩:=e.cut (dN hd).1 (dN hd).2;refine⟨Ox,en,R1,t,en',e1,hf,λH' R' P=>?_⟩;obtain⟨a1,a2,a3⟩:=P.pure rfl;subst a1 a2;exact k H' R (Post.new e a3 λ_ z=>z.elim)
def HE(h:tF K (p&&(p1&&p2)) ds ds2 d (eIf c f1 f2) σ H Q):tIf (tFT K p ds ds1 c) (tF K p1 ds1 ds2 d f1) (tF K p2 ds1 ds2 d f2) σ H Q:=by
 obtain⟨Ox,en,R,t,en',e,hf,k⟩:=h;unfold eIf at hf;obtain⟨⟨b1,en1⟩,h1,hf⟩:=zaa.mp hf;refine⟨Ox,en,R,b1,en1,e,h1,λH1 R1 P1=>?_⟩;cases b1 with
 |true=>
  rw[if_pos rfl];refine⟨Ox,en1,R1,t,en',P1.env0,hf,λv H2 R2 F2 P2 o2=>k v H2 R2 F2 ?_ o2⟩
  have:=P1.after P2;exact⟨this.env,this.fx,this.keep,this.own,this.dom,λhp=>this.pure (by rw[kB hp,kB (tR hp)];rfl)⟩
 |false=>
  rw[if_neg zbn];refine⟨Ox,en1,R1,t,en',P1.env0,hf,λv H2 R2 F2 P2 o2=>k v H2 R2 F2 ?_ o2⟩
  have:=P1.after P2;exact⟨this.env,this.fx,this.keep,this.own,this.dom,λhp=>this.pure (by rw[kB hp,tR (tR hp)];rfl)⟩
end
abbrev Sh:=List (Nat ⊕ Nat)
variable{sh:Sh}
def OwA(K:zbV)(O:AS)(H:Hp)(σ:St):List (D ⊕ Nat)->Sh->List V->AS->Prop
 |[],ds,vs,_=>ds=[]/\vs=[]
 |.inl t::as,ds,vs,F=>∃v r d dr,∃F1 F2:AS,vs=v::r/\ds=.inl d::dr/\(∀b,F1 b->F b)/\(∀b,F2 b->F b)/\(∀b,F1 b->¬F2 b)/\Ow K O H t d v F1/\OwA K O H σ as dr r F2
 |.inr i::as,ds,vs,F=>∃v r dr,vs=v::r/\ds=.inr i::dr/\σ[i]?=some (some v)/\OwA K O H σ as dr r F
inductive tFA(K:zbV)(p:Bool)(ds ds':List Nat)(sh:Sh)(f:MA)(σ:St)(H:Hp)(Q:List V->Hp->Prop):Prop
 |mk (Ox:AS) (en:En) (R:Nat->AS) (as:List (PyData ⊕ Nat)) (en':En) (h0:EnvOk K ds Ox H σ en R) (h1:f en=some (as,en')) (h2:∀vs H' R' F,Post K p ds' Ox σ H en R en' H' R' F->OwA K (Own R' (U F Ox)) H' σ as sh vs F->Q vs H')
def ba(fa:MA):ME:=λen=>(fa en).bind λr=>(vals r.1).bind λts=>if ts.length<=sizeLine then some (.list ts,r.2)else none
def bp(fa:MA):ME:=λen=>(fa en).bind λr=>(vals r.1).bind λts=>if ts.length<=sizeLine then some (.tuple ts,r.2)else none
section
variable{QA:List V->Hp->Prop} 
theorem OwA.grow(ho:∀a,O' a->O a):∀{as:List (D ⊕ Nat)} {sh:Sh} {vs:List V} {F F':AS},(∀b,F b->F' b)->OwA K O H σ as sh vs F->OwA K O' H σ as sh vs F'
 |[],_,_,_,_,_,h=>h
 |.inl t::as,_,_,_,_,hf,h=>by
  obtain⟨v,r,d,dr,F1,F2,e1,e2,s1,s2,s3,h1,h2⟩:=h;exact⟨v,r,d,dr,F1,F2,e1,e2,λb z=>hf _ (s1 b z),λb z=>hf _ (s2 b z),s3,Ow.grow ho t (λ_ z=>z) h1,OwA.grow ho (λ_ z=>z) h2⟩
 |.inr i::as,_,_,_,_,hf,h=>by
  obtain⟨v,r,dr,e1,e2,e3,h2⟩:=h;exact⟨v,r,dr,e1,e2,e3,OwA.grow ho hf h2⟩
def qc(h:tFA K true ds ds [] ai σ H QA):ss σ H QA:=by
 obtain⟨Ox,en,R,as,en',e,hf,k⟩:=h;cases hf;exact k [] H R NoA (Post.refl e) ⟨rfl,rfl⟩
def jb(h:tFA K (p1&&p2) ds ds2 (.inl d::sh) (ab f fa) σ H QA):kU (tF K p1 ds ds1 d f) (tFA K p2 ds1 ds2 sh fa) σ H QA:=by
 obtain⟨Ox,en,R,as,en',e,hf,k⟩:=h;unfold ab at hf;obtain⟨⟨t1,en1⟩,h1,hf⟩:=zaa.mp hf;obtain⟨⟨as2,en2⟩,h2,hf⟩:=zab.mp hf;cases hf;refine⟨Ox,en,R,t1,en1,e,h1,λx H1 R1 F1 P1 o1=>?_⟩;refine⟨U F1 Ox,en1,R1,as2,en2,P1.env,h2,λvs H2 R2 F2 P2 o2=>?_⟩;refine k (x::vs) H2 R2 (U F1 F2) (P1.trans P2) ⟨x,vs,d,sh,F1,F2,rfl,rfl,λ_=>.inl,λ_=>.inr,λb z1 z2=>P2.fx b z2 (.inl z1),Ow.over P1.env P2 o1,?_⟩;rw[<-mI];exact o2
def BX(h:tFA K p ds ds2 (.inr i::sh) (aX i fa) σ H QA):kU (fT i) (tFA K p ds ds2 sh fa) σ H QA:=by
 obtain⟨Ox,en,R,as,en',e,hf,k⟩:=h;unfold aX at hf;obtain⟨t0,h0,hf⟩:=zaa.mp hf;obtain⟨⟨as2,en2⟩,h2,hf⟩:=zab.mp hf;cases hf;have q:en[i]?=some (some t0):=by
  cases q:en[i]? with
  |none=>rw[q]at h0;cases h0
  |some o=>rw[q]at h0;exact congrArg some h0
 obtain⟨v,d,h1,_⟩:=e.at_ i t0 q;exact⟨v,h1,Ox,en,R,as2,en2,e,h2,λvs H2 R2 F2 P2 o2=>k (v::vs) H2 R2 F2 P2 ⟨v,vs,sh,rfl,rfl,h1,o2⟩⟩
noncomputable def dq(c:Nat):Sh->Bool
 |[]=>true
 |.inl d::r=>decide (Le4 c d)&&dq c r
 |.inr _::_=>false
theorem OwA.ows:∀{as:List (D ⊕ Nat)} {sh:Sh} {vs:List V} {F:AS} {ts:List D} {c:Nat},dq c sh=true->vals as=some ts->OwA K O H σ as sh vs F ->
  ∃F':AS,(∀b,F' b->F b)/\∀O':AS,(∀a,O' a->O a)->(∀a,F a->O' a->F' a)->Ows K O' H ts c vs F'
 |[],_,_,F,ts,c,_,hv,h=>by
  cases hv;exact⟨F,λ_ z=>z,λ_ _ _=>h.2⟩
 |.inl t::as,_,_,F,ts,c,hs,hv,h=>by
  obtain⟨v,r,d,dr,F1,F2,e1,e2,s1,s2,s3,h1,h2⟩:=h;subst e1 e2;unfold vals at hv;obtain⟨ts',hv',e⟩:=zab.mp hv;subst e;unfold dq at hs;rw[zbm]at hs;obtain⟨G1,a1,a2⟩:=Ow.cut t (of_decide_eq_true hs.1) h1;obtain⟨G2,b1,b2⟩:=OwA.ows hs.2 hv' h2;refine⟨λb=>G1 b\/G2 b,λb hb=>hb.elim (λz=>s1 _ (a1 _ z)) λz=>s2 _ (b1 _ z),λO' ho hx=>⟨v,r,G1,G2,rfl,λb=>.inl,λb=>.inr,λb z1 z2=>s3 b (a1 b z1) (b1 b z2),a2 O' ho λb hb hz=>?_,b2 O' ho λb hb hz=>?_⟩⟩
  .exact(hx b (s1 b hb) hz).elim id λz=>absurd (b1 b z) (s3 b hb)
  .exact(hx b (s2 b hb) hz).elim (λz=>absurd hb (s3 b (a1 b z))) id
 |.inr i::as,_,_,F,ts,c,_,hv,_=>by cases hv
theorem OwA.len:∀{as:List (D ⊕ Nat)} {sh:Sh} {vs:List V} {F:AS},OwA K O H σ as sh vs F->vs.length=as.length
 |[],_,_,_,h=>by rw[h.2];rfl
 |.inl t::as,_,_,_,h=>by
  obtain⟨v,r,d,dr,F1,F2,e1,e2,s1,s2,s3,h1,h2⟩:=h;rw[e1,zac,zac,h2.len]
 |.inr i::as,_,_,_,h=>by
  obtain⟨v,r,dr,e1,e2,e3,h2⟩:=h;rw[e1,zac,zac,h2.len]
theorem lB:∀{as:List (D ⊕ Nat)} {ts:List D},vals as=some ts->ts.length=as.length
 |[],_,h=>by cases h;rfl
 |.inl t::as,_,h=>by
  unfold vals at h;obtain⟨ts',hv',e⟩:=zab.mp h;subst e;rw[zac,zac,lB hv']
 |.inr _::_,_,h=>by cases h
def qf{g:List D->Option D}(hs:dq 0 sh=true)(h:tF K p ds ds1 d (eN g fa) σ H Q):tCB (rFn K g d) (tFA K p ds ds1 sh fa) σ H Q:=by
 obtain⟨Ox,en,R,t,en',e,hf,k⟩:=h;unfold eN at hf;obtain⟨⟨as,en1⟩,h1,hf⟩:=zaa.mp hf;obtain⟨ts,h2,hf⟩:=zaa.mp hf;obtain⟨t',h3,hf⟩:=zab.mp hf;cases hf;refine⟨Ox,en,R,as,en1,e,h1,λvs H1 R1 F P o=>?_⟩;obtain⟨F',s1,s2⟩:=OwA.ows hs h2 o;have o2:Ows K (Own R1 Ox) H1 ts 0 vs F':=s2 _ (λa z=>z.imp id .inr) λa z z2=>by
  rcases z2 with⟨i,z2⟩|z2
  .exact absurd (.inl z) (P.env.dx i a z2)
  .exact absurd z2 (P.fx a z)
 exact⟨Own R1 Ox,ts,t,Ows.any0 ts o2,P.doms,h3,λv2 H2 F2 n o2=>k v2 H2 R1 F2 (P.fin n) (tW▸o2)⟩
def Post.add{F:AS}(P:Post K p ds' Ox σ H en R en' H1 R' F)(n:NewTo H1 H' G):Post K p ds' Ox σ H en R en' H' R' (U F G):=by
 have P2:Post K true ds' (U F Ox) σ H1 en' R' en' H' R' G:=Post.new P.env n.1 n.2
 have:=P.trans P2;rw[zbT]at this;exact this
def bC(hl:H l=none):NewTo H (upd H l o) (λb=>b=l):=by
 refine⟨λa u q=>?_,λa z=>?_⟩
 .rw[au]
  .exact q
  .intro z;subst z;rw[hl]at q;cases q
 .subst z;exact⟨hl,_,ao⟩
def G0(hs:dq c sh=true)(hd:dn d=c)(hz:d≠0)(h:tF K p ds ds1 d (ba fa) σ H Q):D1 (tFA K p ds ds1 sh fa) σ H Q:=by
 obtain⟨Ox,en,R,t,en',e,hf,k⟩:=h;unfold ba at hf;obtain⟨⟨as,en1⟩,h1,hf⟩:=zaa.mp hf;obtain⟨ts,h2,hf⟩:=zaa.mp hf;by_cases ξ:ts.length<=sizeLine
 case neg=>rw[if_neg ξ]at hf;cases hf
 rw[if_pos ξ]at hf;cases hf;refine⟨Ox,en,R,as,en1,e,h1,λvs H1 R1 F P o=>⟨?_,λl hl=>?_⟩⟩
 .rw[o.len,<-lB h2];exact ξ
 obtain⟨F',s1,s2⟩:=OwA.ows hs h2 o;have o2:=s2 (Own R1 (U F' Ox)) (λa z=>z.imp id λz=>z.imp (s1 a) id) λa z z2=>by
  rcases z2 with⟨i,z2⟩|z2|z2
  .exact absurd (.inl z) (P.env.dx i a z2)
  .exact z2
  .exact absurd z2 (P.fx a z)
 have P':=(P.less s1).add (bC (o:=.lst vs) hl);have nl:∀a,F' a->a≠l:=λa z z2=>by
  subst z2;obtain⟨o',q⟩:=P.env.dom a (.inr (.inl (s1 a z)));rw[hl]at q;cases q
 refine k (.ref l) (upd H1 l (.lst vs)) R1 _ P' ⟨l,vs,rfl,.inr ⟨hz,ao,.inr rfl,F',λb z=>⟨.inl z,nl b z⟩,?_⟩⟩;rw[hd];refine Ows.mv (G:=F') ⟨λa o q _=>(bC (o:=.lst vs) hl).1 a o q,λa z=>?_⟩ ts (λ_ z=>z) o2;rcases z with z | (z|z)|z
 .exact .inl (.inl z)
 .exact .inl (.inr (.inl z))
 .exact .inr (by rw[show a=l from z];exact hl)
 .exact .inl (.inr (.inr z))
def GV(hs:dq c sh=true)(hd:dn d=c)(h:tF K p ds ds1 d (bp fa) σ H Q):DW (tFA K p ds ds1 sh fa) σ H Q:=by
 obtain⟨Ox,en,R,t,en',e,hf,k⟩:=h;unfold bp at hf;obtain⟨⟨as,en1⟩,h1,hf⟩:=zaa.mp hf;obtain⟨ts,h2,hf⟩:=zaa.mp hf;by_cases ξ:ts.length<=sizeLine
 case neg=>rw[if_neg ξ]at hf;cases hf
 rw[if_pos ξ]at hf;cases hf;refine⟨Ox,en,R,as,en1,e,h1,λvs H1 R1 F P o=>⟨?_,λl hl=>?_⟩⟩
 .rw[o.len,<-lB h2];exact ξ
 obtain⟨F',s1,s2⟩:=OwA.ows hs h2 o;have o2:=s2 (Own R1 (U F' Ox)) (λa z=>z.imp id λz=>z.imp (s1 a) id) λa z z2=>by
  rcases z2 with⟨i,z2⟩|z2|z2
  .exact absurd (.inl z) (P.env.dx i a z2)
  .exact z2
  .exact absurd z2 (P.fx a z)
 have nl:∀a,Own R1 (U F' Ox) a->a≠l:=λa z z2=>by
  subst z2;obtain⟨o',q⟩:=P.env.dom a (z.imp id λz=>z.imp (s1 a) id);rw[hl]at q;cases q
 by_cases hz:d=0
 .subst hz;have P':=(P.less s1).add (G:=NoA) (H':=upd H1 l (.tup vs)) ⟨(bC (o:=.tup vs) hl).1,λ_ z=>z.elim⟩;have eq:U F' NoA=F':=dv λa=>⟨λz=>z.elim id λz=>z.elim,.inl⟩;rw[eq]at P';refine k (.ref l) (upd H1 l (.tup vs)) R1 _ P' ⟨l,vs,rfl,.inl ⟨rfl,⟨ao,λz=>nl l z rfl⟩,?_⟩⟩;have hc:c=0:=hd.symm;subst hc;exact Ows.mv (G:=F') ⟨λa o q _=>(bC (o:=.tup vs) hl).1 a o q,λa z=>.inl z⟩ ts (λ_ z=>z) o2
 .have P':=(P.less s1).add (bC (o:=.tup vs) hl);refine k (.ref l) (upd H1 l (.tup vs)) R1 _ P' ⟨l,vs,rfl,.inr ⟨hz,ao,.inr rfl,F',λb z=>⟨.inl z,nl b (.inr (.inl z))⟩,?_⟩⟩;rw[hd];refine Ows.mv (G:=F') ⟨λa o q _=>(bC (o:=.tup vs) hl).1 a o q,λa z=>?_⟩ ts (λ_ z=>z) o2;rcases z with z | (z|z)|z
  .exact .inl (.inl z)
  .exact .inl (.inr (.inl z))
  .exact .inr (by rw[show a=l from z];exact hl)
  .exact .inl (.inr (.inr z))
end
def spF(K:zbV)(dps:List Nat)(dr:Nat)(F:List D->Option (D×En)):Sp:=λvs H Q _=>
 ∃Ox ts R r ψ,EnvOk K dps Ox H (vs.map some) (ts.map some) R/\F ts=some (r,ψ) /\
  ∀v H' R' Fr,Post K false dps Ox (vs.map some) H (ts.map some) R ψ H' R' Fr->Ow K (Own R' (U Fr Ox)) H' r dr v Fr->Q v H'
noncomputable def dD:List (D ⊕ Nat)->En->Option (List D)
 |[],_=>some []
 |.inl t::r,en=>(dD r en).map (t::·)
 |.inr i::r,en=>(en[i]?).join.bind λt=>(dD r en).map (t::·)
noncomputable def wb:List (D ⊕ Nat)->En->En->En
 |.inr i::r,o::ψ,en=>wb r ψ (en.set i o)
 |.inl _::r,_::ψ,en=>wb r ψ en
 |_,_,en=>en
def am(F:List D->Option (D×En))(fa:MA):ME:=λen=>(fa en).bind λr=>(dD r.1 r.2).bind λts=>(F ts).map λq=>(q.1,wb r.1 q.2 r.2)
noncomputable def i5:Sh->List Nat
 |[]=>[]
 |.inl _::r=>i5 r
 |.inr i::r=>i::i5 r
def bL(ds:List Nat):Sh->List Nat->Bool
 |[],[]=>true
 |.inl d::r,q::s=>decide (d=q)&&bL ds r s
 |.inr i::r,q::s=>decide (ds[i]?=some q)&&(decide (i∉i5 r)&&bL ds r s)
 |_,_=>false
noncomputable def cG:Sh->Bool
 |[]=>true
 |.inl _::r=>cG r
 |.inr _::_=>false
section
variable{QA:List V->Hp->Prop} 
theorem OwA.parts:∀{as:List (D ⊕ Nat)} {sh:Sh} {vs:List V} {F:AS},OwA K O H σ as sh vs F ->
  ∃Rp:Nat->AS,(∀(j:Nat) t,as[j]?=some (.inl t)->∃v d,vs[j]?=some v/\sh[j]?=some (.inl d)/\Ow K O H t d v (Rp j))/\(∀(j i:Nat),as[j]?=some (.inr i)->∃v,vs[j]?=some v/\sh[j]?=some (.inr i)/\σ[i]?=some (some v)) /\
   (∀j a,Rp j a->F a)/\(∀j j' a,Rp j a->Rp j' a->j=j')
 |[],sh,vs,F,h=>⟨λ_=>NoA,λj t z=>by simp at z,λj i z=>by simp at z,λ_ _ z=>z.elim,λ_ _ _ z=>z.elim⟩
 |.inl t::as,sh,vs,F,h=>by
  obtain⟨v,r,d,dr,F1,F2,e1,e2,s1,s2,s3,h1,h2⟩:=h;subst e1 e2;obtain⟨Rp,a1,a2,a3,a4⟩:=h2.parts;refine⟨λj=>match j with|0=>F1|j+1=>Rp j,λj u hj=>?_,λj i hj=>?_,λj a z=>?_,λj j' a z z'=>?_⟩
  .cases j with
   |zero=>
    have:t=u:=by simpa using hj
    subst this;exact⟨v,d,rfl,rfl,h1⟩
   |succ j=>exact a1 j u (by simpa using hj)
  .cases j with
   |zero=>simp at hj
   |succ j=>exact a2 j i (by simpa using hj)
  .cases j with
   |zero=>exact s1 a z
   |succ j=>exact s2 a (a3 j a z)
  .cases j with
   |zero=>
    cases j' with
    |zero=>rfl
    |succ j'=>exact absurd (a3 j' a z') (s3 a z)
   |succ j=>
    cases j' with
    |zero=>exact absurd (a3 j a z) (s3 a z')
    |succ j'=>rw[a4 j j' a z z']
 |.inr i::as,sh,vs,F,h=>by
  obtain⟨v,r,dr,e1,e2,e3,h2⟩:=h;subst e1 e2;obtain⟨Rp,a1,a2,a3,a4⟩:=h2.parts;refine⟨λj=>match j with|0=>NoA|j+1=>Rp j,λj u hj=>?_,λj i' hj=>?_,λj a z=>?_,λj j' a z z'=>?_⟩
  .cases j with
   |zero=>simp at hj
   |succ j=>exact a1 j u (by simpa using hj)
  .cases j with
   |zero=>
    have:i=i':=by simpa using hj
    subst this;exact⟨v,rfl,rfl,e3⟩
   |succ j=>exact a2 j i' (by simpa using hj)
  .cases j with
   |zero=>exact z.elim
   |succ j=>exact a3 j a z
  .cases j with
   |zero=>exact z.elim
   |succ j=>
    cases j' with
    |zero=>exact z'.elim
    |succ j'=>rw[a4 j j' a z z']
theorem lW:∀{as:List (D ⊕ Nat)} {en:En} {ts:List D},dD as en=some ts->ts.length=as.length/\∀(j:Nat) t,ts[j]?=some t->as[j]?=some (.inl t)\/∃i,as[j]?=some (.inr i)/\en[i]?=some (some t)
 |[],_,_,h=>by cases h;exact⟨rfl,λj t z=>by simp at z⟩
 |.inl t::as,en,_,h=>by
  unfold dD at h;obtain⟨ts',h',e⟩:=zab.mp h;subst e;obtain⟨l,g⟩:=lW h';refine⟨by rw[zac,zac,l],λj u z=>?_⟩;cases j with
  |zero=>simp at z;subst z;exact .inl rfl
  |succ j=>exact g j u (by simpa using z)
 |.inr i::as,en,_,h=>by
  unfold dD at h;obtain⟨t,ht,h⟩:=zaa.mp h;obtain⟨ts',h',e⟩:=zab.mp h;subst e;obtain⟨l,g⟩:=lW h';refine⟨by rw[zac,zac,l],λj u z=>?_⟩;cases j with
  |zero=>
   simp at z;subst z;refine .inr ⟨i,rfl,?_⟩;cases q:en[i]? with
   |none=>rw[q]at ht;cases ht
   |some o=>rw[q]at ht;exact congrArg some ht
  |succ j=>exact g j u (by simpa using z)
theorem kA:∀{sh:Sh} {dps:List Nat},bL ds sh dps=true->sh.length=dps.length/\(∀(j d:Nat),sh[j]?=some (.inl d)->dps[j]?=some d)/\(∀(j i:Nat),sh[j]?=some (.inr i)->∃q,dps[j]?=some q/\ds[i]?=some q) /\
   (∀(j j' i:Nat),sh[j]?=some (.inr i)->sh[j']?=some (.inr i)->j=j')
 |[],[],_=>⟨rfl,λj d z=>by simp at z,λj d z=>by simp at z,λj j' d z=>by simp at z⟩
 |.inl d::r,q::s,h=>by
  unfold bL at h;rw[zbm]at h;obtain⟨h1,h2⟩:=h;have h1':=of_decide_eq_true h1;subst h1';obtain⟨l,a,b,c⟩:=kA h2;refine⟨by rw[zac,zac,l],λj u z=>?_,λj i z=>?_,λj j' i z z'=>?_⟩
  .cases j with
   |zero=>simp at z;subst z;rfl
   |succ j=>exact a j u (by simpa using z)
  .cases j with
   |zero=>simp at z
   |succ j=>exact b j i (by simpa using z)
  .cases j with
   |zero=>simp at z
   |succ j=>
    cases j' with
    |zero=>simp at z'
    |succ j'=>rw[c j j' i (by simpa using z) (by simpa using z')]
 |.inr i0::r,q::s,h=>by
  unfold bL at h;rw[zbm,zbm]at h;obtain⟨h1,h2,h3⟩:=h;have h1':=of_decide_eq_true h1;have h2':=of_decide_eq_true h2;obtain⟨l,a,b,c⟩:=kA h3;have mem:∀{r:Sh} {j i:Nat},r[j]?=some (.inr i)->i∈i5 r:=λ{r}=>by
   induction r with
   |nil=>intro j i z;simp at z
   |cons x r ih=>
    intro j i z;cases j with
    |zero=>
     simp at z;subst z;unfold i5;exact zaq
    |succ j=>
     have:=ih (j:=j) (i:=i) (by simpa using z);cases x with
     |inl _=>exact this
     |inr _=>exact zaj _ this
  refine⟨by rw[zac,zac,l],λj u z=>?_,λj i z=>?_,λj j' i z z'=>?_⟩
  .cases j with
   |zero=>simp at z
   |succ j=>exact a j u (by simpa using z)
  .cases j with
   |zero=>simp at z;subst z;exact⟨q,rfl,h1'⟩
   |succ j=>exact b j i (by simpa using z)
  .cases j with
   |zero=>
    simp at z;subst z;cases j' with
    |zero=>rfl
    |succ j'=>exact absurd (mem (by simpa using z')) h2'
   |succ j=>
    cases j' with
    |zero=>
     simp at z';subst z';exact absurd (mem (by simpa using z)) h2'
    |succ j'=>rw[c j j' i (by simpa using z) (by simpa using z')]
 |[],_::_,h=>nomatch h
 |.inl _::_,[],h=>nomatch h
 |.inr _::_,[],h=>nomatch h
theorem oP:∀(as:List (D ⊕ Nat)) (ψ en:En),(wb as ψ en).length=en.length
 |[],_,_=>by unfold wb;rfl
 |.inl _::as,[],_=>by unfold wb;rfl
 |.inr _::as,[],_=>by unfold wb;rfl
 |.inl _::as,o::ψ,en=>by unfold wb;exact oP as ψ en
 |.inr i::as,o::ψ,en=>by unfold wb;rw[oP as ψ _,zaV]
theorem i4:∀(as:List (D ⊕ Nat)) (ψ en:En) (i:Nat),(∀j:Nat,as[j]?≠some (.inr i))->(wb as ψ en)[i]?=en[i]?
 |[],_,_,_,_=>by unfold wb;rfl
 |.inl _::as,[],_,_,_=>by unfold wb;rfl
 |.inr _::as,[],_,_,_=>by unfold wb;rfl
 |.inl _::as,o::ψ,en,i,h=>by unfold wb;exact i4 as ψ en i λj=>h (j+1)
 |.inr k::as,o::ψ,en,i,h=>by
  unfold wb;rw[i4 as ψ _ i λj=>h (j+1),zaO];intro e;subst e;exact h 0 rfl
theorem sd:∀(as:List (D ⊕ Nat)) (ψ en:En) (i j:Nat),as[j]?=some (.inr i)->(∀j':Nat,as[j']?=some (.inr i)->j'=j)->ψ.length=as.length->i<en.length->(wb as ψ en)[i]?=ψ[j]?
 |[],_,_,_,_,h,_,_,_=>by simp at h
 |.inl _::as,[],_,_,_,_,_,h,_=>by simp at h
 |.inr _::as,[],_,_,_,_,_,h,_=>by simp at h
 |.inl _::as,o::ψ,en,i,j,h,u,l,b=>by
  unfold wb;cases j with
  |zero=>simp at h
  |succ j=>exact sd as ψ en i j (by simpa using h) (λj' z=>by have:=u (j'+1) (by simpa using z);lia) (by simpa using l) b
 |.inr k::as,o::ψ,en,i,j,h,u,l,b=>by
  unfold wb;cases j with
  |zero=>
   have e:k=i:=by simpa using h
   subst e;rw[i4 as ψ _ k λj' z=>by have:=u (j'+1) (by simpa using z);lia];rw[zaP b];rfl
  |succ j=>exact sd as ψ _ i j (by simpa using h) (λj' z=>by have:=u (j'+1) (by simpa using z);lia) (by simpa using l) (by rw[zaV];exact b)
theorem OwA.shl:∀{as:List (D ⊕ Nat)} {sh:Sh} {vs:List V} {F:AS},OwA K O H σ as sh vs F->sh.length=as.length
 |[],_,_,_,h=>by rw[h.1];rfl
 |.inl t::as,_,_,_,h=>by
  obtain⟨v,r,d,dr,F1,F2,e1,e2,s1,s2,s3,h1,h2⟩:=h;rw[e2,zac,zac,h2.shl]
 |.inr i::as,_,_,_,h=>by
  obtain⟨v,r,dr,e1,e2,e3,h2⟩:=h;rw[e2,zac,zac,h2.shl]
theorem md:∀{sh:Sh},cG sh=true->∀(j i:Nat),sh[j]?≠some (.inr i)
 |[],_,j,i,z=>by simp at z
 |.inl _::r,h,j,i,z=>by
  cases j with
  |zero=>simp at z
  |succ j=>exact md (sh:=r) h j i (by simpa using z)
 |.inr _::r,h,_,_,_=>nomatch h
def uB{E:XK}{F:List D->Option (D×En)}{as:List (D ⊕ Nat)}{r:D}{ψ:En}(hc:bL ds1 sh dps=true)(P:Post K p ds1 Ox σ H en R en1 H1 R1 F0)(o:OwA K (Own R1 (U F0 Ox)) H1 σ as sh vs F0)(h2:dD as en1=some ts)(h3:F ts=some (r,ψ))
  (k:∀v H' R' F,Post K (p&&cG sh) ds1 Ox σ H en R (wb as ψ en1) H' R' F->(p=true->∀i0:Nat,(∀j:Nat,sh[j]?≠some (.inr i0))->(∀a o,H a=some o->R i0 a->H' a=some o)/\(wb as ψ en1)[i0]?=en[i0]?)->Ow K (Own R' (U F Ox)) H' r dr v F->Q v H'):spF K dps dr F vs H1 Q E:=by
 obtain⟨cl,c1,c2,c3⟩:=kA hc;obtain⟨Rp,a1,a2,a3,a4⟩:=o.parts;obtain⟨tl,tg⟩:=lW h2;have ol:=o.len;have asl:∀(j i:Nat),as[j]?=some (.inr i)->sh[j]?=some (.inr i):=λj i z=>(a2 j i z).choose_spec.2.1;have asr:∀(j i:Nat),sh[j]?=some (.inr i)->as[j]?=some (.inr i):=λj i z=>by
  cases q:as[j]? with
  |none=>
   have e1:as.length<=j:=List.getElem?_eq_none_iff.mp q;have e2:j<sh.length:=(zah.mp z).1
   have:=o.shl
   lia
  |some x=>
   cases x with
   |inl t=>
    obtain⟨_,_,_,e2,_⟩:=a1 j t q;rw[z]at e2;cases e2
   |inr i'=>
    have:=asl j i' q;rw[z]at this;cases this;rfl
 let Rq:Nat->AS:=λj=>match sh[j]? with|some (.inr i)=>R1 i|_=>Rp j
 have rq1:∀j i:Nat,sh[j]?=some (.inr i)->Rq j=R1 i:=λj i z=>by show(match sh[j]? with|some (.inr i)=>R1 i|_=>Rp j)=R1 i;rw[z]
 have rq2:∀j:Nat,(∀i:Nat,sh[j]?≠some (.inr i))->Rq j=Rp j:=λj z=>by
  show(match sh[j]? with|some (.inr i)=>R1 i|_=>Rp j)=Rp j;split
  .next i q=>exact absurd q (z i)
  .rfl
 have rqc:∀(j:Nat) a,Rq j a->(∃i,sh[j]?=some (.inr i)/\R1 i a)\/Rp j a:=λj a z=>by
  by_cases q:∃i,sh[j]?=some (.inr i)
  .obtain⟨i,q⟩:=q;rw[rq1 j i q]at z;exact .inl ⟨i,q,z⟩
  .rw[rq2 j λi z=>q ⟨i,z⟩]at z;exact .inr z
 let Oxp:AS:=λa=>Ox a\/∃i,R1 i a/\∀j:Nat,sh[j]?≠some (.inr i)
 have sub:∀a,Own Rq Oxp a->Own R1 (U F0 Ox) a:=λa z=>by
  rcases z with⟨j,z⟩|z|⟨i,z,_⟩
  .rcases rqc j a z with⟨i,_,z⟩|z
   .exact .inl ⟨i,z⟩
   .exact .inr (.inl (a3 j a z))
  .exact .inr (.inr z)
  .exact .inl ⟨i,z⟩
 have ec:EnvOk K dps Oxp H1 (vs.map some) (ts.map some) Rq:=by
  refine⟨λj u hu=>?_,λj j' a z z'=>?_,λj a z z2=>?_,λa z=>P.env.dom a (sub a z),by rw[zad,zad,tl,ol],?_⟩
  .rw[zao]at hu;obtain⟨u',hu,eu⟩:=zab.mp hu;cases eu;rcases tg j u hu with q|⟨i,q,qe⟩
   .obtain⟨v,d,b1,b2,b3⟩:=a1 j u q;refine⟨v,d,by rw[zao,b1];rfl,c1 j d b2,?_⟩;rw[rq2 j λi z=>by rw[b2]at z;cases z];exact Ow.grow sub u (λ_ z=>z) b3
   .obtain⟨v,b1,b2,b3⟩:=a2 j i q;obtain⟨v',d,g1,g2,g3⟩:=P.env.at_ i u qe;rw[b3]at g1;cases g1;obtain⟨qd,q1,q2⟩:=c2 j i b2;rw[g2]at q2;cases q2;refine⟨v,d,by rw[zao,b1];rfl,q1,?_⟩;rw[rq1 j i b2];exact Ow.grow sub u (λ_ z=>z) g3
  .rcases rqc j a z with⟨i,q,z⟩|z<;>rcases rqc j' a z' with⟨i',q',z'⟩|z'
   .have:=P.env.dj i i' a z z';subst this;exact c3 j j' i q q'
   .exact absurd (.inl (a3 j' a z')) (P.env.dx i a z)
   .exact absurd (.inl (a3 j a z)) (P.env.dx i' a z')
   .exact a4 j j' a z z'
  .rcases rqc j a z with⟨i,q,z⟩|z
   .rcases z2 with z2|⟨i',z2,n⟩
    .exact P.env.dx i a z (.inr z2)
    .have:=P.env.dj i i' a z z2;subst this;exact n j q
   .rcases z2 with z2|⟨i',z2,n⟩
    .exact P.fx a (a3 j a z) z2
    .exact P.env.dx i' a z2 (.inl (a3 j a z))
  .have:=o.shl;rw[zad]
   lia
 refine⟨Oxp,ts,Rq,r,ψ,ec,h3,λv H2 R2 Fr Pc oc=>?_⟩;have outl:ψ.length=as.length:=by rw[Pc.env.l1,zad];exact ol
 classical
 let R3:Nat->AS:=λi=>if q:∃j:Nat,sh[j]?=some (.inr i)then R2 q.choose else R1 i
 have r31:∀(i j:Nat),sh[j]?=some (.inr i)->R3 i=R2 j:=λi j z=>by
  have q:∃j:Nat,sh[j]?=some (.inr i):=⟨j,z⟩
  have:q.choose=j:=c3 _ _ i q.choose_spec z;show(if q:∃j:Nat,sh[j]?=some (.inr i)then R2 q.choose else R1 i)=R2 j;rw[dif_pos q,this]
 have r32:∀i:Nat,(∀j:Nat,sh[j]?≠some (.inr i))->R3 i=R1 i:=λi z=>by
  show(if q:∃j:Nat,sh[j]?=some (.inr i)then R2 q.choose else R1 i)=R1 i;rw[dif_neg λ⟨j,q⟩=>z j q]
 have r3c:∀(i:Nat) a,R3 i a->(∃j:Nat,sh[j]?=some (.inr i)/\R2 j a)\/((∀j:Nat,sh[j]?≠some (.inr i))/\R1 i a):=λi a z=>by
  by_cases q:∃j:Nat,sh[j]?=some (.inr i)
  .obtain⟨j,q⟩:=q;rw[r31 i j q]at z;exact .inl ⟨j,q,z⟩
  .rw[r32 i λj z=>q ⟨j,z⟩]at z;exact .inr ⟨λj z=>q ⟨j,z⟩,z⟩
 have sub3:∀a,Own R3 (U Fr Ox) a->Own R2 (U Fr Oxp) a:=λa z=>by
  rcases z with⟨i,z⟩|z|z
  .rcases r3c i a z with⟨j,_,z⟩|⟨n,z⟩
   .exact .inl ⟨j,z⟩
   .exact .inr (.inr (.inr ⟨i,z,n⟩))
  .exact .inr (.inl z)
  .exact .inr (.inr (.inl z))
 have back:∀a,(Fr a\/∃j,R2 j a)->Own R1 (U F0 Ox) a\/H1 a=none:=λa z=>by
  rcases Pc.own a z with⟨j,z⟩|z
  .exact .inl (sub a (.inl ⟨j,z⟩))
  .exact .inr z
 have back2:∀a,(Fr a\/∃j,R2 j a)->(F0 a\/∃i,R1 i a)\/H1 a=none:=λa z=>by
  rcases Pc.own a z with⟨j,z⟩|z
  .rcases rqc j a z with⟨i,_,z⟩|z
   .exact .inl (.inr ⟨i,z⟩)
   .exact .inl (.inl (a3 j a z))
  .exact .inr z
 have n1:∀a,H1 a=none->H a=none:=λa z=>by
  cases q:H a with
  |none=>rfl
  |some o=>
   obtain⟨o',q'⟩:=P.dom a o q;rw[z]at q';cases q'
 have rqsub:∀j a,Rq j a->Own R1 (U F0 Ox) a:=λj a z=>sub a (.inl ⟨j,z⟩);have env3:EnvOk K ds1 (U Fr Ox) H2 σ (wb as ψ en1) R3:=by
  refine⟨λi u hu=>?_,λi i' a z z'=>?_,λi a z z2=>?_,λa z=>Pc.env.dom a (sub3 a z),by rw[oP];exact P.env.l1,P.env.l2⟩
  .by_cases q:∃j:Nat,as[j]?=some (.inr i)
   .obtain⟨j,q⟩:=q;obtain⟨v,b1,b2,b3⟩:=a2 j i q;have hil:i<en1.length:=by rw[P.env.l1];exact(zah.mp b3).1
    rw[sd as ψ en1 i j q (λj' z=>c3 j' j i (asl j' i z) b2) outl hil]at hu;obtain⟨v',d,g1,g2,g3⟩:=Pc.env.at_ j u hu;rw[zao,b1]at g1;cases g1;obtain⟨qd,q1,q2⟩:=c2 j i b2;rw[g2]at q1;cases q1;refine⟨v,d,b3,q2,?_⟩;rw[r31 i j b2];exact Ow.grow sub3 u (λ_ z=>z) g3
   .rw[i4 as ψ en1 i λj z=>q ⟨j,z⟩]at hu;have ns:∀j:Nat,sh[j]?≠some (.inr i):=λj z=>q ⟨j,asr j i z⟩;obtain⟨v,d,g1,g2,g3⟩:=P.env.at_ i u hu;refine⟨v,d,g1,g2,?_⟩;rw[r32 i ns];refine Ow.mv (G:=R1 i) ⟨λa o q z=>Pc.keep a o q λj zj=>?_,λa z=>?_⟩ u (λ_ z=>z) g3
    .rcases z with z|z
     .exact z (rqsub j a zj)
     .rcases rqc j a zj with⟨i',q',z'⟩|z'
      .have:=P.env.dj i i' a z z';subst this;exact ns j q'
      .exact P.env.dx i a z (.inl (a3 j a z'))
    .rcases z with⟨i',z⟩|z|z
     .rcases r3c i' a z with⟨j,_,z⟩|⟨n,z⟩
      .exact back a (.inr ⟨j,z⟩)
      .exact .inl (.inl ⟨i',z⟩)
     .exact back a (.inl z)
     .exact .inl (.inr (.inr z))
  .rcases r3c i a z with⟨j,q,z⟩|⟨n,z⟩<;>rcases r3c i' a z' with⟨j',q',z'⟩|⟨n',z'⟩
   .have:=Pc.env.dj j j' a z z';subst this;rw[q]at q';cases q';rfl
   .exact absurd (.inr (.inr ⟨i',z',n'⟩)) (Pc.env.dx j a z)
   .exact absurd (.inr (.inr ⟨i,z,n⟩)) (Pc.env.dx j' a z')
   .exact P.env.dj i i' a z z'
  .rcases r3c i a z with⟨j,q,z⟩|⟨n,z⟩
   .exact Pc.env.dx j a z (z2.imp id .inl)
   .rcases z2 with z2|z2
    .exact Pc.fx a z2 (.inr ⟨i,z,n⟩)
    .exact P.env.dx i a z (.inr z2)
 refine k v H2 R3 Fr ⟨env3,λa z z2=>Pc.fx a z (.inl z2),λa o q n=>?_,λa z=>?_,λa o q=>?_,λhp=>?_⟩ (λhp i0 hi0=>⟨λa o q z=>?_,?_⟩) (Ow.grow sub3 r (λ_ z=>z) oc)
 .refine Pc.keep a o (P.keep a o q n) λj z=>?_;have nn:∀i,¬R1 i a:=λi z=>by
   rcases P.own a (.inr ⟨i,z⟩)with⟨i',z⟩|z
   .exact n i' z
   .rw[q]at z;cases z
  rcases rqc j a z with⟨i,_,z⟩|z
  .exact nn i z
  .rcases P.own a (.inl (a3 j a z))with⟨i',z⟩|z
   .exact n i' z
   .rw[q]at z;cases z
 .have:(F0 a\/∃i,R1 i a)\/H1 a=none:=by
   rcases z with z|⟨i,z⟩
   .exact back2 a (.inl z)
   .rcases r3c i a z with⟨j,_,z⟩|⟨n,z⟩
    .exact back2 a (.inr ⟨j,z⟩)
    .exact .inl (.inr ⟨i,z⟩)
  rcases this with z|z
  .exact P.own a z
  .exact .inr (n1 a z)
 .obtain⟨o',q'⟩:=P.dom a o q;exact Pc.dom a o' q'
 .obtain⟨hp1,hp2⟩:=(zbm _ _▸hp:p=true/\cG sh=true);obtain⟨b1,b2,b3⟩:=P.pure hp1;have ns:=md hp2;refine⟨?_,?_,λa o q=>?_⟩
  .show wb as ψ en1=en;rw[<-b1];refine List.ext_getElem? λi=>?_;exact i4 as ψ en1 i λj z=>ns j i (asl j i z)
  .rw[<-b2]
   funext i
   exact r32 i λj=>ns j i
  .refine Pc.keep a o (b3 a o q) λj z=>?_;rcases rqc j a z with⟨i,z,_⟩|z
   .exact ns j i z
   .have zf:=a3 j a z;rcases P.own a (.inl zf)with⟨i,z2⟩|z2
    .rw[<-b2]at z2;exact P.env.dx i a z2 (.inl zf)
    .rw[q]at z2;cases z2
 .obtain⟨b1,b2,b3⟩:=P.pure hp;rw[<-b2]at z;refine Pc.keep a o (b3 a o q) λj zj=>?_;rcases rqc j a zj with⟨i',q',z'⟩|z'
  .have:=P.env.dj i0 i' a z z';subst this;exact hi0 j q'
  .exact P.env.dx i0 a z (.inl (a3 j a z'))
 .obtain⟨b1,b2,b3⟩:=P.pure hp;rw[i4 as ψ en1 i0 λj z=>hi0 j (asl j i0 z),b1]
def G4{E:XK}{F:List D->Option (D×En)}(hc:bL ds1 sh dps=true)(h:∃Ox en R t en',EnvOk K ds Ox H σ en R/\am F fa en=some (t,en')/\∀v H' R' F,Post K (p&&cG sh) ds1 Ox σ H en R en' H' R' F->(p=true->∀i0:Nat,(∀j:Nat,sh[j]?≠some (.inr i0))->(∀a o,H a=some o->R i0 a->H' a=some o)/\en'[i0]?=en[i0]?)->Ow K (Own R' (U F Ox)) H' t dr v F->Q v H'):kW (spF K dps dr F) [] E (tFA K p ds ds1 sh fa) σ H Q:=by
 obtain⟨Ox,en,R,t,en',e,hf,k⟩:=h;unfold am at hf;obtain⟨⟨as,en1⟩,h1,hf⟩:=zaa.mp hf;obtain⟨ts,h2,hf⟩:=zaa.mp hf;obtain⟨⟨r,ψ⟩,h3,hf⟩:=zab.mp hf;cases hf;refine⟨Ox,en,R,as,en1,e,h1,λvs H1 R1 F0 P o=>?_⟩;rw[zbs];exact uB hc P o h2 h3 k
def xx{E:XK}{F:List D->Option (D×En)}(hc:bL ds1 sh dps=true)(h:tF K (p&&cG sh) ds ds1 dr (am F fa) σ H Q):kW (spF K dps dr F) [] E (tFA K p ds ds1 sh fa) σ H Q:=
 let⟨Ox,en,R,t,en',e,hf,k⟩:=h
 G4 hc ⟨Ox,en,R,t,en',e,hf,λv H' R' F P _ o=>k v H' R' F P o⟩
end
inductive Fl where
 |nx (en:En)|rt (t:D) (en:En)|ct (en:En)
abbrev MS:=En->Option Fl
variable{m m1 m2:MS}
structure Jd where
 lk:List Nat
 dsr:List Nat
 dr:Nat
 dsl:List Nat
variable{J:Jd}
structure PostS(K:zbV)(lk:List Nat)(ds':List Nat)(Ox:AS)(σ:St)(H:Hp)(R:Nat->AS)(σ':St)(en':En)(H':Hp)(R':Nat->AS)(F:AS):Prop where
 env:EnvOk K ds' (U F Ox) H' σ' en' R'
 fx:∀a,F a->¬Ox a
 keep:∀a o,H a=some o->(∀i,¬R i a)->H' a=some o
 own:∀a,(F a\/∃i,R' i a)->(∃i,R i a)\/H a=none
 dom:∀a o,H a=some o->∃o',H' a=some o'
 lk:∀j∈lk,σ'[j]?=σ[j]?
def Hh(K:zbV)(J:Jd)(ds':List Nat)(D:Ends)(σ:St)(H:Hp)(Ox:AS)(R:Nat->AS):Fl->Prop
 |.nx en'=>∀σ' H' R',PostS K J.lk ds' Ox σ H R σ' en' H' R' NoA->D.nx σ' H'
 |.ct en'=>∀σ' H' R',PostS K J.lk J.dsl Ox σ H R σ' en' H' R' NoA->D.ct σ' H'
 |.rt t en'=>∀v σ' H' R' F,PostS K J.lk J.dsr Ox σ H R σ' en' H' R' F->Ow K (Own R' (U F Ox)) H' t J.dr v F->D.rt v H'
inductive tFS(K:zbV)(J:Jd)(ds ds':List Nat)(f:MS)(D:Ends)(σ:St)(H:Hp):Prop
 |mk (Ox:AS) (en:En) (R:Nat->AS) (fl:Fl) (h0:EnvOk K ds Ox H σ en R) (h1:f en=some fl) (h2:Hh K J ds' D σ H Ox R fl)
noncomputable def aj(f g:MS):MS:=λen=>(f en).bind λfl=>match fl with
 |.nx en1=>g en1
 |.rt t en1=>some (.rt t en1)
 |.ct en1=>some (.ct en1)
noncomputable def aw(i:Nat)(f:ME):MS:=λen=>(f en).map λr=>.nx (r.2.set i (some r.1))
noncomputable def dw(f:ME):MS:=λen=>(f en).map λr=>.nx r.2
noncomputable def az(f:ME):MS:=λen=>(f en).map λr=>.rt r.1 r.2
noncomputable def HZ:MS:=λen=>some (.rt .none en)
noncomputable def aQ:MS:=λen=>some (.nx en)
noncomputable def Ia:MS:=λen=>some (.ct en)
noncomputable def pd:MS:=λ_=>none
noncomputable def sIf(c:MT)(f g:MS):MS:=λen=>(c en).bind λr=>if r.1 then f r.2 else g r.2
section
variable{c:MT}{D:Ends}
def PostS.refl(e:EnvOk K ds Ox H σ en R):PostS K lk ds Ox σ H R σ en H R NoA:=
 ⟨by rw[ij];exact e,λ_ z=>z.elim,λ_ _ q _=>q,λa z=>z.elim (λz=>z.elim) .inl,λa o q=>⟨o,q⟩,λ_ _=>rfl⟩
def PostS.env0{F:AS}(P:PostS K lk ds' Ox σ H R σ' en' H' R' F):EnvOk K ds' Ox H' σ' en' R':=P.env.fewer λa z=>.inr z
def PostS.less{F:AS}(P:PostS K lk ds' Ox σ H R σ' en' H' R' F)(h:∀a,F' a->F a):PostS K lk ds' Ox σ H R σ' en' H' R' F':=
 ⟨P.env.fewer λa z=>z.imp (h a) id,λa z=>P.fx a (h a z),P.keep,λa z=>P.own a (z.imp (h a) id),P.dom,P.lk⟩
def PostS.after{σ1 σ2:St}{R2:Nat->AS}{F:AS}(P1:PostS K lk ds1 Ox σ H R σ1 en1 H1 R1 NoA)(P2:PostS K lk ds2 Ox σ1 H1 R1 σ2 en2 H' R2 F):PostS K lk ds2 Ox σ H R σ2 en2 H' R2 F:=by
 have n1:∀a,H1 a=none->H a=none:=λa z=>by
  cases q:H a with
  |none=>rfl
  |some o=>
   obtain⟨o',q'⟩:=P1.dom a o q;rw[z]at q';cases q'
 refine⟨P2.env,P2.fx,λa o q n=>?_,λa z=>?_,λa o q=>?_,λj hj=>(P2.lk j hj).trans (P1.lk j hj)⟩
 .refine P2.keep a o (P1.keep a o q n) λi z=>?_;rcases P1.own a (.inr ⟨i,z⟩)with⟨j,z⟩|z
  .exact n j z
  .rw[q]at z;cases z
 .rcases P2.own a z with z|z
  .exact P1.own a (.inr z)
  .exact .inr (n1 a z)
 .obtain⟨o',q'⟩:=P1.dom a o q;exact P2.dom a o' q'
def Post.s{F:AS}(P:Post K p ds' Ox σ H en R en' H' R' F):PostS K lk ds' Ox σ H R σ en' H' R' F:=⟨P.env,P.fx,P.keep,P.own,P.dom,λ_ _=>rfl⟩
def PostS.cut{F:AS}(P:PostS K lk ds1 Ox σ H R σ' en' H' R' F)(hd:leD ds2 ds1=true):∃R2,(∀i a,R2 i a->R' i a)/\PostS K lk ds2 Ox σ H R σ' en' H' R2 F:=by
 obtain⟨R2,s1,e2⟩:=P.env.cut (dN hd).1 (dN hd).2;exact⟨R2,s1,e2,P.fx,P.keep,λa z=>P.own a (z.imp id λ⟨i,z⟩=>⟨i,s1 i a z⟩),P.dom,P.lk⟩
def Fo(h:tFS K J ds ds aQ D σ H):Af D σ H:=by
 obtain⟨Ox,en,R,fl,e,hf,k⟩:=h;cases hf;exact k σ H R (PostS.refl e)
def Fk(h:tFS K J ds ds2 (aj m1 m2) D σ H):DX (tFS K J ds ds1 m1) (tFS K J ds1 ds2 m2) D σ H:=by
 obtain⟨Ox,en,R,fl,e,hf,k⟩:=h;unfold aj at hf;obtain⟨fl1,h1,hf⟩:=zaa.mp hf;refine⟨Ox,en,R,fl1,e,h1,?_⟩;cases fl1 with
 |nx en1=>
  intro σ1 H1 R1 P1;refine⟨Ox,en1,R1,fl,P1.env0,hf,?_⟩;cases fl with
  |nx en2=>exact λσ2 H2 R2 P2=>k σ2 H2 R2 (P1.after P2)
  |ct en2=>exact λσ2 H2 R2 P2=>k σ2 H2 R2 (P1.after P2)
  |rt t en2=>exact λv σ2 H2 R2 F P2 o=>k v σ2 H2 R2 F (P1.after P2) o
 |ct en1=>cases hf;exact k
 |rt t en1=>cases hf;exact k
def Fj(hd:leD ds1 ds2=true)(h:tFS K J ds ds1 m D σ H):tFS K J ds ds2 m D σ H:=by
 obtain⟨Ox,en,R,fl,e,hf,k⟩:=h;refine⟨Ox,en,R,fl,e,hf,?_⟩;cases fl with
 |nx en2=>
  intro σ2 H2 R2 P2;obtain⟨R3,_,P3⟩:=P2.cut hd;exact k σ2 H2 R3 P3
 |ct en2=>exact k
 |rt t en2=>exact k
def Fq(h:tFS K J ds ds1 (dw f) D σ H):Ag (tF K p ds ds1 d f) D σ H:=by
 obtain⟨Ox,en,R,fl,e,hf,k⟩:=h;unfold dw at hf;obtain⟨⟨t,en1⟩,h1,hf⟩:=zab.mp hf;cases hf;exact⟨Ox,en,R,t,en1,e,h1,λv H1 R1 F P o=>k σ H1 R1 (P.s.less λ_ z=>z.elim)⟩
def Fm(hd:leD J.dsr ds1=true)(h:tFS K J ds ds' (az f) D σ H):DY (tF K p ds ds1 J.dr f) D σ H:=by
 obtain⟨Ox,en,R,fl,e,hf,k⟩:=h;unfold az at hf;obtain⟨⟨t,en1⟩,h1,hf⟩:=zab.mp hf;cases hf;refine⟨Ox,en,R,t,en1,e,h1,λv H1 R1 F P o=>?_⟩;obtain⟨R2,s1,P2⟩:=(P.s (lk:=J.lk)).cut hd;exact k v σ H1 R2 F P2 (Ow.grow (λa z=>z.imp (λ⟨i,z⟩=>⟨i,s1 i a z⟩) id) t (λ_ z=>z) o)
def xc(h:tFS K J ds ds' pd D σ H):uw D σ H:=by
 obtain⟨Ox,en,R,fl,e,hf,k⟩:=h;cases hf
def GQ(h:tFS K J ds ds2 (sIf c m1 m2) D σ H):D3 (tFT K p ds ds1 c) (tFS K J ds1 ds2 m1) (tFS K J ds1 ds2 m2) D σ H:=by
 obtain⟨Ox,en,R,fl,e,hf,k⟩:=h;unfold sIf at hf;obtain⟨⟨b,en1⟩,h1,hf⟩:=zaa.mp hf;refine⟨Ox,en,R,b,en1,e,h1,λH1 R1 P1=>?_⟩;have fin:∀m,m en1=some fl->tFS K J ds1 ds2 m D σ H1:=λm hm=>by
  refine⟨Ox,en1,R1,fl,P1.env0,hm,?_⟩;cases fl with
  |nx en2=>exact λσ2 H2 R2 P2=>k σ2 H2 R2 (P1.s.after P2)
  |ct en2=>exact λσ2 H2 R2 P2=>k σ2 H2 R2 (P1.s.after P2)
  |rt t en2=>exact λv σ2 H2 R2 F P2 o=>k v σ2 H2 R2 F (P1.s.after P2) o
 cases b with
 |true=>exact fin m1 hf
 |false=>exact fin m2 hf
def PostS.store{F:AS}(P:Post K p ds1 Ox σ H en R en1 H' R' F)(o:Ow K (Own R' (U F Ox)) H' t d v F)(hi:i<ds1.length)(hl:i∉lk):
  PostS K lk (ds1.set i d) Ox σ H R (σ.set i (some v)) (en1.set i (some t)) H' (λj=>if j=i then F else R' j) NoA:=by
 have l1:=P.env.l1;have l2:=P.env.l2;have sub:∀a,Own (λj=>if j=i then F else R' j) Ox a->Own R' (U F Ox) a:=λa z=>by
  rcases z with⟨j,z⟩|z
  .by_cases hj:j=i
   .rw[if_pos hj]at z;exact .inr (.inl z)
   .rw[if_neg hj]at z;exact .inl ⟨j,z⟩
  .exact .inr (.inr z)
 refine⟨?_,λ_ z=>z.elim,P.keep,λa z=>?_,P.dom,λj hj=>?_⟩
 .rw[ij];refine⟨λj u hu=>?_,λj j' a z z'=>?_,λj a z z2=>?_,λa z=>P.env.dom a (sub a z),by rw[zaV,zaV];exact l1,by rw[zaV,zaV];exact l2⟩
  .by_cases hj:j=i
   .subst hj;rw[zaP (by lia)]at hu;cases hu;refine⟨v,d,zaP (by lia),zaP hi,?_⟩;rw[if_pos rfl];exact Ow.grow sub t (λ_ z=>z) o
   .rw[zaO (Ne.symm hj)]at hu;obtain⟨v',d',g1,g2,g3⟩:=P.env.at_ j u hu;refine⟨v',d',by rw[zaO (Ne.symm hj)];exact g1,by rw[zaO (Ne.symm hj)];exact g2,?_⟩;rw[if_neg hj];exact Ow.grow sub u (λ_ z=>z) g3
  .by_cases hj:j=i<;>by_cases hj':j'=i
   .rw[hj,hj']
   .rw[if_pos hj]at z;rw[if_neg hj']at z';exact absurd (.inl z) (P.env.dx j' a z')
   .rw[if_neg hj]at z;rw[if_pos hj']at z';exact absurd (.inl z') (P.env.dx j a z)
   .rw[if_neg hj]at z;rw[if_neg hj']at z';exact P.env.dj j j' a z z'
  .by_cases hj:j=i
   .rw[if_pos hj]at z;exact P.fx a z z2
   .rw[if_neg hj]at z;exact P.env.dx j a z (.inr z2)
 .rcases z with z|⟨j,z⟩
  .exact z.elim
  .by_cases hj:j=i
   .rw[if_pos hj]at z;exact P.own a (.inl z)
   .rw[if_neg hj]at z;exact P.own a (.inr ⟨j,z⟩)
 .rw[zaO];intro z;subst z;exact hl hj
def vp(hi:i<ds1.length)(hl:i∉J.lk)(h:tFS K J ds (ds1.set i d) (aw i f) D σ H):lD (tF K p ds ds1 d f) (mr i) D σ H:=by
 obtain⟨Ox,en,R,fl,e,hf,k⟩:=h;unfold aw at hf;obtain⟨⟨t,en1⟩,h1,hf⟩:=zab.mp hf;cases hf;exact⟨Ox,en,R,t,en1,e,h1,λv H1 R1 F P o=>k _ H1 _ (PostS.store P o hi hl)⟩
abbrev MG:=PyData->En->Option En
inductive tFG(K:zbV)(lk:List Nat)(ds ds':List Nat)(g:MG)(v:V)(σ:St)(H:Hp)(Q:St->Hp->Prop):Prop
 |mk (Ox:AS) (en:En) (R:Nat->AS) (t:PyData) (en':En) (h0:EnvOk K ds Ox H σ en R) (h1:Ow K (Own R Ox) H t 0 v NoA) (h2:g t en=some en') (h3:∀σ' R',PostS K lk ds' Ox σ H R σ' en' H R' NoA->(∀j∈lk,R' j=R j)->Q σ' H)
inductive tFGs(K:zbV)(lk:List Nat)(ds ds':List Nat)(g:List PyData->En->Option En)(vs:List V)(σ:St)(H:Hp)(Q:St->Hp->Prop):Prop
 |mk (Ox:AS) (en:En) (R:Nat->AS) (ts:List PyData) (en':En) (h0:EnvOk K ds Ox H σ en R) (h1:Ows K (Own R Ox) H ts 0 vs NoA) (h2:g ts en=some en') (h3:∀σ' R',PostS K lk ds' Ox σ H R σ' en' H R' NoA->(∀j∈lk,R' j=R j)->Q σ' H)
noncomputable def gN(i:Nat):MG:=λt en=>some (en.set i (some t))
noncomputable def gs0:List PyData->En->Option En:=λts en=>match ts with
 |[]=>some en
 |_=>none
noncomputable def gsC(g:MG)(r:List PyData->En->Option En):List PyData->En->Option En:=λts en=>match ts with
 |t::ts=>(g t en).bind λen1=>r ts en1
 |[]=>none
noncomputable def gT(g:List PyData->En->Option En):MG:=λt en=>match t with
 |.tuple ts=>g ts en
 |_=>none
variable{g g1:MG}{gs:List PyData->En->Option En}{QS:St->Hp->Prop}
def BS(hi:i<ds.length)(hl:i∉lk)(h:tFG K lk ds (ds.set i 0) (gN i) v σ H QS):mr i v σ H QS:=by
 obtain⟨Ox,en,R,t,en',e,o,hf,k⟩:=h;cases hf;exact k _ _ (PostS.store (p:=true) (Post.refl e) (by rw[show(λ_=>False:AS)=NoA from rfl,ij];exact o) hi hl) λj hj=>if_neg (λ(z:j=i)=>hl (by rw[<-z];exact hj))
def BR(h:tFGs K lk ds ds gs0 vs σ H QS):Ff vs σ H QS:=by
 obtain⟨Ox,en,R,ts,en',e,o,hf,k⟩:=h;cases ts with
 |nil=>cases hf;exact⟨o,k σ R (PostS.refl e) λ_ _=>rfl⟩
 |cons t ts=>cases hf
def xq(h:tFGs K lk ds ds2 (gsC g gs) vs σ H QS):AI (tFG K lk ds ds1 g) (tFGs K lk ds1 ds2 gs) vs σ H QS:=by
 obtain⟨Ox,en,R,ts,en',e,o,hf,k⟩:=h;cases ts with
 |nil=>cases hf
 |cons t ts=>
  obtain⟨en1,h1,h2⟩:=zaa.mp hf;obtain⟨v,r,F1,F2,e1,s1,s2,s3,o1,o2⟩:=o;refine⟨v,r,e1,Ox,en,R,t,en1,e,Ow.any0 t o1,h1,λσ1 R1 P1 r1=>?_⟩;refine⟨Ox,en1,R1,ts,en',P1.env0,Ows.any0 ts (Ows.mv (G:=NoA) ⟨λa o q _=>q,λa z=>?_⟩ ts (F:=NoA) (λ_ z=>z) (Ows.any0 ts o2)),h2,λσ2 R2 P2 r2=>k σ2 R2 (P1.after P2) λj hj=>(r2 j hj).trans (r1 j hj)⟩;rcases z with z|z
  .exact(P1.own a (.inr z)).imp .inl id
  .exact .inl (.inr z)
def Fy(hn:∀ts en,(∃en',gs ts en=some en')->ts.length=n)(h:tFG K lk ds ds1 (gT gs) v σ H QS):Fe K n (tFGs K lk ds ds1 gs) v σ H QS:=by
 obtain⟨Ox,en,R,t,en',e,o,hf,k⟩:=h;cases t with
 |tuple ts=>
  have hf':gs ts en=some en':=hf;obtain⟨a,vs,e1,⟨_,h1,h2⟩|⟨z,_⟩⟩:=o
  .refine⟨a,vs,e1,h1.sq,?_,Ox,en,R,ts,en',e,h2,hf',k⟩;rw[<-hn ts en ⟨en',hf'⟩]
   have:∀{ts:List PyData} {vs:List V} {F:AS},Ows K (Own R Ox) H ts 0 vs F->vs.length=ts.length:=λ{ts}=>by
    induction ts with
    |nil=>intro vs F h;rw[show vs=[]from h];rfl
    |cons t ts ih=>
     intro vs F h;obtain⟨v,r,F1,F2,e,h1,h2,h3,h4,h5⟩:=h;rw[e,zac,zac,ih h5]
   exact this h2
  .exact absurd rfl z
 |_=>cases hf
abbrev MI:=En->Option (List PyData×En)
def jN(K:zbV)(O:AS)(H0:Hp)(J:It)(ts:List PyData):Prop:=
 ∀(i:Nat) (H:Hp) (O1:AS),(∀a o,H0 a=some o->¬O a->H a=some o)->(∀a,O1 a->O a\/H0 a=none)->(∀a,O1 a->∃o,H a=some o) ->
  (∀t,ts[i]?=some t->J.go i H/\∀x H1,J.yld i H x H1->(∀a o,H a=some o->H1 a=some o)/\Ow K O1 H1 t 0 x NoA)/\(ts.length=i->J.stop i H)
inductive tFI(K:zbV)(p:Bool)(ds ds':List Nat)(f:MI)(σ:St)(H:Hp)(RJ:It->Hp->Prop):Prop
 |mk (Ox:AS) (en:En) (R:Nat->AS) (ts:List PyData) (en':En) (h0:EnvOk K ds Ox H σ en R) (h1:f en=some (ts,en')) (h2:∀J H' R',Post K p ds' Ox σ H en R en' H' R' NoA->jN K (Own R' Ox) H' J ts->RJ J H')
noncomputable def cA(g:MG)(b:MS):List PyData->En->Option Fl
 |[],en=>some (.nx en)
 |t::ts,en=>(g t en).bind λen1=>(b en1).bind λfl=>match fl with
  |.nx en2=>cA g b ts en2
  |.ct en2=>cA g b ts en2
  |.rt r en2=>some (.rt r en2)
def dg(fi:MI)(g:MG)(b:MS):MS:=λen=>(fi en).bind λr=>cA g b r.1 r.2
def Fp{fi:MI}(h:tFS K J ds ds1 (dg fi g m) D σ H):D4 (tFI K p ds ds1 fi) (tFG K J.lk ds1 ds2 g) (tFS K { J with dsl:=ds1 } ds2 ds1 m) D σ H:=by
 obtain⟨Ox,en,R,fl,e,hf,k⟩:=h;unfold dg at hf;obtain⟨⟨ts,en1⟩,h1,hf⟩:=zaa.mp hf;refine⟨Ox,en,R,ts,en1,e,h1,λJt H1 R1 P1 wk=>?_⟩;refine⟨λi n σ' H'=>∃en' R',n=ts.length-i/\i<=ts.length/\PostS K J.lk ds1 Ox σ H1 R1 σ' en' H' R' NoA/\cA g m (ts.drop i) en'=some fl,⟨_,en1,R1,rfl,zbj _,PostS.refl P1.env0,hf⟩,?_⟩;rintro i n σ2 H2 ⟨en2,R2,rfl,hi,P2,hr⟩;obtain⟨w1,w2⟩:=wk i H2 (Own R2 Ox) (λa o q z=>P2.keep a o q λj zj=>z (.inl ⟨j,zj⟩)) (λa z=>by
  rcases z with z|z
  .exact(P2.own a (.inr z)).imp .inl id
  .exact .inl (.inr z)) λa z=>P2.env0.dom a z
 by_cases hlt:i<ts.length
 .obtain⟨go,yl⟩:=w1 ts[i] (zak hlt);have hd:ts.drop i=ts[i]::ts.drop (i+1):=List.drop_eq_getElem_cons hlt;rw[hd]at hr;obtain⟨en3,h3,hr⟩:=zaa.mp hr;obtain⟨fl2,h4,hr⟩:=zaa.mp hr;refine .inr ⟨go,λσ' H'=>∃en' R',PostS K J.lk ds1 Ox σ H1 R1 σ' en' H' R' NoA/\cA g m (ts.drop (i+1)) en'=some fl,λσ' H' ⟨en',R',P',h'⟩=>⟨ts.length-(i+1),by lia,en',R',rfl,hlt,P',h'⟩,λx H3 y=>?_⟩;obtain⟨gr,ox⟩:=yl x H3 y;have P3:Post K true ds1 Ox σ2 H2 en2 R2 en2 H3 R2 NoA:=Post.new P2.env0 gr λ_ z=>z.elim;refine⟨Ox,en2,R2,ts[i],en3,P3.env0,ox,h3,λσ4 R4 P4 _=>?_⟩;have P4':=(P2.after P3.s).after P4;refine⟨Ox,en3,R4,fl2,P4.env0,h4,?_⟩;cases fl2 with
  |nx en5=>exact λσ5 H5 R5 P5=>⟨en5,R5,P4'.after P5,hr⟩
  |ct en5=>exact λσ5 H5 R5 P5=>⟨en5,R5,P4'.after P5,hr⟩
  |rt t en5=>
   cases hr;exact λv σ5 H5 R5 F P5 o=>k v σ5 H5 R5 F (P1.s.after (P4'.after P5)) o
 .have e2:i=ts.length:=by lia
  subst e2;rw[List.drop_length]at hr;cases hr;exact .inl ⟨w2 rfl,k σ2 H2 R2 (P1.s.after P2)⟩
noncomputable def whN(c:MT)(b:MS):Nat->En->Option Fl
 |0,_=>none
 |n+1,en=>(c en).bind λr=>if r.1 then(b r.2).bind λfl=>match fl with
   |.nx en2=>whN c b n en2
   |.ct en2=>whN c b n en2
   |.rt t en2=>some (.rt t en2)
  else some (.nx r.2)
open Classical in
noncomputable def cw(c:MT)(b:MS):MS:=λen=>if h:∃n fl,whN c b n en=some fl then some h.choose_spec.choose else none
def iP{b:MS}{fl:Fl}(h:cw c b en=some fl):∃n,whN c b n en=some fl:=by
 unfold cw at h;split at h
 .next q=>
  cases h;exact⟨q.choose,q.choose_spec.choose_spec⟩
 .cases h
def xa(h:tFS K J ds ds1 (cw c m) D σ H):uv (tFT K p ds ds1 c) (tFS K { J with dsl:=ds } ds1 ds m) D σ H:=by
 obtain⟨Ox,en,R,fl,e,hf,k⟩:=h;obtain⟨n0,hn⟩:=iP hf;refine⟨λn σ' H'=>∃en' R',PostS K J.lk ds Ox σ H R σ' en' H' R' NoA/\whN c m n en'=some fl,⟨n0,en,R,PostS.refl e,hn⟩,?_⟩;rintro n σ2 H2 ⟨en2,R2,P2,hr⟩;cases n with
 |zero=>cases hr
 |succ n=>
  unfold whN at hr;obtain⟨⟨b,en3⟩,h3,hr⟩:=zaa.mp hr;refine⟨Ox,en2,R2,b,en3,P2.env0,h3,λH3 R3 P3=>?_⟩;cases b with
  |false=>
   cases hr;rw[if_neg zbn];exact k σ2 H3 R3 (P2.after P3.s)
  |true=>
   rw[if_pos rfl]at hr ⊢;obtain⟨fl2,h4,hr⟩:=zaa.mp hr;refine⟨λσ' H'=>∃en' R',PostS K J.lk ds Ox σ H R σ' en' H' R' NoA/\whN c m n en'=some fl,λσ' H' q=>⟨n,Nat.lt_succ_self _,q⟩,Ox,en3,R3,fl2,P3.env0,h4,?_⟩;have P3':=P2.after (P3.s (lk:=J.lk));cases fl2 with
   |nx en5=>exact λσ5 H5 R5 P5=>⟨en5,R5,P3'.after P5,hr⟩
   |ct en5=>exact λσ5 H5 R5 P5=>⟨en5,R5,P3'.after P5,hr⟩
   |rt t en5=>
    cases hr;exact λv σ5 H5 R5 F P5 o=>k v σ5 H5 R5 F (P3'.after P5) o
end
variable{g1:MG}{fi:MI}
noncomputable def lcF(g:MG)(c:MT)(f:ME):List D->List D->En->Option (List D×En)
 |[],acc,en=>some (acc,en)
 |t::ts,acc,en=>(g t en).bind λen1=>(c en1).bind λr=>if r.1 then(f r.2).bind λq=>if acc.length<sizeLine then lcF g c f ts (acc++[q.1]) q.2 else none else lcF g c f ts acc r.2
noncomputable def dR(js:List (Option Nat))(en:En):En:=js.map λj=>match j with
 |some j=>(en[j]?).join
 |none=>none
noncomputable def wbB:List (Option Nat)->En->En->En
 |some j::js,o::r,en=>wbB js r (en.set j o)
 |none::js,_::r,en=>wbB js r en
 |_,_,en=>en
def eLC(q:Bool)(fi:MI)(g:MG)(c:MT)(f:ME)(js:List (Option Nat)):ME:=λen=>(fi en).bind λr=>(lcF g c f r.1 [] (dR js r.2)).map λz=>(.list z.1,if q then r.2 else wbB js z.2 r.2)
noncomputable def fE(ds:List Nat):List (Option Nat)->List Nat->Bool
 |[],[]=>true
 |some j::js,d::r=>decide (ds[j]?=some d)&&(decide (some j∉js)&&fE ds js r)
 |none::js,_::r=>fE ds js r
 |_,_=>false
section
variable{c:MT}{g:MG}  
theorem jM:∀{js:List (Option Nat)} {dsi:List Nat},fE ds js dsi=true->dsi.length=js.length/\(∀(k j:Nat),js[k]?=some (some j)->∃d,dsi[k]?=some d/\ds[j]?=some d)/\(∀(k k' j:Nat),js[k]?=some (some j)->js[k']?=some (some j)->k=k')
 |[],[],_=>⟨rfl,λk j z=>by simp at z,λk k' j z=>by simp at z⟩
 |some j0::js,d::r,h=>by
  unfold fE at h;rw[zbm,zbm]at h;obtain⟨h1,h2,h3⟩:=h;obtain⟨a,b,c⟩:=jM h3;have n:=of_decide_eq_true h2;refine⟨by rw[zac,zac,a],λk j z=>?_,λk k' j z z'=>?_⟩
  .cases k with
   |zero=>simp at z;subst z;exact⟨d,rfl,of_decide_eq_true h1⟩
   |succ k=>exact b k j (by simpa using z)
  .cases k with
   |zero=>
    simp at z;subst z;cases k' with
    |zero=>rfl
    |succ k'=>exact absurd (zaX (by simpa using z':js[k']?=some (some j0))) n
   |succ k=>
    cases k' with
    |zero=>
     simp at z';subst z';exact absurd (zaX (by simpa using z:js[k]?=some (some j0))) n
    |succ k'=>rw[c k k' j (by simpa using z) (by simpa using z')]
 |none::js,d::r,h=>by
  unfold fE at h;obtain⟨a,b,c⟩:=jM h;refine⟨by rw[zac,zac,a],λk j z=>?_,λk k' j z z'=>?_⟩
  .cases k with
   |zero=>simp at z
   |succ k=>exact b k j (by simpa using z)
  .cases k with
   |zero=>simp at z
   |succ k=>
    cases k' with
    |zero=>simp at z'
    |succ k'=>rw[c k k' j (by simpa using z) (by simpa using z')]
 |[],_::_,h=>nomatch h
 |some _::_,[],h=>nomatch h
 |none::_,[],h=>nomatch h
theorem mV:∀(js:List (Option Nat)) (r en:En),(wbB js r en).length=en.length
 |[],_,_=>by unfold wbB;rfl
 |some _::_,[],_=>by unfold wbB;rfl
 |none::_,[],_=>by unfold wbB;rfl
 |some j::js,o::r,en=>by unfold wbB;rw[mV js r _,zaV]
 |none::js,o::r,en=>by unfold wbB;exact mV js r _
theorem kR:∀(js:List (Option Nat)) (r en:En) (i:Nat),(∀k:Nat,js[k]?≠some (some i))->(wbB js r en)[i]?=en[i]?
 |[],_,_,_,_=>by unfold wbB;rfl
 |some _::_,[],_,_,_=>by unfold wbB;rfl
 |none::_,[],_,_,_=>by unfold wbB;rfl
 |none::js,o::r,en,i,h=>by unfold wbB;exact kR js r en i λj=>h (j+1)
 |some k::js,o::r,en,i,h=>by
  unfold wbB;rw[kR js r _ i λj=>h (j+1),zaO];intro e;subst e;exact h 0 rfl
theorem oQ:∀(js:List (Option Nat)) (r en:En) (i k:Nat),js[k]?=some (some i)->(∀k':Nat,js[k']?=some (some i)->k'=k)->r.length=js.length->i<en.length->(wbB js r en)[i]?=r[k]?
 |[],_,_,_,_,h,_,_,_=>by simp at h
 |some _::js,[],_,_,_,_,_,h,_=>by simp at h
 |none::js,[],_,_,_,_,_,h,_=>by simp at h
 |none::js,o::r,en,i,k,h,u,l,b=>by
  unfold wbB;cases k with
  |zero=>simp at h
  |succ k=>exact oQ js r en i k (by simpa using h) (λj' z=>by have:=u (j'+1) (by simpa using z);lia) (by simpa using l) b
 |some j::js,o::r,en,i,k,h,u,l,b=>by
  unfold wbB;cases k with
  |zero=>
   have e:j=i:=by simpa using h
   subst e;rw[kR js r _ j λj' z=>by have:=u (j'+1) (by simpa using z);lia];rw[zaP b];rfl
  |succ k=>exact oQ js r _ i k (by simpa using h) (λj' z=>by have:=u (j'+1) (by simpa using z);lia) (by simpa using l) (by rw[zaV];exact b)
theorem Ows.snoc:∀{ts:List D} {vs:List V} {F1 F2:AS} {v:V},Ows K O H ts d vs F1->Ow K O H t d v F2->(∀b,F1 b->¬F2 b)->Ows K O H (ts++[t]) d (vs++[v]) (U F1 F2)
 |[],vs,F1,F2,v,h,h2,_=>by
  have e:vs=[]:=h;subst e;exact⟨v,[],F2,NoA,rfl,λ_ z=>.inr z,λ_ z=>z.elim,λ_ _ z=>z.elim,h2,rfl⟩
 |u::ts,vs,F1,F2,v,h,h2,hd=>by
  obtain⟨w,r,G1,G2,e,s1,s2,s3,h4,h5⟩:=h;subst e;refine⟨w,r++[v],G1,U G2 F2,rfl,λb z=>.inl (s1 b z),λb z=>z.imp (s2 b) id,λb z z2=>?_,h4,Ows.snoc h5 h2 λb z=>hd b (s2 b z)⟩;rcases z2 with z2|z2
  .exact s3 b z z2
  .exact hd b (s1 b z) z2
theorem Ows.len:∀{ts:List D} {vs:List V} {F:AS},Ows K O H ts d vs F->vs.length=ts.length
 |[],_,_,h=>by rw[show _=[]from h];rfl
 |t::ts,_,_,h=>by
  obtain⟨v,r,F1,F2,e,h1,h2,h3,h4,h5⟩:=h;rw[e,zac,zac,h5.len]
noncomputable def ge:List (Option Nat)->Nat->List Nat
 |[],_=>[]
 |some _::r,n=>n::ge r (n+1)
 |none::r,n=>ge r (n+1)
theorem jw:∀{js:List (Option Nat)} {n k j:Nat},js[k]?=some (some j)->n+k∈ge js n
 |[],n,k,j,h=>by simp at h
 |some x::r,n,k,j,h=>by
  unfold ge;cases k with
  |zero=>exact zaq
  |succ k=>
   refine zaj _ ?_
   have:=jw (n:=n+1) (k:=k) (j:=j) (by simpa using h);rw[show n+(k+1)=n+1+k by lia];exact this
 |none::r,n,k,j,h=>by
  unfold ge;cases k with
  |zero=>simp at h
  |succ k=>
   have:=jw (n:=n+1) (k:=k) (j:=j) (by simpa using h);rw[show n+(k+1)=n+1+k by lia];exact this
def nr(js:List (Option Nat))(R1:Nat->AS):Nat->AS:=λk=>match js[k]? with
 |some (some j)=>R1 j
 |_=>NoA
def rV(h:js[k]?=some (some j)):nr js R1 k=R1 j:=by unfold nr;rw[h]
def g7(h:nr js R1 k a):∃j,js[k]?=some (some j)/\R1 j a:=by
 unfold nr at h;cases q:js[k]? with
 |none=>rw[q]at h;exact h.elim
 |some o=>
  rw[q]at h;cases o with
  |none=>exact h.elim
  |some j=>exact⟨j,rfl,h⟩
noncomputable def FS(Ox:AS)(D:Addr)(R1:Nat->AS)(js:List (Option Nat)):AS:=λa=>Ox a\/a=D\/∃i,R1 i a/\∀k:Nat,js[k]?≠some (some i)
def FR{D:Addr}(hc:fE ds1 js dsi=true)(E1:EnvOk K ds1 Ox H1 σ en1 R1)(hD:H1 D=none):EnvOk K dsi (FS Ox D R1 js) (upd H1 D (.lst [])) (dQ js σ) (dR js en1) (nr js R1):=by
 obtain⟨cl,c1,c2⟩:=jM hc;have u2:∀a o,H1 a=some o->upd H1 D (.lst []) a=some o:=λa o q=>(bC (o:=.lst []) hD).1 a o q;refine⟨λk t hk=>?_,λk k' a z z'=>?_,λk a z z2=>?_,λa z=>?_,by unfold dR dQ;rw[zad,zad],by unfold dQ;rw[cl,zad]⟩
 .unfold dR at hk;rw[zao]at hk;obtain⟨oj,hj,ht⟩:=zab.mp hk;cases oj with
  |none=>cases ht
  |some j=>
  have ht:en1[j]?=some (some t):=by
   have h2':(en1[j]?).join=some t:=ht;cases q:en1[j]? with
   |none=>rw[q]at h2';cases h2'
   |some o=>rw[q]at h2';exact congrArg some h2'
  obtain⟨v,d,g1,g2,g3⟩:=E1.at_ j t ht;obtain⟨d',q1,q2⟩:=c1 k j hj;rw[g2]at q2;cases q2;refine⟨v,d,?_,q1,?_⟩
  .unfold dQ;rw[zao,hj];show some ((σ[j]?).join)=_;rw[g1];rfl
  rw[rV hj];refine Ow.mv (G:=R1 j) ⟨λa o q _=>u2 a o q,λa z=>?_⟩ t (λ_ z=>z) g3;rcases z with⟨k',z⟩|z|z|⟨i,z,_⟩
  .obtain⟨j',_,z⟩:=g7 z;exact .inl (.inl ⟨j',z⟩)
  .exact .inl (.inr z)
  .exact .inr (z▸hD)
  .exact .inl (.inl ⟨i,z⟩)
 .obtain⟨j,hj,z⟩:=g7 z;obtain⟨j',hj',z'⟩:=g7 z'
  have:=E1.dj j j' a z z';subst this;exact c2 k k' j hj hj'
 .obtain⟨j,hj,z⟩:=g7 z;rcases z2 with z2|z2|⟨i,z2,n⟩
  .exact E1.dx j a z z2
  .obtain⟨o,q⟩:=E1.dom a (.inl ⟨j,z⟩);rw[z2,hD]at q;cases q
  .have:=E1.dj j i a z z2;subst this;exact n k hj
 .rcases z with⟨k,z⟩|z|z|⟨i,z,_⟩
  .obtain⟨j,hj,z⟩:=g7 z;obtain⟨o,q⟩:=E1.dom a (.inl ⟨j,z⟩);exact⟨o,u2 a o q⟩
  .obtain⟨o,q⟩:=E1.dom a (.inr z);exact⟨o,u2 a o q⟩
  .subst z;exact⟨_,ao⟩
  .obtain⟨o,q⟩:=E1.dom a (.inl ⟨i,z⟩);exact⟨o,u2 a o q⟩
def wL{J:It}{fin:List D}{enf:En}{D:Addr}(hc:fE ds1 js dsi=true)(hd:dn d=cd)(hz:d≠0)(hl:lk=ge js 0)(P1:Post K p ds1 Ox σ H en R en1 H1 R1 NoA)(wk:jN K (Own R1 Ox) H1 J ts)(hD:H1 D=none)(h2:lcF g c f ts [] (dR js en1)=some (fin,enf))
  (k:∀v H' R' F,Post K (p&&q) ds1 Ox σ H en R (if q then en1 else wbB js enf en1) H' R' F->Ow K (Own R' (U F Ox)) H' (.list fin) d v F->Q v H'):oK J (tFG K lk dsi dsi g) (tFT K q dsi dsi c) (tF K q dsi dsi cd f) (dQ js σ) H1 D Q:=by
 obtain⟨cl,c1,c2⟩:=jM hc;have E1:=P1.env0;have EI:=FR hc E1 hD;generalize hRI:nr js R1=RI at EI;have ri1:∀k j:Nat,js[k]?=some (some j)->RI k=R1 j:=λk j z=>by rw[<-hRI];exact rV z
 have ric:∀(k:Nat) a,RI k a->∃j,js[k]?=some (some j)/\R1 j a:=λk a z=>by rw[<-hRI]at z;exact g7 z
 let OxI:AS:=FS Ox D R1 js
 have nD:∀a,Own R1 Ox a->a≠D:=λa z z2=>by
  subst z2;obtain⟨o,q⟩:=E1.dom a z;rw[hD]at q;cases q
 have u2:∀a o,H1 a=some o->upd H1 D (.lst []) a=some o:=λa o q=>(bC (o:=.lst []) hD).1 a o q;refine⟨λi n τ H'=>∃eni RI' acc vs Fa,n=ts.length-i/\i<=ts.length/\PostS K lk dsi OxI (dQ js σ) H1 RI τ eni H' RI' Fa/\H' D=some (.lst vs)/\Ows K (Own RI' (U Fa OxI)) H' acc cd vs Fa/\lcF g c f (ts.drop i) acc eni=some (fin,enf) /\
   (q=true->(∀k j:Nat,js[k]?=some (some j)->RI' k=RI k)/\(∀a o,H1 a=some o->H' a=some o)),
  ⟨_,dR js en1,RI,[],[],NoA,rfl,zbj _,⟨by rw[ij];exact EI,λ_ z=>z.elim,λa o q _=>u2 a o q,λa z=>z.elim (λz=>z.elim) .inl,λa o q=>⟨o,u2 a o q⟩,λ_ _=>rfl⟩,ao,rfl,h2,λ_=>⟨λ_ _ _=>rfl,u2⟩⟩,?_⟩
 rintro i n τ H2 ⟨eni,RI2,acc,vs,Fa,rfl,hi,P2,hDl,oacc,hr,pu⟩;have mW:∀a,Own RI2 (U Fa OxI) a->Own R1 Ox a\/H1 a=none:=λa z=>by
  rcases z with z|z|z|z|⟨i,z,_⟩
  .rcases P2.own a (.inr z)with⟨k,z⟩|z
   .obtain⟨j,_,z⟩:=ric k a z;exact .inl (.inl ⟨j,z⟩)
   .exact .inr z
  .rcases P2.own a (.inl z)with⟨k,z⟩|z
   .obtain⟨j,_,z⟩:=ric k a z;exact .inl (.inl ⟨j,z⟩)
   .exact .inr z
  .exact .inl (.inr z)
  .exact .inr (z▸hD)
  .exact .inl (.inl ⟨i,z⟩)
 obtain⟨w1,w2⟩:=wk i H2 (Own RI2 (U Fa OxI)) (λa o q z=>P2.keep a o q λk zk=>by
  obtain⟨j,_,zj⟩:=ric k a zk;exact z (.inl ⟨j,zj⟩)) mW λa z=>P2.env.dom a z
 have DO:OxI D:=.inr (.inl rfl);by_cases hlt:i<ts.length
 .obtain⟨go,yl⟩:=w1 ts[i] (zak hlt);rw[List.drop_eq_getElem_cons hlt]at hr;obtain⟨en3,h3,hr⟩:=zaa.mp hr;obtain⟨⟨b,en4⟩,h4,hr⟩:=zaa.mp hr;refine .inr ⟨go,λτ' H'=>∃eni RI' acc vs Fa,PostS K lk dsi OxI (dQ js σ) H1 RI τ' eni H' RI' Fa/\H' D=some (.lst vs)/\Ows K (Own RI' (U Fa OxI)) H' acc cd vs Fa/\lcF g c f (ts.drop (i+1)) acc eni=some (fin,enf)/\(q=true->(∀k j:Nat,js[k]?=some (some j)->RI' k=RI k)/\(∀a o,H1 a=some o->H' a=some o)),
   λτ' H' z=>by
    obtain⟨eni,RI',acc,vs,Fa,P',x1,x2,x3,x4⟩:=z;exact⟨_,by lia,eni,RI',acc,vs,Fa,rfl,hlt,P',x1,x2,x3,x4⟩,λx H3 y=>?_⟩
  obtain⟨gr,ox⟩:=yl x H3 y;have P3:Post K true dsi (U Fa OxI) τ H2 eni RI2 eni H3 RI2 NoA:=Post.new P2.env gr λ_ z=>z.elim;have chain:∀{τ5 en5 H5 RI5 F5},PostS K lk dsi (U Fa OxI) τ H2 RI2 τ5 en5 H5 RI5 F5->PostS K lk dsi OxI (dQ js σ) H1 RI τ5 en5 H5 RI5 (U Fa F5):=λ{τ5 en5 H5 RI5 F5} P5=>by
   have n1:∀a,H2 a=none->H1 a=none:=λa z=>by
    cases q:H1 a with
    |none=>rfl
    |some o=>
     obtain⟨o',q'⟩:=P2.dom a o q;rw[z]at q';cases q'
   refine⟨mI▸P5.env,λa z z2=>?_,λa o q n=>?_,λa z=>?_,λa o q=>?_,λj hj=>(P5.lk j hj).trans (P2.lk j hj)⟩
   .rcases z with z|z
    .exact P2.fx a z z2
    .exact P5.fx a z (.inr z2)
   .refine P5.keep a o (P2.keep a o q n) λi z=>?_;rcases P2.own a (.inr ⟨i,z⟩)with⟨j,z⟩|z
    .exact n j z
    .rw[q]at z;cases z
   .rcases z with (z|z)|z
    .exact P2.own a (.inl z)
    .rcases P5.own a (.inl z)with z|z
     .exact P2.own a (.inr z)
     .exact .inr (n1 a z)
    .rcases P5.own a (.inr z)with z|z
     .exact P2.own a (.inr z)
     .exact .inr (n1 a z)
   .obtain⟨o',q'⟩:=P2.dom a o q;exact P5.dom a o' q'
  have carry:∀{τ5 en5 H5 RI5 F5},PostS K lk dsi (U Fa OxI) τ H2 RI2 τ5 en5 H5 RI5 F5->Ows K (Own RI5 (U (U Fa F5) OxI)) H5 acc cd vs Fa:=λ{τ5 en5 H5 RI5 F5} P5=>by
   refine Ows.mv (G:=Fa) ⟨λa o q z=>P5.keep a o q λi zi=>?_,λa z=>?_⟩ acc (λ_ z=>z) oacc
   .rcases z with z|z
    .exact z (.inl ⟨i,zi⟩)
    .exact P2.env.dx i a zi (.inl z)
   .rcases z with z | (z|z)|z
    .exact(P5.own a (.inr z)).imp .inl id
    .exact .inl (.inr (.inl z))
    .exact(P5.own a (.inl z)).imp .inl id
    .exact .inl (.inr (.inr z))
  have UFN:U Fa NoA=Fa:=dv λa=>⟨λz=>z.elim id λz=>z.elim,.inl⟩;refine⟨U Fa OxI,eni,RI2,ts[i],en3,P3.env0,ox,h3,λτ4 R4 P4 r4=>?_⟩;have P4':=(P3.s (lk:=lk)).after P4;refine⟨U Fa OxI,en3,R4,b,en4,P4.env0,h4,λH5 R5 P5=>?_⟩;have P5':=P4'.after (P5.s (lk:=lk));have pu5:q=true->(∀k j:Nat,js[k]?=some (some j)->R5 k=RI k)/\(∀a o,H1 a=some o->H5 a=some o):=λhq=>by
   obtain⟨_,b2,b3⟩:=P5.pure hq;obtain⟨e1,e2⟩:=pu hq;refine⟨λk j z=>?_,λa o qq=>b3 a o (gr a o (e2 a o qq))⟩;rw[b2,r4 k (by rw[hl];have:=jw (n:=0) z;rw[za3]at this;exact this)];exact e1 k j z
  cases b with
  |false=>
   dsimp only
   rw[if_neg zbn];have c5:=chain P5';have o5:=carry P5';rw[UFN]at c5 o5;exact⟨en4,R5,acc,vs,Fa,c5,P5'.keep D _ hDl λk z=>P2.env.dx k D z (.inr DO),o5,hr,pu5⟩
  |true=>
   dsimp only
   rw[if_pos rfl];obtain⟨⟨t6,en6⟩,h6,hr⟩:=zaa.mp (show((f en4).bind λq=>if acc.length<sizeLine then lcF g c f (ts.drop (i+1)) (acc++[q.1]) q.2 else none)=some (fin,enf)from hr);refine⟨U Fa OxI,en4,R5,t6,en6,P5.env0,h6,λv H6 R6 F6 P6 o6=>?_⟩;have P6':=P5'.after (P6.s (lk:=lk));by_cases ξ:acc.length<sizeLine
   case neg=>rw[if_neg ξ]at hr;cases hr
   rw[if_pos ξ]at hr;have hD6:=P6'.keep D _ hDl λk z=>P2.env.dx k D z (.inr DO);refine⟨vs,hD6,by rw[oacc.len];exact ξ,en6,R6,acc++[t6],vs++[v],U Fa F6,?_,ao,?_,hr,?_⟩
   .have c6:=chain P6';have keepD:∀a o,H6 a=some o->a≠D->upd H6 D (.lst (vs++[v])) a=some o:=λa o q n=>by rw[au n];exact q
    refine⟨⟨λk t hk=>?_,c6.env.dj,c6.env.dx,λa z=>?_,c6.env.l1,c6.env.l2⟩,c6.fx,λa o q n=>?_,c6.own,λa o q=>?_,c6.lk⟩
    .obtain⟨v',d',g1,g2,g3⟩:=c6.env.at_ k t hk;refine⟨v',d',g1,g2,Ow.mv (G:=R6 k) ⟨λa o q z=>keepD a o q λzD=>?_,λa z=>.inl z⟩ t (λ_ z=>z) g3⟩;subst zD;rcases z with z|z
     .exact z (.inr (.inr DO))
     .exact c6.env.dx k a z (.inr DO)
    .by_cases ha:a=D
     .subst ha;exact⟨_,ao⟩
     .obtain⟨o,q⟩:=c6.env.dom a z;exact⟨o,keepD a o q ha⟩
    .refine keepD a o (c6.keep a o q n) λzD=>?_;subst zD;rw[hD]at q;cases q
    .obtain⟨o',q'⟩:=c6.dom a o q;by_cases ha:a=D
     .subst ha;exact⟨_,ao⟩
     .exact⟨o',keepD a o' q' ha⟩
   .have o1:=carry P6';have o2:Ow K (Own R6 (U (U Fa F6) OxI)) H6 t6 cd v F6:=mI▸o6
    have:=Ows.snoc o1 o2 λb z1 z2=>P6.fx b z2 (.inl z1);refine Ows.mv (G:=U Fa F6) ⟨λa o q z=>?_,λa z=>.inl z⟩ _ (λ_ z=>z) this;rw[au]
    .exact q
    .intro zD;subst zD;rcases z with z|z|z
     .exact z (.inr (.inr DO))
     .exact P2.fx a z DO
     .exact P6.fx a z (.inr DO)
   .intro hq;obtain⟨_,b2,b3⟩:=P6.pure hq;obtain⟨e1,e2⟩:=pu5 hq;refine⟨λk j z=>by rw[b2];exact e1 k j z,λa o qq=>?_⟩;rw[au]
    .exact b3 a o (e2 a o qq)
    .intro zD;subst zD;rw[hD]at qq;cases qq
 .have e2:i=ts.length:=by lia
  subst e2;rw[List.drop_length]at hr;obtain⟨e3,e4⟩:acc=fin/\eni=enf:=by cases hr;exact⟨rfl,rfl⟩
  subst e3 e4;refine .inl ⟨w2 rfl,?_⟩;have fD:∀a,Fa a->a≠D:=λa z z2=>by
   subst z2;exact P2.fx a z DO
  cases hq:q with
  |true=>
   obtain⟨e1,e2⟩:=pu hq;subst hq;have fn:∀a,Fa a->H1 a=none:=λa z=>by
    rcases P2.own a (.inl z)with⟨k,z2⟩|z2
    .obtain⟨j,hj,z3⟩:=ric k a z2;rw[<-e1 k j hj]at z2;exact absurd (.inl z) (P2.env.dx k a z2)
    .exact z2
   have nt:NewTo H1 H2 (λa=>a=D\/Fa a):=⟨e2,λa z=>by
    rcases z with z|z
    .subst z;exact⟨hD,_,hDl⟩
    .exact⟨fn a z,P2.env.dom a (.inr (.inl z))⟩⟩
   have PF:=P1.fin nt;rw[zbT]at k;refine k (.ref D) H2 R1 _ PF ⟨D,vs,rfl,.inr ⟨hz,hDl,.inl rfl,Fa,λb z=>⟨.inr z,fD b z⟩,?_⟩⟩;rw[hd];refine Ows.grow (λa z=>?_) _ (λ_ z=>z) oacc;rcases z with⟨i,z⟩ | (z|z)|z
   .by_cases hc2:∃kk:Nat,js[kk]?=some (some i)
    .obtain⟨kk,hk⟩:=hc2;refine .inl ⟨kk,?_⟩;rw[e1 kk i hk,ri1 kk i hk];exact z
    .exact .inr (.inr (.inr (.inr ⟨i,z,λkk hk=>hc2 ⟨kk,hk⟩⟩)))
   .exact .inr (.inr (z▸DO))
   .exact .inr (.inl z)
   .exact .inr (.inr (.inl z))
  |false=>
   subst hq;rw[zbU]at k
   classical
   let R3:Nat->AS:=λi=>if hh:∃kk:Nat,js[kk]?=some (some i)then RI2 hh.choose else R1 i
   have r31:∀(i kk:Nat),js[kk]?=some (some i)->R3 i=RI2 kk:=λi kk z=>by
    have hh:∃kk:Nat,js[kk]?=some (some i):=⟨kk,z⟩
    have:hh.choose=kk:=c2 _ _ i hh.choose_spec z;show(if hh:∃kk:Nat,js[kk]?=some (some i)then RI2 hh.choose else R1 i)=RI2 kk;rw[dif_pos hh,this]
   have r32:∀i:Nat,(∀kk:Nat,js[kk]?≠some (some i))->R3 i=R1 i:=λi z=>by
    show(if hh:∃kk:Nat,js[kk]?=some (some i)then RI2 hh.choose else R1 i)=R1 i;rw[dif_neg λ⟨j,q⟩=>z j q]
   have r3c:∀(i:Nat) a,R3 i a->(∃kk:Nat,js[kk]?=some (some i)/\RI2 kk a)\/((∀kk:Nat,js[kk]?≠some (some i))/\R1 i a):=λi a z=>by
    by_cases hh:∃kk:Nat,js[kk]?=some (some i)
    .obtain⟨kk,hk⟩:=hh;rw[r31 i kk hk]at z;exact .inl ⟨kk,hk,z⟩
    .rw[r32 i λj z=>hh ⟨j,z⟩]at z;exact .inr ⟨λj z=>hh ⟨j,z⟩,z⟩
   have sub3:∀a,Own R3 (U (λa=>a=D\/Fa a) Ox) a->Own RI2 (U Fa OxI) a:=λa z=>by
    rcases z with⟨i,z⟩ | (z|z)|z
    .rcases r3c i a z with⟨j,_,z⟩|⟨n,z⟩
     .exact .inl ⟨j,z⟩
     .exact .inr (.inr (.inr (.inr ⟨i,z,n⟩)))
    .exact .inr (.inr (z▸DO))
    .exact .inr (.inl z)
    .exact .inr (.inr (.inl z))
   have el:eni.length=js.length:=by rw[P2.env.l1,<-P2.env.l2];exact cl
   have riO:∀(kk:Nat) a,RI kk a->Own R1 Ox a:=λkk a z=>by
    obtain⟨j,_,z⟩:=ric kk a z;exact .inl ⟨j,z⟩
   have env3:EnvOk K ds1 (U (λa=>a=D\/Fa a) Ox) H2 σ (wbB js eni en1) R3:=by
    refine⟨λi u hu=>?_,λi i' a z z'=>?_,λi a z z2=>?_,λa z=>P2.env.dom a (sub3 a z),by rw[mV];exact E1.l1,E1.l2⟩
    .by_cases hh:∃kk:Nat,js[kk]?=some (some i)
     .obtain⟨kk,hk⟩:=hh;obtain⟨dd,q1,q2⟩:=c1 kk i hk;have hil:i<en1.length:=by rw[E1.l1,<-E1.l2];exact(zah.mp q2).1
      rw[oQ js eni en1 i kk hk (λk' z=>c2 k' kk i z hk) el hil]at hu;obtain⟨v,d',g1,g2,g3⟩:=P2.env.at_ kk u hu;rw[q1]at g2;cases g2;have hlk:=P2.lk kk (by rw[hl];have:=jw (n:=0) hk;rw[za3]at this;exact this);rw[hlk]at g1;refine⟨v,dd,?_,q2,?_⟩
      .unfold dQ at g1;rw[zao,hk]at g1;have g1':(σ[i]?).join=some v:=zat g1;cases q3:σ[i]? with
       |none=>rw[q3]at g1';cases g1'
       |some o=>rw[q3]at g1';exact congrArg some g1'
      .rw[r31 i kk hk];exact Ow.grow sub3 u (λ_ z=>z) g3
     .rw[kR js eni en1 i λj z=>hh ⟨j,z⟩]at hu;have ns:∀j:Nat,js[j]?≠some (some i):=λj z=>hh ⟨j,z⟩;obtain⟨v,d',g1,g2,g3⟩:=E1.at_ i u hu;refine⟨v,d',g1,g2,?_⟩;rw[r32 i ns];refine Ow.mv (G:=R1 i) ⟨λa o q z=>P2.keep a o q λj zj=>?_,λa z=>mW a (sub3 a z)⟩ u (λ_ z=>z) g3;obtain⟨j',hj',zj⟩:=ric j a zj;rcases z with z|z
      .exact z (.inl ⟨j',zj⟩)
      .have:=E1.dj i j' a z zj;subst this;exact ns j hj'
    .rcases r3c i a z with⟨j,q,z⟩|⟨n,z⟩<;>rcases r3c i' a z' with⟨j',q',z'⟩|⟨n',z'⟩
     .have:=P2.env.dj j j' a z z';subst this;rw[q]at q';cases q';rfl
     .exact absurd (.inr (.inr (.inr ⟨i',z',n'⟩))) (P2.env.dx j a z)
     .exact absurd (.inr (.inr (.inr ⟨i,z,n⟩))) (P2.env.dx j' a z')
     .exact E1.dj i i' a z z'
    .rcases r3c i a z with⟨j,q,z⟩|⟨n,z⟩
     .refine P2.env.dx j a z ?_;rcases z2 with (z2|z2)|z2
      .exact .inr (z2▸DO)
      .exact .inl z2
      .exact .inr (.inl z2)
     .rcases z2 with (z2|z2)|z2
      .exact nD a (.inl ⟨i,z⟩) z2
      .exact P2.fx a z2 (.inr (.inr ⟨i,z,n⟩))
      .exact E1.dx i a z z2
   have n1:∀a,H1 a=none->H a=none:=λa z=>by
    cases q:H a with
    |none=>rfl
    |some o=>
     obtain⟨o',q'⟩:=P1.dom a o q;rw[z]at q';cases q'
   refine k (.ref D) H2 R3 (λa=>a=D\/Fa a) ⟨env3,λa z z2=>?_,λa o q n=>?_,λa z=>?_,λa o q=>?_,λz=>nomatch z⟩ ⟨D,vs,rfl,.inr ⟨hz,hDl,.inl rfl,Fa,λb z=>⟨.inr z,fD b z⟩,?_⟩⟩
   .rcases z with z|z
    .exact nD a (.inr z2) z
    .exact P2.fx a z (.inl z2)
   .refine P2.keep a o (P1.keep a o q n) λkk z=>?_;obtain⟨j,_,z⟩:=ric kk a z;rcases P1.own a (.inr ⟨j,z⟩)with⟨i',z⟩|z
    .exact n i' z
    .rw[q]at z;cases z
   .have h3:(∃i,R1 i a)\/H1 a=none:=by
     have h4:(Fa a\/∃kk,RI2 kk a)->(∃i,R1 i a)\/H1 a=none:=λz=>by
      rcases P2.own a z with⟨kk,z⟩|z
      .obtain⟨j,_,z⟩:=ric kk a z;exact .inl ⟨j,z⟩
      .exact .inr z
     rcases z with (z|z)|⟨i,z⟩
     .exact .inr (z▸hD)
     .exact h4 (.inl z)
     .rcases r3c i a z with⟨j,_,z⟩|⟨n,z⟩
      .exact h4 (.inr ⟨j,z⟩)
      .exact .inl ⟨i,z⟩
    rcases h3 with h3|h3
    .exact P1.own a (.inr h3)
    .exact .inr (n1 a h3)
   .obtain⟨o',q'⟩:=P1.dom a o q;exact P2.dom a o' q'
   .rw[hd];exact Ows.grow sub3 _ (λ_ z=>z) oacc
def xw(hc:fE ds1 js dsi=true)(hd:dn d=cd)(hz:d≠0)(hl:lk=ge js 0)(h:tF K (p&&q) ds ds1 d (eLC q fi g c f js) σ H Q):
  tLC (tFI K p ds ds1 fi) (tFG K lk dsi dsi g) (tFT K q dsi dsi c) (tF K q dsi dsi cd f) js σ H Q:=by
 obtain⟨Ox,en,R,t,en',e,hf,k⟩:=h;unfold eLC at hf;obtain⟨⟨ts,en1⟩,h1,hf⟩:=zaa.mp hf;obtain⟨⟨fin,enf⟩,h2,hf⟩:=zab.mp hf;cases hf;exact⟨Ox,en,R,ts,en1,e,h1,λJ H1 R1 P1 wk D hD=>wL hc hd hz hl P1 wk hD h2 k⟩
end
noncomputable def msk:List Nat->En->En
 |d::ds,o::en=>(if d=0 then none else o)::msk ds en
 |_,_=>[]
def fnF(n:Nat)(dps:List Nat)(b:MS):List PyData->Option (PyData×En):=λts=>(b (ts.map some++List.replicate n none)).bind λfl=>match fl with
 |.rt t en=>some (t,msk dps en)
 |.nx en=>some (.none,msk dps en)
 |.ct _=>none
noncomputable def lQ(dps:List Nat):List Nat:=(List.range dps.length).filter λj=>dps[j]? != some 0
section
variable{t t1 t2:PyData}{D:Ends}
theorem rA:∀{dps:List Nat} {en:En} {j:Nat} {u:PyData},(msk dps en)[j]?=some (some u)->∃d,dps[j]?=some d/\d≠0/\en[j]?=some (some u)
 |[],en,j,u,h=>by unfold msk at h;simp at h
 |d::ds,[],j,u,h=>by unfold msk at h;simp at h
 |d::ds,o::en,j,u,h=>by
  unfold msk at h;cases j with
  |zero=>
   by_cases hd:d=0
   .simp[hd]at h
   .refine⟨d,rfl,hd,?_⟩;simpa[hd]using h
  |succ j=>
   have:=rA (dps:=ds) (en:=en) (j:=j) (u:=u) (by simpa using h);simpa using this
theorem rz:∀{dps:List Nat} {en:En},dps.length<=en.length->(msk dps en).length=dps.length
 |[],en,_=>by unfold msk;rfl
 |d::ds,[],h=>by simp at h
 |d::ds,o::en,h=>by
  unfold msk;rw[zac,zac,rz (by simpa using h)]
def nj{E:XK}{b:MS}(hn:N.length-dps.length=n)(h:spF K dps dr (fnF n dps b) vs H Q E):
  tFS K ⟨lQ dps,dps++List.replicate n 0,dr,[]⟩ (dps++List.replicate n 0) (dps++List.replicate n 0) b { nx:=λ_ H'=>Q .non H',rt:=Q } (bD N vs) H:=by
 obtain⟨Ox,ts,R,r,ψ,e,hf,k⟩:=h;have lv:dps.length=vs.length:=by have:=e.l2;rw[zad]at this;exact this
 have lt:ts.length=vs.length:=by have:=e.l1;rw[zad,zad]at this;exact this
 have hs:bD N vs=vs.map some++List.replicate n none:=by unfold bD;rw[<-lv,hn]
 unfold fnF at hf;obtain⟨fl,h1,hf⟩:=zaa.mp hf;have get0:∀{α:Type} (xs:List α) (i:Nat) (u:α),(xs.map some++List.replicate n none)[i]?=some (some u)->(xs.map some)[i]?=some (some u)/\i<xs.length:=λxs i u z=>by
  by_cases hi:i<xs.length
  .rw[zaS (by rw[zad];exact hi)]at z;exact⟨z,hi⟩
  .rw[zbH (by rw[zad];lia),List.getElem?_replicate]at z;split at z
   .cases z
   .cases z
 have e0:EnvOk K (dps++List.replicate n 0) Ox H (bD N vs) (ts.map some++List.replicate n none) R:=by
  rw[hs];refine⟨λi u hu=>?_,e.dj,e.dx,e.dom,by simp[lt],by simp[lv]⟩;obtain⟨hu',hi⟩:=get0 ts i u hu;obtain⟨v,d,g1,g2,g3⟩:=e.at_ i u hu';refine⟨v,d,?_,?_,g3⟩
  .rw[zaS (by rw[zad];lia)];exact g1
  .rw[zaS (by lia)];exact g2
 have back:∀{σ' en' H' R' F},PostS K (lQ dps) (dps++List.replicate n 0) Ox (bD N vs) H R σ' en' H' R' F->Post K false dps Ox (vs.map some) H (ts.map some) R (msk dps en') H' R' F:=λ{σ' en' H' R' F} P=>by
  have l1:=P.env.l1;have l2:=P.env.l2;rw[zae,zaN]at l2;refine⟨⟨λj u hu=>?_,P.env.dj,P.env.dx,P.env.dom,by rw[rz (by lia),zad];exact lv,by rw[zad];exact lv⟩,P.fx,P.keep,P.own,P.dom,λz=>nomatch z⟩;obtain⟨d,a1,a2,a3⟩:=rA hu;obtain⟨v,d',g1,g2,g3⟩:=P.env.at_ j u a3;have hj:j<dps.length:=(zah.mp a1).1;have hlk:j∈lQ dps:=by
   unfold lQ;rw[zbC,zbr];refine⟨hj,?_⟩;rw[a1];simpa using a2
  rw[P.lk j hlk,hs,zaS (by rw[zad];lia)]at g1;rw[zaS hj]at g2;exact⟨v,d',g1,g2,g3⟩
 refine⟨Ox,_,R,fl,e0,h1,?_⟩;cases fl with
 |nx en2=>
  cases hf;exact λσ2 H2 R2 P2=>k .non H2 R2 NoA (back P2) rfl
 |ct en2=>cases hf
 |rt t en2=>
  cases hf;exact λv σ2 H2 R2 F P2 o=>k v H2 R2 F (back P2) o
def Post.slot{F:AS}{o2:HO}(P:Post K p ds1 Ox σ H en R en1 H1 R1 F)(hl:R1 i l)(hi:i<en1.length)(hv:σ[i]?=some (some v))(hd:ds1[i]?=some d)
  (hg:∀a,G a->R1 i a\/F a) (hf:∀a,F' a->R1 i a\/F a) (hx:∀a,G a->¬F' a)
  (ho:Ow K (Own (λj=>if j=i then G else R1 j) (U F' Ox)) (upd H1 l o2) t d v G):
  Post K false ds1 Ox σ H en R (en1.set i (some t)) (upd H1 l o2) (λj=>if j=i then G else R1 j) F':=by
 have rc:∀(j:Nat) a,(if j=i then G else R1 j) a->R1 j a\/(j=i/\F a):=λj a z=>by
  by_cases hj:j=i
  .rw[if_pos hj]at z;rcases hg a z with z|z
   .exact .inl (hj▸z)
   .exact .inr ⟨hj,z⟩
  .rw[if_neg hj]at z;exact .inl z
 have sub:∀a,Own (λj=>if j=i then G else R1 j) (U F' Ox) a->Own R1 (U F Ox) a:=λa z=>by
  rcases z with⟨j,z⟩|z|z
  .rcases rc j a z with z|⟨_,z⟩
   .exact .inl ⟨j,z⟩
   .exact .inr (.inl z)
  .rcases hf a z with z|z
   .exact .inl ⟨i,z⟩
   .exact .inr (.inl z)
  .exact .inr (.inr z)
 have dom2:∀a o,H1 a=some o->∃o',upd H1 l o2 a=some o':=λa o q=>by
  by_cases ha:a=l
  .subst ha;exact⟨_,ao⟩
  .exact⟨o,by rw[au ha];exact q⟩
 have nl:∀a o,H1 a=some o->a≠l->upd H1 l o2 a=some o:=λa o q n=>by rw[au n];exact q
 refine⟨⟨λj u hu=>?_,λj j' a z z'=>?_,λj a z z2=>?_,λa z=>?_,by rw[zaV];exact P.env.l1,P.env.l2⟩,λa z z2=>?_,λa o q n=>?_,λa z=>?_,λa o q=>?_,λz=>nomatch z⟩
 .by_cases hj:j=i
  .subst hj;rw[zaP hi]at hu;cases hu;refine⟨v,d,hv,hd,?_⟩;rw[if_pos rfl];exact ho
  .rw[zaO (Ne.symm hj)]at hu;obtain⟨v',d',g1,g2,g3⟩:=P.env.at_ j u hu;refine⟨v',d',g1,g2,?_⟩;rw[if_neg hj];refine Ow.mv (G:=R1 j) ⟨λa o q z=>nl a o q λza=>?_,λa z=>.inl (sub a z)⟩ u (λ_ z=>z) g3;subst za;rcases z with z|z
   .exact z (.inl ⟨i,hl⟩)
   .exact hj (P.env.dj j i a z hl)
 .have z0:=z;have z0':=z';by_cases hj:j=i<;>by_cases hj':j'=i
  .rw[hj,hj']
  .rw[if_pos hj]at z0;rw[if_neg hj']at z0';rcases hg a z0 with z1|z1
   .exact absurd (P.env.dj i j' a z1 z0') (λe=>hj' e.symm)
   .exact absurd (.inl z1) (P.env.dx j' a z0')
  .rw[if_neg hj]at z0;rw[if_pos hj']at z0';rcases hg a z0' with z1|z1
   .exact absurd (P.env.dj j i a z0 z1) hj
   .exact absurd (.inl z1) (P.env.dx j a z0)
  .rw[if_neg hj]at z0;rw[if_neg hj']at z0';exact P.env.dj j j' a z0 z0'
 .have z0:=z;by_cases hj:j=i
  .rw[if_pos hj]at z0;rcases z2 with z2|z2
   .exact hx a z0 z2
   .rcases hg a z0 with z1|z1
    .exact P.env.dx i a z1 (.inr z2)
    .exact P.fx a z1 z2
  .rw[if_neg hj]at z0;rcases z2 with z2|z2
   .rcases hf a z2 with z1|z1
    .exact hj (P.env.dj j i a z0 z1)
    .exact P.env.dx j a z0 (.inl z1)
   .exact P.env.dx j a z0 (.inr z2)
 .obtain⟨o,q⟩:=P.env.dom a (sub a z);exact dom2 a o q
 .rcases hf a z with z1|z1
  .exact P.env.dx i a z1 (.inr z2)
  .exact P.fx a z1 z2
 .refine nl a o (P.keep a o q n) λza=>?_;subst za;rcases P.own a (.inr ⟨i,hl⟩)with⟨j,z⟩|z
  .exact n j z
  .rw[q]at z;cases z
 .have:F a\/∃j,R1 j a:=by
   rcases z with z|⟨j,z⟩
   .rcases hf a z with z|z
    .exact .inr ⟨i,z⟩
    .exact .inl z
   .rcases rc j a z with z|⟨_,z⟩
    .exact .inr ⟨j,z⟩
    .exact .inl z
  exact P.own a this
 .obtain⟨o',q'⟩:=P.dom a o q;exact dom2 a o' q'
def mL{F:AS}(hg:∀a,G a->R1 i a\/F a)(hf:∀a,F' a->R1 i a\/F a):∀a,Own (λj=>if j=i then G else R1 j) (U F' Ox) a->Own R1 (U F Ox) a:=λa z=>by
 rcases z with⟨j,z⟩|z|z
 .by_cases hj:j=i
  .rw[if_pos hj]at z;rcases hg a z with z|z
   .exact .inl ⟨i,z⟩
   .exact .inr (.inl z)
  .rw[if_neg hj]at z;exact .inl ⟨j,z⟩
 .rcases hf a z with z|z
  .exact .inl ⟨i,z⟩
  .exact .inr (.inl z)
 .exact .inr (.inr z)
def aR{α:Type}{en:List (Option α)}{t:α}(h:(en[i]?).join=some t):en[i]?=some (some t):=by
 cases q:en[i]? with
 |none=>rw[q]at h;cases h
 |some o=>rw[q]at h;exact congrArg some h
def Ow.sqL{ts:List PyData}{F:AS}(h:Ow K O H (.list ts) d v F):∃a vs,v=.ref a/\SqL K H a vs:=by
 obtain⟨a,vs,e,⟨_,h1,_⟩|⟨_,h1,_⟩⟩:=h
 .exact⟨a,vs,e,h1.sq⟩
 .exact⟨a,vs,e,SqL.of h1⟩
def Ow.ownL{ts:List PyData}{F:AS}(hd:d≠0)(h:Ow K O H (.list ts) d v F):∃a vs,v=.ref a/\H a=some (.lst vs)/\F a/\∃F':AS,(∀b,F' b->F b/\b≠a)/\Ows K O H ts (dn d) vs F':=by
 obtain⟨a,vs,e,⟨h0,_⟩|⟨_,h1,h2,F',h3,h4⟩⟩:=h
 .exact absurd h0 hd
 .exact⟨a,vs,e,h1,h2,F',h3,h4⟩
def Ows.past{ts:List PyData}{F:AS}(ho:∀a,O' a->O a)(hl:O l)(hf:∀b,F b->b≠l)(h:Ows K O H ts d vs F):Ows K O' (upd H l o) ts d vs F:=
 Ows.mv (G:=F) ⟨λa u q z=>by
  rw[au]
  .exact q
  .intro za;subst za;rcases z with z|z
   .exact z hl
   .exact hf a z rfl,λa z=>.inl (ho a z)⟩ ts (λ_ z=>z) h
def Ow.past{F:AS}(ho:∀a,O' a->O a)(hl:O l)(hf:∀b,F b->b≠l)(h:Ow K O H t d v F):Ow K O' (upd H l o) t d v F:=
 Ow.mv (G:=F) ⟨λa u q z=>by
  rw[au]
  .exact q
  .intro za;subst za;rcases z with z|z
   .exact z hl
   .exact hf a z rfl,λa z=>.inl (ho a z)⟩ t (λ_ z=>z) h
noncomputable def eB(i:Nat)(f:ME):ME:=λen=>match (en[i]?).join with
 |some (.list _)=>(f en).bind λr=>match (r.2[i]?).join with
  |some (.list ts)=>if ts.length<sizeLine then some (.none,r.2.set i (some (.list (ts++[r.1]))))else none
  |_=>none
 |_=>none
def G7(hd:ds1[i]?=some d)(hz:d≠0)(hc:dn d=c)(h:tF K false ds ds1 3 (eB i f) σ H Q):tBM K "list" qT (fT i) (kU (tF K p ds ds1 c f) ss) σ H Q:=by
 obtain⟨Ox,en,R,t,en',e,hf,k⟩:=h;unfold eB at hf;split at hf
 case h_2=>cases hf
 next ts0 h0=>
 obtain⟨⟨t1,en1⟩,h1,hf⟩:=zaa.mp hf
 dsimp only at hf
 split at hf
 case h_2=>cases hf
 next ts h2=>
 by_cases ξ:ts.length<sizeLine
 case neg=>rw[if_neg ξ]at hf;cases hf
 rw[if_pos ξ]at hf;cases hf;obtain⟨v,d0,a1,_,a3⟩:=e.at_ i _ (aR h0);obtain⟨l0,vs0,e0,sq⟩:=a3.sqL;refine⟨v,a1,?_,Ox,en,R,t1,en1,e,h1,λx H1 R1 F P o=>?_⟩
 .rw[e0];exact .inl ⟨rfl,vs0,sq⟩
 obtain⟨v',d',b1,b2,b3⟩:=P.env.at_ i _ (aR h2);rw[a1]at b1;cases b1;rw[hd]at b2;cases b2;obtain⟨l,vs,el,hl,hr,F',hf',ow⟩:=b3.ownL hz;refine⟨l,vs,x,el,rfl,hl,by rw[ow.len];exact ξ,?_⟩;have hi:i<en1.length:=(zah.mp (aR h2)).1;have Fn:∀a,F a->a≠l:=λa z z2=>by
  subst z2;exact P.env.dx i a hr (.inl z)
 have sub:=mL (i:=i) (R1:=R1) (Ox:=Ox) (G:=λa=>R1 i a\/F a) (F':=NoA) (F:=F) (λ_ z=>z) (λ_ z=>z.elim);have Ol:Own R1 (U F Ox) l:=.inl ⟨i,hr⟩;refine k .non (upd H1 l (.lst (vs++[x]))) _ NoA (P.slot (G:=λa=>R1 i a\/F a) hr hi a1 hd (λ_ z=>z) (λ_ z=>z.elim) (λ_ _ z=>z) ?_) rfl;refine⟨l,vs++[x],el,.inr ⟨hz,ao,.inl hr,U F' F,λb z=>?_,?_⟩⟩
 .rcases z with z|z
  .exact⟨.inl (hf' b z).1,(hf' b z).2⟩
  .exact⟨.inr z,Fn b z⟩
 .refine Ows.snoc (Ows.past sub Ol (λb z=>(hf' b z).2) ow) ?_ λb z1 z2=>P.env.dx i b (hf' b z1).1 (.inl z2);rw[hc];exact Ow.past sub Ol Fn o
noncomputable def HX(i:Nat)(f:ME):ME:=λen=>match (en[i]?).join with
 |some (.list _)=>(f en).bind λr=>match r.1,(r.2[i]?).join with
  |.int n,some (.list ts)=>if -(2 ^ 63)<=n/\n<2 ^ 63 then(seqIndex? n ts.length).bind λk=>(ts[k]?).map λt=>(t,r.2.set i (some (.list (ts.eraseIdx k))))else none
  |_,_=>none
 |_=>none
theorem Ows.rev:∀{ts:List PyData} {vs:List V} {F:AS},Ows K O H ts d vs F->Ows K O H ts.reverse d vs.reverse F
 |[],_,_,h=>by rw[show _=[]from h];rfl
 |t::ts,_,F,h=>by
  obtain⟨v,r,F1,F2,e,s1,s2,s3,h4,h5⟩:=h;subst e;rw[List.reverse_cons,List.reverse_cons];exact Ows.grow (λ_ z=>z) _ (λb z=>z.elim (s2 b) (s1 b)) (Ows.snoc h5.rev h4 λb z1 z2=>s3 b z2 z1)
theorem Ows.setAt:∀{ts:List PyData} {vs:List V} {F F2:AS} {k:Nat} {t:PyData} {v:V},Ows K O H ts d vs F->Ow K O H t d v F2->(∀b,F b->¬F2 b)->Ows K O H (ts.set k t) d (vs.set k v) (U F F2)
 |[],_,_,_,_,_,_,h,_,_=>by rw[show _=[]from h];rfl
 |u::ts,_,F,F2,k,t,v,h,h2,hd=>by
  obtain⟨w,r,G1,G2,e,s1,s2,s3,h4,h5⟩:=h;subst e;cases k with
  |zero=>exact⟨v,r,F2,G2,rfl,λ_ z=>.inr z,λb z=>.inl (s2 b z),λb z z2=>hd b (s2 b z2) z,h2,h5⟩
  |succ k=>
   refine⟨w,r.set k v,G1,U G2 F2,rfl,λb z=>.inl (s1 b z),λb z=>z.imp (s2 b) id,λb z z2=>?_,h4,Ows.setAt h5 h2 λb z=>hd b (s2 b z)⟩;rcases z2 with z2|z2
   .exact s3 b z z2
   .exact hd b (s1 b z) z2
def eK(i:Nat)(fk fe:ME):MS:=λen=>(fe en).bind λr=>match (r.2[i]?).join with
 |some _=>(fk r.2).bind λq=>match q.1,(q.2[i]?).join with
  |.int n,some (.list ts)=>(ixN ts.length n).map λk=>.nx (q.2.set i (some (.list (ts.set k r.1))))
  |_,_=>none
 |none=>none
def BH(hd:ds2[i]?=some d)(hz:d≠0)(hc:dn d=c)(h:tFS K J ds ds2 (eK i fk fe) D σ H):
  lD (tF K p1 ds ds1 c fe) (w6 (fT i) (tF K p2 ds1 ds2 d2 fk) sA) D σ H:=by
 obtain⟨Ox,en,R,fl,e,hf,k⟩:=h;unfold eK at hf;obtain⟨⟨t1,en1⟩,h1,hf⟩:=zaa.mp hf
 dsimp only at hf
 split at hf
 case h_2=>cases hf
 next tt h0=>
 obtain⟨⟨t2,en2⟩,h2,hf⟩:=zaa.mp hf
 dsimp only at hf
 split at hf
 case h_2=>cases hf
 next n ts h3=>
 obtain⟨kk,h4,hf⟩:=zab.mp hf;cases hf;refine⟨Ox,en,R,t1,en1,e,h1,λx H1 R1 F1 P1 o1=>?_⟩;obtain⟨v0,d0,a1,_,_⟩:=P1.env.at_ i tt (aR h0);refine⟨v0,a1,?_⟩;refine⟨U F1 Ox,en1,R1,.int n,en2,P1.env,h2,λy H2 R2 F2 P2 o2=>?_⟩;have P:=P1.trans P2;have o1':=Ow.over P1.env P2 o1;obtain⟨v',d',b1,b2,b3⟩:=P.env.at_ i _ (aR h3);rw[a1]at b1;cases b1;rw[hd]at b2;cases b2;obtain⟨l,vs,el,hl,hr,F',hf',ow⟩:=b3.ownL hz;refine⟨l,vs,n,kk,el,o2,hl,by rw[ow.len];exact h4,?_⟩;have hi:i<en2.length:=(zah.mp (aR h3)).1;have Fn:∀a,F1 a->a≠l:=λa z z2=>by
  subst z2;exact P.env.dx i a hr (.inl (.inl z))
 have gG:∀a,(λa=>R2 i a\/F1 a) a->R2 i a\/U F1 F2 a:=λa z=>z.imp id .inl;have sub:=mL (i:=i) (R1:=R2) (Ox:=Ox) (G:=λa=>R2 i a\/F1 a) (F':=NoA) (F:=U F1 F2) gG (λ_ z=>z.elim);have Ol:Own R2 (U (U F1 F2) Ox) l:=.inl ⟨i,hr⟩;have PS:=P.slot (G:=λa=>R2 i a\/F1 a) (F':=NoA) (o2:=.lst (vs.set kk x)) (t:=.list (ts.set kk t1)) hr hi a1 hd gG (λ_ z=>z.elim) (λ_ _ z=>z) ?_
 .exact k σ _ _ PS.s
 refine⟨l,vs.set kk x,el,.inr ⟨hz,ao,.inl hr,U F' F1,λb z=>?_,?_⟩⟩
 .rcases z with z|z
  .exact⟨.inl (hf' b z).1,(hf' b z).2⟩
  .exact⟨.inr z,Fn b z⟩
 .refine Ows.setAt (Ows.past sub Ol (λb z=>(hf' b z).2) ow) ?_ λb z1 z2=>P.env.dx i b (hf' b z1).1 (.inl (.inl z2));rw[hc];exact Ow.past sub Ol Fn o1'
theorem Ows.get:∀{ts:List PyData} {vs:List V} {F:AS} {k:Nat} {t:PyData},Ows K O H ts d vs F->ts[k]?=some t->∃v,vs[k]?=some v/\Ow K O H t d v F
 |[],_,_,k,t,_,h=>by simp at h
 |u::ts,_,F,k,t,h,hk=>by
  obtain⟨v,r,F1,F2,e,s1,s2,s3,h4,h5⟩:=h;subst e;cases k with
  |zero=>
   have:u=t:=by simpa using hk
   subst this;exact⟨v,rfl,Ow.grow (λ_ z=>z) u s1 h4⟩
  |succ k=>
   obtain⟨w,g1,g2⟩:=Ows.get (k:=k) h5 (by simpa using hk);exact⟨w,by simpa using g1,Ow.grow (λ_ z=>z) t s2 g2⟩
def Ows.atI{ts:List PyData}{vs:List V}{F:AS}{n:Int}{t:PyData}(h:Ows K O H ts d vs F)(ht:L2.atI ts n=some t):∃v,L2.atI vs n=some v/\Ow K O H t d v F:=by
 unfold L2.atI at ht ⊢;rw[h.len];obtain⟨k,h1,h2⟩:=zaa.mp ht;obtain⟨v,g1,g2⟩:=h.get h2;exact⟨v,by rw[h1];exact g1,g2⟩
def cI(i:Nat)(f:ME):ME:=λen=>(en[i]?).join.bind λ_=>(f en).bind λr=>match r.1,(r.2[i]?).join with
 |.int n,some (.list ts)=>(atI ts n).map λt=>(t,r.2)
 |_,_=>none
def G3(hd:ds1[i]?=some 1)(h:tF K p ds ds1 0 (cI i f) σ H Q):tOp (sB K) (fT i) (tF K p ds ds1 d1 f) σ H Q:=by
 obtain⟨Ox,en,R,t,en',e,hf,k⟩:=h;unfold cI at hf;obtain⟨t0,h0,hf⟩:=zaa.mp hf;obtain⟨⟨t1,en1⟩,h1,hf⟩:=zaa.mp hf
 dsimp only at hf
 split at hf
 case h_2=>cases hf
 next n ts h2=>
 obtain⟨t',h3,hf⟩:=zab.mp hf;cases hf;obtain⟨v,d0,a1,_,a3⟩:=e.at_ i _ (aR h0);refine⟨v,a1,Ox,en,R,.int n,_,e,h1,λx H1 R1 F P o=>?_⟩;obtain⟨v',d',b1,b2,b3⟩:=P.env.at_ i _ (aR h2);rw[a1]at b1;cases b1;rw[hd]at b2;cases b2;obtain⟨l,vs,el,hl,hr,F',hf',ow⟩:=b3.ownL (by decide);obtain⟨w,g1,g2⟩:=ow.atI h3;refine⟨l,vs,n,w,el,o,SqL.of hl,g1,k w H1 R1 NoA (P.less λ_ z=>z.elim) ?_⟩;exact Ow.any0 _ (Ow.grow (λa z=>z.imp id λz=>z.elim (λz=>False.elim z) Or.inr) _ (λ_ z=>z) g2)
end
def PE.imp{t t':TE}(h:PE X e t)(hi:∀σ H Q,t' σ H Q->t σ H Q):PE X e t':=λρ s σ H Q I hw=>h ρ s σ H Q I (hi _ _ _ hw)
def PT.imp{t:TT}(h:PT X e t)(hi:∀σ H Q,t' σ H Q->t σ H Q):PT X e t':=λρ s σ H Q I hw=>h ρ s σ H Q I (hi _ _ _ hw)
def PW.imp{t:TT}(h:PW X e t)(hi:∀σ H Q,t' σ H Q->t σ H Q):PW X e t':=λwh ρ s σ H Q I hw=>h wh ρ s σ H Q I (hi _ _ _ hw)
def PA.imp{e:List Expr}{t t':TA}(h:PA X e t)(hi:∀σ H Q,t' σ H Q->t σ H Q):PA X e t':=λpos ρ s σ H Q I hw=>h pos ρ s σ H Q I (hi _ _ _ hw)
def PS.imp{e:Stmt}{t t':TS}(h:PS X e t)(hi:∀D σ H,t' D σ H->t D σ H):PS X e t':=λρ s σ H D I hw=>h ρ s σ H D I (hi _ _ _ hw)
def PSs.imp{e:List Stmt}{t t':TS}(h:PSs X e t)(hi:∀D σ H,t' D σ H->t D σ H):PSs X e t':=λρ s σ H D I hw=>h ρ s σ H D I (hi _ _ _ hw)
def PG.imp{t t':TG}(h:PG X e t)(hi:∀v σ H Q,t' v σ H Q->t v σ H Q):PG X e t':=λρ s σ H v u Q I r hw=>h ρ s σ H v u Q I r (hi _ _ _ _ hw)
def PGs.imp{e:List Expr}{t t':TGs}(h:PGs X e t)(hi:∀v σ H Q,t' v σ H Q->t v σ H Q):PGs X e t':=λρ s σ H v u Q I r hw=>h ρ s σ H v u Q I r (hi _ _ _ _ hw)
def PI.imp{t t':TI}(h:PI X tg e t)(hi:∀σ H R,t' σ H R->t σ H R):PI X tg e t':=λρ s σ H R I hw=>h ρ s σ H R I (hi _ _ _ hw)
def PTs.imp{e:List Expr}{t:TT}(h:PTs X e t)(hi:∀σ H Q,t' σ H Q->t σ H Q):PTs X e t':=λρ s σ H Q I hw=>h ρ s σ H Q I (hi _ _ _ hw)
noncomputable def bg:Expr->Bool
 |.Starred _ _=>false
 |_=>true
def a5(h:bg e=true):starEach (e::es) env=(false,eval e env)::starEach es env:=by
 cases e<;>first|rfl|cases h
theorem fU{pos:Pos}{env:Env}:∀{es:List Expr},es.all bg=true->(backTo pos (starEach es env)).any (·.1)=false
 |[],_=>rfl
 |e::es,h=>by
  rw[List.all_cons,zbm]at h;rw[a5 h.1];show(false || (backTo pos (starEach es env)).any (·.1))=false;rw[fU h.2];rfl
section
variable{a c:Expr}{m:MT}    
def eZ(hN:X.N[i]?=some x)(hv:Vis X.env.scope x)(h0:ds[i]?=some 0)(hd:(x==("__debug__":Str))=false)(hcd:(x==("__classdict__":Str))=false):QE X (.Name x pos) (tF K p ds ds 0 (ac i)):=⟨(cF hN hv hd hcd).imp λ_ _ _ h=>AK h0 (jJ (λ_=>rfl) h)⟩
def dO(hN:X.N[i]?=some x)(hv:Vis X.env.scope x)(h0:ds[i]?=some d)(hds:ds.set i 0=ds')(hd:(x==("__debug__":Str))=false)(hcd:(x==("__classdict__":Str))=false):QE X (.Name x pos) (tF K false ds ds' d (eMv i)):=⟨by
 subst hds;exact(cF hN hv hd hcd).imp λ_ _ _=>HD h0⟩
def ah{n:Int}{j}:QE X (.Constant (.int n) j pos) (tF K p ds ds 3 (eC (.int n))):=⟨pe_int.imp λ_ _ _ h=>f_c (t:=.int n) (λ_ _ _ _=>rfl) (jJ (λ_=>rfl) h)⟩
def aT{n:Bool}{j}:QE X (.Constant (.bool n) j pos) (tF K p ds ds 3 (eC (.bool n))):=⟨pe_bl.imp λ_ _ _ h=>f_c (t:=.bool n) (λ_ _ _ _=>rfl) (jJ (λ_=>rfl) h)⟩
def aJ{j}:QE X (.Constant .none j pos) (tF K p ds ds 3 (eC .none)):=⟨pe_non.imp λ_ _ _ h=>f_c (t:=.none) (λ_ _ _ _=>rfl) (jJ (λ_=>rfl) h)⟩
def jF{n:Str}{j}:QE X (.Constant (.str n) j pos) (tF K p ds ds 3 (eC (.str n))):=⟨pe_str.imp λ_ _ _ h=>f_c (t:=.str n) (λ_ _ _ _=>rfl) (jJ (λ_=>rfl) h)⟩
def tH{n:Int}{t:Tok}(hg:Gl X x)(hm:X.mg x=some (.int n t))(hd:(x==("__debug__":Str))=false):QE X (.Name x pos) (tF K p ds ds 3 (eC (.int n))):=⟨(A9 (v:=.int n) hg hm ⟨t,rfl⟩ hd).imp λ_ _ _ h=>f_c (t:=.int n) (λ_ _ _ _=>rfl) (jJ (λ_=>rfl) h)⟩
def cC(h:QE X e (tF K p ds ds' d f))(hd:Le4 d' d):QE X e (tF K p ds ds' d' f):=⟨h.h.imp λ_ _ _=>GX hd⟩
def ja(h:QE X e (tF K p ds0 ds' d f))(hd:leD ds0 ds=true):QE X e (tF K false ds ds' d f):=⟨h.h.imp λ_ _ _=>HF hd⟩
def ga(h:QE X e (tF K true ds0 ds0 3 f))(hd:leD ds0 ds=true):QE X e (tF K p ds ds 3 f):=⟨have h:=h.h;h.imp λ_ _ _ h=>G6 hd (jJ (λ_=>rfl) h)⟩
def aD{op:Operator}(ho:OpR X (binaryOp op) (rF2 K g d))(ha:QE X a (tF K p ds ds1 d1 f1))(hb:QE X b (tF K p ds1 ds2 d2 f2)):QE X (.BinOp a op b pos) (tF K p ds ds2 d (e2 g f1 f2)):=⟨(Gx ho ha.h hb.h).imp λ_ _ _ h=>oN (by rw[zbk];exact h)⟩
def e7(ho:OpR X (compareOp op) (rF2 K g d))(ha:QE X a (tF K p ds ds1 d1 f1))(hb:QE X b (tF K p ds1 ds2 d2 f2))(hm:behindInMarks op b=false):QE X (.Compare a [op] [b] pos) (tF K p ds ds2 d (e2 g f1 f2)):=⟨(Bb ho ha.h hb.h hm).imp λ_ _ _ h=>oN (by rw[zbk];exact h)⟩
def aI(ho:OpR X (compareOp op) (rF2 K g d))(ha:QE X a (tF K p ds ds1 d1 f1))(hb:QE X b (tF K p ds1 ds2 d2 f2))(hm:behindInMarks op b=false):QT X (.Compare a [op] [b] pos) (tFT K p ds ds2 (tV (e2 g f1 f2))):=⟨(A3 ho ha.h hb.h hm).imp λσ H Q h=>by
  obtain⟨Ox,en,R,t,en',e,hf,k⟩:=ms (d:=d) h;exact oN (by rw[zbk];exact⟨Ox,en,R,t,en',e,hf,k⟩)⟩
def aE(h:QE X e (tF K p ds ds' d f))(he:∀χ,isTrue e X.env χ=(do let v <-χ;standAt e.pos;holding [v] (truthy v))):QT X e (tFT K p ds ds' (tV f)):=⟨(Ei h.h he).imp λ_ _ _=>ms⟩
def cx(ha:QT X a (tFT K p ds ds1 c1)):QW X (.BoolOp .And [a] pos) (tFT K p ds ds1 c1):=⟨AZ ha.h⟩
def cb(ha:QT X a (tFT K p ds ds1 c1)):QW X (.BoolOp .Or [a] pos) (tFT K p ds ds1 c1):=⟨Ef ha.h⟩
def cz{rest:List Expr}(ha:QT X a (tFT K p ds ds1 c1))(hb:QW X (.BoolOp .And (b::rest) pos) (tFT K p ds1 ds1 c2)):QW X (.BoolOp .And (a::b::rest) pos) (tFT K p ds ds1 (dC c1 c2)):=⟨(Eg ha.h hb.h).imp λ_ _ _ h=>Fi (by rw[zbk];exact h)⟩
def bZ{rest:List Expr}(ha:QT X a (tFT K p ds ds1 c1))(hb:QW X (.BoolOp .Or (b::rest) pos) (tFT K p ds1 ds1 c2)):QW X (.BoolOp .Or (a::b::rest) pos) (tFT K p ds ds1 (bOr c1 c2)):=⟨(Gs ha.h hb.h).imp λ_ _ _ h=>GP (by rw[zbk];exact h)⟩
def aO(ha:QT X a (tFT K p ds ds1 c1)):QT X (.UnaryOp .Not a pos) (tFT K p ds ds1 (cc c1)):=⟨(Ej ha.h).imp λ_ _ _=>Fg⟩
def cN(h:QT X e (tFT K true ds0 ds0 c1))(hd:leD ds0 ds=true):QT X e (tFT K p ds ds c1):=⟨h.h.imp λ_ _ _ ⟨Ox,en,R,t,en',e,hf,k⟩=>Fh hd ⟨Ox,en,R,t,en',e,hf,λH' R' P=>k H' R' ⟨P.env,P.fx,P.keep,P.own,P.dom,λ_=>P.pure rfl⟩⟩⟩
def jG{op}(h:QE X a (tF K p ds ds1 d f)):QE X (.BoolOp op [a] pos) (tF K p ds ds1 d f):=⟨Er h.h⟩
def jI{rest:List Expr}(ha:QE X a (tF K p ds ds1 d1 f1))(hb:QE X (.BoolOp .And (b::rest) pos) (tF K p ds1 ds1 d f2)):QE X (.BoolOp .And (a::b::rest) pos) (tF K p ds ds1 d (kt f1 f2)):=⟨(Ev ha.h hb.h).imp λ_ _ _ h=>G8 (by rw[zbk];exact h)⟩
def BV{rest:List Expr}(ha:QE X a (tF K p ds ds1 d1 f1))(hb:QE X (.BoolOp .Or (b::rest) pos) (tF K p ds1 ds1 d f2)):QE X (.BoolOp .Or (a::b::rest) pos) (tF K p ds ds1 d (eOr f1 f2)):=⟨(Gw ha.h hb.h).imp λ_ _ _ h=>HC (by rw[zbk];exact h)⟩
def jH(ha:QE X a (tF K p ds ds1 d1 f)):QE X (.UnaryOp .Not a pos) (tF K p ds ds1 3 (km f)):=⟨(Es ha.h).imp λ_ _ _=>GZ⟩
def k7(hc:QT X c (tFT K p ds ds1 c1))(ha:QE X a (tF K p ds1 ds2 d f1))(hb:QE X b (tF K p ds1 ds2 d f2)):QE X (.IfExp c a b pos) (tF K p ds ds2 d (eIf c1 f1 f2)):=⟨(wm hc.h ha.h hb.h).imp λ_ _ _ h=>HE (by rw[zbk,zbk];exact h)⟩
def af:QA X [] (tFA K p ds ds [] ai):=⟨pa_nil.imp λ_ _ _ ⟨Ox,en,R,t,en',e,hf,k⟩=>qc ⟨Ox,en,R,t,en',e,hf,λvs H' R' F P=>k vs H' R' F ⟨P.env,P.fx,P.keep,P.own,P.dom,λ_=>P.pure rfl⟩⟩⟩
def aa(ha:QE X e (tF K p ds ds1 d f))(hr:QA X es (tFA K p ds1 ds2 sh fa))(hs:bg e=true):QA X (e::es) (tFA K p ds ds2 (.inl d::sh) (ab f fa)):=⟨(fV ha.h hr.h (a5 hs)).imp λ_ _ _ h=>jb (by rw[zbk];exact h)⟩
def mB(hN:X.N[i]?=some x)(hv:Vis X.env.scope x)(hr:QA X es (tFA K p ds ds2 sh fa))(hd:(x==("__debug__":Str))=false)(hcd:(x==("__classdict__":Str))=false):QA X (.Name x pos::es) (tFA K p ds ds2 (.inr i::sh) (aX i fa)):=⟨(fV (cF hN hv hd hcd) hr.h (a5 rfl)).imp λ_ _ _=>BX⟩
def aL{c:Nat}(h:QA X es (tFA K p ds ds1 sh fa))(hs:dq c sh=true)(hd:dn d=c)(hz:d≠0):QE X (.List es pos) (tF K p ds ds1 d (ba fa)):=⟨(Et h.h).imp λ_ _ _=>G0 hs hd hz⟩
def aK{c:Nat}{x1}(h:QA X es (tFA K p ds ds1 sh fa))(hs:dq c sh=true)(hd:dn d=c):QE X (.Tuple es x1 pos) (tF K p ds ds1 d (bp fa)):=⟨(Ep h.h).imp λ_ _ _=>GV hs hd⟩
def tK{id:String}{g:List D->Option D}(hc:CallR X (.builtin id) (rFn K g d))(hg:Gl X x)(hm:X.mg x=none)(hv:bootBuiltins x=some (.builtin id))(ha:QA X (e::es) (tFA K p ds ds1 sh fa))(hsh:dq 0 sh=true)(hn:x≠"__name__")(hdb:(x==("__debug__":Str))=false)(he:bg e=true)(hpl:es.all bg=true):QE X (.Call (.Name x px) (e::es) [] pos) (tF K p ds ds1 d (eN g fa)):=⟨(lK hc hg hm hv ha.h hn hdb (a5 he) (fU hpl)).imp λ_ _ _=>qf hsh⟩
def qJ{g:List D->Option D}(hc:CallR X (.type T) (rFn K g d))(hg:Gl X x)(hm:X.mg x=none)(hv:bootBuiltins x=some (.type T))(ha:QA X (e::es) (tFA K p ds ds1 sh fa))(hsh:dq 0 sh=true)(hn:x≠"__name__")(hdb:(x==("__debug__":Str))=false)(he:bg e=true)(hpl:es.all bg=true):QE X (.Call (.Name x px) (e::es) [] pos) (tF K p ds ds1 d (eN g fa)):=⟨(nK hc hg hm hv ha.h hn hdb (a5 he) (fU hpl)).imp λ_ _ _=>qf hsh⟩
def BW{F:List D->Option (D×En)}(G:Kn X.prog X.w X.K X.mg X.base k x ps (spF K dps dr F))(hr:Room k X.A)(hg:Gl X x)(ha:QA X (e::es) (tFA K p ds ds1 sh fa))(hns:cG sh=true)(hcd:bL ds1 sh dps=true)(hdb:(x==("__debug__":Str))=false)(he:bg e=true)(hpl:es.all bg=true):QE X (.Call (.Name x px) (e::es) [] pos) (tF K p ds ds1 dr (am F fa)):=⟨(Ao G hr hg ha.h hdb (a5 he) (fU hpl)).imp λ_ _ _ h=>xx hcd (by rw[hns,zbT];exact h)⟩
def xu{F:List D->Option (D×En)}(G:Kn X.prog X.w X.K X.mg X.base k x ps (spF K dps dr F))(hr:Room k X.A)(hg:Gl X x)(ha:QA X (e::es) (tFA K false ds ds1 sh fa))(hcd:bL ds1 sh dps=true)(hdb:(x==("__debug__":Str))=false)(he:bg e=true)(hpl:es.all bg=true):QE X (.Call (.Name x px) (e::es) [] pos) (tF K false ds ds1 dr (am F fa)):=⟨(Ao G hr hg ha.h hdb (a5 he) (fU hpl)).imp λ_ _ _ h=>xx hcd h⟩
def bd(ho:IxR X (rF2 K g d))(ha:QE X a (tF K p ds ds1 d1 f1))(hb:QE X b (tF K p ds1 ds2 d2 f2))(hs:jf b):QE X (.Subscript a b pos) (tF K p ds ds2 d (e2 g f1 f2)):=⟨(oH ho ha.h hb.h hs).imp λ_ _ _ h=>oN (by rw[zbk];exact h)⟩
def cV(hK:X.K=K)(hN:X.N[i]?=some x)(hv:Vis X.env.scope x)(h1:ds1[i]?=some 1)(hb:QE X b (tF K p ds ds1 d1 f))(hs:jf b)(hd:(x==("__debug__":Str))=false)(hcd:(x==("__classdict__":Str))=false):QE X (.Subscript (.Name x px) b pos) (tF K p ds ds1 0 (cI i f)):=⟨(oH (Hu hK) (cF hN hv hd hcd) hb.h hs).imp λ_ _ _=>G3 h1⟩
def cX{c:Nat}(hK:X.K=K)(hN:X.N[i]?=some x)(hv:Vis X.env.scope x)(h1:ds1[i]?=some d)(he:QE X e (tF K false ds ds1 c f))(hz:d≠0)(hc:dn d=c)(hd:(x==("__debug__":Str))=false)(hcd:(x==("__classdict__":Str))=false)(η:attributeBase (.Name x px) "append" X.env (eval (.Name x px) X.env)=eval (.Name x px) X.env)(hfew:((backTo ω (starEach [e] X.env)).all (λx=>!x.1)&&(backToKw ω (keywordEach [] X.env)).all (λx=>x.1.isSome)&&decide (([e]:List Expr).length+([]:List Keyword).length+(if([]:List Keyword).isEmpty then 0 else 1)<30))=true)(θ:(μ.endLine==ω.line)=true)(hs:starEach [e] X.env=[(false,eval e X.env)])(ι:(backTo ω (starEach [] X.env)).any (·.1)=false):QE X (.Call (.Attribute (.Name x px) "append" μ) [e] [] ω) (tF K false ds ds1 3 (eB i f)):=⟨by
 subst hK;exact(Gy PySem.F.plainAttrs_list PySem.F.slot_list_append PySem.F.type_list_append nL (cF hN hv hd hcd) (fV he.h pa_nil hs) η hfew θ hs ι).imp λ_ _ _=>G7 h1 hz hc⟩
noncomputable def cY:MT:=λen=>some (true,en)
def dA:QTs X [] (tFT K p ds ds cY):=⟨pts_nil.imp λσ H Q ⟨Ox,en,R,b,en',e,hf,k⟩=>by
 cases hf;exact k H R (Post.refl e)⟩
def vm(hc:QT X c (tFT K p ds ds1 c1)):QTs X [c] (tFT K p ds ds1 c1):=⟨A2 hc.h⟩
def GU{g:MG}(B:BlkOkC X scope ns js)(hc:X.calm=true)(hi:PI X tg iter (tFI K p ds ds1 fi))
  (hg:∀C cl s₀ H₀ fp,PG (aF X scope ns C cl s₀ H₀ fp) tg (tFG K lk dsi dsi g)) (ht:∀C cl s₀ H₀ fp,PTs (aF X scope ns C cl s₀ H₀ fp) ifs (tFT K true dsi dsi c1)) (he:∀C cl s₀ H₀ fp,PE (aF X scope ns C cl s₀ H₀ fp) elt (tF K true dsi dsi cd f))
  (hcap:fE ds1 js dsi=true) (hd:dn d=cd) (hz:d≠0) (hlk:lk=ge js 0)
  (hs:∀x,foldedSetIterable iter X.env x=pure x):PE X (.ListComp elt [⟨tg,iter,ifs,0⟩] scope pos) (tF K p ds ds1 d (eLC true fi g c1 f js)):=
 (uM B hc hi hg ht he hs).imp λ_ _ _ h=>xw hcap hd hz hlk (by rw[zbT];exact h)
def Fz{g:MG}(B:BlkOkC X scope ns js)(hc:X.calm=true)(hi:PI X tg iter (tFI K false ds ds1 fi))
  (hg:∀C cl s₀ H₀ fp,PG (aF X scope ns C cl s₀ H₀ fp) tg (tFG K lk dsi dsi g)) (ht:∀C cl s₀ H₀ fp,PTs (aF X scope ns C cl s₀ H₀ fp) ifs (tFT K false dsi dsi c1)) (he:∀C cl s₀ H₀ fp,PE (aF X scope ns C cl s₀ H₀ fp) elt (tF K false dsi dsi cd f))
  (hcap:fE ds1 js dsi=true) (hd:dn d=cd) (hz:d≠0) (hlk:lk=ge js 0)
  (hs:∀x,foldedSetIterable iter X.env x=pure x):PE X (.ListComp elt [⟨tg,iter,ifs,0⟩] scope pos) (tF K false ds ds1 d (eLC false fi g c1 f js)):=
 (uM B hc hi hg ht he hs).imp λ_ _ _ h=>xw hcap hd hz hlk h
end
noncomputable def ph(f:ME)(g:MG):MS:=λen=>(f en).bind λr=>(g r.1 r.2).map .nx
section
variable{g:MG}   
def Fs(h:tFS K J ds ds2 (ph f g) Dn σ H):lD (tF K p ds ds1 0 f) (tFG K J.lk ds1 ds2 g) Dn σ H:=by
 obtain⟨Ox,en,R,fl,e,hf,k⟩:=h;unfold ph at hf;obtain⟨⟨t,en1⟩,h1,hf⟩:=zaa.mp hf;obtain⟨en2,h2,hf⟩:=zab.mp hf;cases hf;refine⟨Ox,en,R,t,en1,e,h1,λv H1 R1 F P o=>?_⟩;exact⟨Ox,en1,R1,t,en2,P.env0,Ow.letgo P (λ_ z=>z) o,h2,λσ2 R2 P2 _=>k σ2 H1 R2 ((P.s.less λ_ z=>z.elim).after P2)⟩
end
section
variable{a c:Expr}{rest body bodyB:List Stmt}{g:MG}{gs:List D->En->Option En} 
def ax:QSs X [] (tFS K J ds ds aQ):=⟨pss_nil.imp λ_ _ _=>Fo⟩
def ag(h1:QS X st (tFS K J ds ds1 m1))(h2:QSs X rest (tFS K J ds1 ds2 m2)):QSs X (st::rest) (tFS K J ds ds2 (aj m1 m2)):=⟨(v9 h1.h h2.h).imp λ_ _ _=>Fk⟩
def aB(h1:QS X st (tFS K J ds ds1 m1)):QSs X [st] (tFS K J ds ds1 m1):=⟨A4 h1.h⟩
def vo(h:QSs X rest (tFS K J ds ds2 m))(hd:leD ds1 ds2=true):QSs X rest (tFS K J ds ds1 m):=⟨h.h.imp λ_ _ _=>Fj hd⟩
def bH(he:QE X e (tF K false ds ds1 d f))(hs:swapsWith e none pos.line X.env=pure false):QS X (.Expr e pos) (tFS K J ds ds1 (dw f)):=⟨(A5 he.h hs).imp λ_ _ _=>Fq⟩
def vt(he:QE X e (tF K false ds ds1 J.dr f))(hd:leD J.dsr ds1=true):QS X (.Return (some e) pos) (tFS K J ds ds' (az f)):=⟨(El he.h).imp λ_ _ _=>Fm hd⟩
def qI:QS X st (tFS K J ds ds' pd):=⟨ps_never.imp λ_ _ _=>xc⟩
def aA(hc:QT X c (tFT K false ds ds1 c1))(ha:QSs X body (tFS K J ds1 ds2 m1))(hb:QSs X bodyB (tFS K J ds1 ds2 m2)):QS X (.If c body bodyB pos) (tFS K J ds ds2 (sIf c1 m1 m2)):=⟨(Gv hc.h ha.h hb.h).imp λ_ _ _=>GQ⟩
def iy(hN:X.N.Nodup)(hi:X.N[i]?=some x)(hx:Loc X.env.scope x)(he:QE X e (tF K false ds ds1 d f))(hds:ds1.set i d=ds')(hl:i<ds1.length)(hk:i∉J.lk)(hs:swapsWith e (some (.Name x pos')) pos.line X.env=pure false)(hf:X.fn x=true\/X.env.scope.names.lookup x=some .local):QS X (.Assign [.Name x pos'] e pos) (tFS K J ds ds' (aw i f)):=⟨by
 subst hds;exact(Ek hN hi hx he.h hs hf).imp λ_ _ _=>vp hl hk⟩
def vq(hN:X.N.Nodup)(hi':X.N[i]?=some x)(hx:X.env.scope.names.lookup x=some .local)(B:BlkOkC X scope ns js)(hc:X.calm=true)(hi:PI X tg iter (tFI K false ds ds1 fi))
  (hg:∀C cl s₀ H₀ fp,PG (aF X scope ns C cl s₀ H₀ fp) tg (tFG K lk dsi dsi g)) (ht:∀C cl s₀ H₀ fp,PTs (aF X scope ns C cl s₀ H₀ fp) ifs (tFT K q dsi dsi c1)) (he:∀C cl s₀ H₀ fp,PE (aF X scope ns C cl s₀ H₀ fp) elt (tF K q dsi dsi cd f))
  (hds:ds1.set i d=ds') (hcap:fE ds1 js dsi=true) (hd:dn d=cd) (hz:d≠0) (hlk:lk=ge js 0) (hl:i<ds1.length) (hk:i∉J.lk)
  (hsw:swapsWith (.ListComp elt [⟨tg,iter,ifs,0⟩] scope pos) (some (.Name x pos')) ζ.line X.env=pure true)
  (hs:∀x,foldedSetIterable iter X.env x=pure x):PS X (.Assign [.Name x pos'] (.ListComp elt [⟨tg,iter,ifs,0⟩] scope pos) ζ) (tFS K J ds ds' (aw i (eLC q fi g c1 f js))):=by
 subst hds;exact(uI hN hi' hx B hc hi hg ht he hsw hs).imp λD σ H h=>xw (p:=false) hcap hd hz hlk (vp (p:=false&&q) hl hk h)
def vu(hc:X.calm=true)(he:QE X e (tF K false ds ds1 0 f))(hg:QG X tg (tFG K J.lk ds1 ds2 g))(hs:swapsWithSole [tg] e pos.line X.env=pure false)(hw:swappedStores [tg] e X.env=pure none)(h1:(assignEach [tg] X.env).map (·.2)=[assign tg X.env]):QS X (.Assign [tg] e pos) (tFS K J ds ds2 (ph f g)):=⟨(pj he.h hg.h hs hw h1).imp λ_ _ _=>Fs⟩
def xh{c:Nat}{k:Expr}(hN:X.N[i]?=some x)(hv:Vis X.env.scope x)(he:PE X e (tF K false ds ds1 c fe))(hk:PE X k (tF K false ds1 ds2 d2 fk))(h1:ds2[i]?=some d)(hz:d≠0)(hc:dn d=c)
  (hdb:(x==("__debug__":Str))=false) (hcd:(x==("__classdict__":Str))=false)
  (ha:∀v,assign (.Subscript (.Name x px) k ζ) X.env v=(do
   let ov <-holding [v] (eval (.Name x px) X.env)
   let iv <-holding [v,ov] (eval k X.env)
   standAt ζ
   holding [v,ov,iv] (setItem ov iv v)
   release [v,ov,iv] []))
  (hs:swapsWithSole [.Subscript (.Name x px) k ζ] e pos.line X.env=pure false) (hw:swappedStores [.Subscript (.Name x px) k ζ] e X.env=pure none)
  (h2:(assignEach [.Subscript (.Name x px) k ζ] X.env).map (·.2)=[assign (.Subscript (.Name x px) k ζ) X.env]):
  PS X (.Assign [.Subscript (.Name x px) k ζ] e pos) (tFS K J ds ds2 (eK i fk fe)):=
 (pj he (uL (cF hN hv hdb hcd) hk oZ ha) hs hw h2).imp λ_ _ _=>BH h1 hz hc
def ay(hN:X.N.Nodup)(hi:X.N[i]?=some x)(hx:Loc X.env.scope x)(hds:ds.set i 0=ds')(hl:i<ds.length)(hk:i∉lk)(hf:X.fn x=true\/X.env.scope.names.lookup x=some .local):QG X (.Name x pos) (tFG K lk ds ds' (gN i)):=⟨by
 subst hds;exact(A7 hN hi hx hf).imp λ_ _ _ _=>BS hl hk⟩
def fC:QGs X [] (tFGs K lk ds ds gs0):=⟨pgs_nil.imp λ_ _ _ _=>BR⟩
def bt(h1:QG X e (tFG K lk ds ds1 g))(h2:QGs X es (tFGs K lk ds1 ds2 gs))(hs:(assignEach (e::es) X.env).map (·.2)=assign e X.env::(assignEach es X.env).map (·.2)):QGs X (e::es) (tFGs K lk ds ds2 (gsC g gs)):=⟨(wj h1.h h2.h hs).imp λ_ _ _ _=>xq⟩
def i7{g2:MG}:∀ts en,(∃en',gsC g1 (gsC g2 gs0) ts en=some en')->ts.length=2:=λts en ⟨en',h⟩=>by
 match ts,h with
 |[],h=>cases h
 |[_],h=>
  obtain⟨_,_,h⟩:=zaa.mp h;cases h
 |[_,_],_=>rfl
 |a::b::c::r,h=>
  obtain⟨_,_,h⟩:=zaa.mp h;obtain⟨_,_,h⟩:=zaa.mp h;cases h
def gz(hK:X.K=K)(hc:X.calm=true)(h:QGs X es (tFGs K lk ds ds1 gs))(hl:∀ts en,(∃en',gs ts en=some en')->ts.length=n)(hn:(assignEach es X.env).length=n)(hst:(assignEach es X.env).findIdx? (·.1)=none):QG X (.Tuple es k pos) (tFG K lk ds ds1 (gT gs)):=⟨by
 subst hK;exact(Eo hc h.h hn hst).imp λ_ _ _ _=>Fy hl⟩
def bj(hc:X.calm=true)(hi:QI X tg iter (tFI K false ds ds1 fi))(hg:QG X tg (tFG K J.lk ds1 ds2 g))(hb:QSs X body (tFS K { J with dsl:=ds1 } ds2 ds1 m))(hp:PassesOwn (model X.prog X.w) X.A X.env X.xe)(hs:∀x,foldedSetIterable iter X.env x=pure x):QS X (.For tg iter body [] pos) (tFS K J ds ds1 (dg fi g m)):=⟨(Em hp hc hi.h hg.h hb.h hs).imp λ_ _ _=>Fp⟩
def gi(hc:QT X c (tFT K false ds ds1 c1))(hb:QSs X body (tFS K { J with dsl:=ds } ds1 ds m))(hp:PassesOwn (model X.prog X.w) X.A X.env X.xe):QS X (.While c body [] pos) (tFS K J ds ds1 (cw c1 m)):=⟨(wc hp hc.h hb.h).imp λ_ _ _=>xa⟩
end
def Aj:D->Option (List D)
 |.list ts=>some ts
 |.tuple ts=>some ts
 |.str z=>some ((li z).map λc=>.str (mk1 c))
 |_=>none
def eY(f:ME):MI:=λen=>(f en).bind λr=>(Aj r.1).map λts=>(ts,r.2)
section
variable{F:AS}
def e9(h1:∀a o,H0 a=some o->¬O a->H a=some o)(h2:∀a,O1 a->O a\/H0 a=none):Mv O O1 NoA H0 H:=⟨λa o q z=>z.elim (h1 a o q) λz=>z.elim,h2⟩
def uh(h:FzL K O H0 a vs)(ho:Ows K O H0 ts 0 vs NoA):jN K O H0 (Itl K a) ts:=λi H O1 h1 h2 h3=>by
 have sq:=(h.mv (e9 h1 h2)).sq;refine⟨λt ht=>?_,λhl=>⟨vs,sq,by rw[ho.len];lia⟩⟩;obtain⟨v,hv,ov⟩:=ho.get ht;refine⟨⟨vs,v,sq,hv⟩,λx H1 ⟨e,y⟩=>?_⟩;subst e;have e2:=y vs sq;rw[hv]at e2;cases e2;exact⟨λ_ _ q=>q,Ow.mv (e9 h1 h2) t (λ_ z=>z) ov⟩
def vW(h:FzT K O H0 a vs)(ho:Ows K O H0 ts 0 vs NoA):jN K O H0 (Itt K a) ts:=λi H O1 h1 h2 h3=>by
 have sq:=(h.mv (e9 h1 h2)).sq;refine⟨λt ht=>?_,λhl=>⟨vs,sq,by rw[ho.len];lia⟩⟩;obtain⟨v,hv,ov⟩:=ho.get ht;refine⟨⟨vs,v,sq,hv⟩,λx H1 ⟨e,y⟩=>?_⟩;subst e;have e2:=y vs sq;rw[hv]at e2;cases e2;exact⟨λ_ _ q=>q,Ow.mv (e9 h1 h2) t (λ_ z=>z) ov⟩
def vX:jN K O H0 (Its z) ((li z).map λc=>.str (mk1 c)):=λi H O1 h1 h2 h3=>by
 refine⟨λt ht=>?_,λhl=>?_⟩
 .rw[zao]at ht;obtain⟨c,hc,e⟩:=zab.mp ht;have hi:i<z.cps.size:=by
   have:=(zah.mp hc).1;simpa[li]using this
  have hc':z.cps[i]?=some c:=by
   have:z.cps.toList[i]?=some c:=hc;simpa using this
  refine⟨hi,λx H1 ⟨e1,c',e2,e3⟩=>?_⟩;subst e1 e e3;rw[hc']at e2;cases e2;exact⟨λ_ _ q=>q,rfl⟩
 .have:z.cps.size=i:=by
   rw[zad]at hl;simpa[li]using hl
  show z.cps.size<=i
  lia
def vY{lo:Int}:jN K O H0 (Itr lo n) ((List.range n).map λk=>.int (lo+(k:Nat))):=λi H O1 h1 h2 h3=>by
 refine⟨λt ht=>?_,λhl=>?_⟩
 .rw[zao]at ht;obtain⟨c,hc,e⟩:=zab.mp ht;have hi:=(zah.mp hc).1;rw[zbe]at hi;rw[List.getElem?_range hi]at hc;cases hc;refine⟨hi,λx H1 ⟨e1,e2⟩=>?_⟩;subst e1 e e2;exact⟨λ_ _ q=>q,rfl⟩
 .rw[zad,zbe]at hl;show n<=i
  lia
def rf{p:Addr}(hp:H p=none)(h3:∀a,O1 a->∃o,H a=some o)(ov:Ow K O1 H t 0 v NoA):(∀a o,H a=some o->upd H p (.tup [.int i,v]) a=some o)/\Ow K O1 (upd H p (.tup [.int (i:Nat),v])) (.tuple [.int i,t]) 0 (.ref p) NoA:=by
 have g:=(bC (o:=.tup [.int i,v]) hp).1;refine⟨g,p,[.int i,v],rfl,.inl ⟨rfl,⟨ao,λz=>?_⟩,.int i,[v],NoA,NoA,rfl,λ_ z=>z,λ_ z=>z,λ_ z=>z.elim,rfl,v,[],NoA,NoA,rfl,λ_ z=>z,λ_ z=>z,λ_ z=>z.elim,?_,rfl⟩⟩
 .obtain⟨o,q⟩:=h3 p z;rw[hp]at q;cases q
 .exact Ow.mv (G:=NoA) ⟨λa o q _=>g a o q,λa z=>.inl z⟩ t (λ_ z=>z) ov
noncomputable def dP(ts:List D):List D:=ts.zipIdx.map λp=>.tuple [.int (p.2:Nat),p.1]
def iC{u:D}(h:(dP ts)[i]?=some u):∃t,ts[i]?=some t/\u=.tuple [.int (i:Nat),t]:=by
 unfold dP at h;rw[zao]at h;obtain⟨⟨t,k⟩,h1,h2⟩:=zab.mp h;rw[List.getElem?_zipIdx]at h1;obtain⟨t',h3,h4⟩:=zab.mp h1;cases h4;refine⟨t,h3,?_⟩;rw[<-h2,za3]
def iB:(dP ts).length=ts.length:=by unfold dP;rw[zad,List.length_zipIdx]
def uj(h:FzL K O H0 a vs)(ho:Ows K O H0 ts 0 vs NoA):jN K O H0 (Ite K a) (dP ts):=λi H O1 h1 h2 h3=>by
 have sq:=(h.mv (e9 h1 h2)).sq;refine⟨λu hu=>?_,λhl=>⟨vs,sq,by rw[iB]at hl;rw[ho.len];lia⟩⟩;obtain⟨t,ht,rfl⟩:=iC hu;obtain⟨v,hv,ov⟩:=ho.get ht;refine⟨⟨vs,v,sq,hv⟩,λx H1 ⟨p,v',e1,hp,e2,y⟩=>?_⟩;have e3:=y vs sq;rw[hv]at e3;cases e3;subst e1 e2;exact rf hp h3 (Ow.mv (e9 h1 h2) t (λ_ z=>z) ov)
def se(h:FzT K O H0 a vs)(ho:Ows K O H0 ts 0 vs NoA):jN K O H0 (ItT K a) (dP ts):=λi H O1 h1 h2 h3=>by
 have sq:=(h.mv (e9 h1 h2)).sq;refine⟨λu hu=>?_,λhl=>⟨vs,sq,by rw[iB]at hl;rw[ho.len];lia⟩⟩;obtain⟨t,ht,rfl⟩:=iC hu;obtain⟨v,hv,ov⟩:=ho.get ht;refine⟨⟨vs,v,sq,hv⟩,λx H1 ⟨p,v',e1,hp,e2,y⟩=>?_⟩;have e3:=y vs sq;rw[hv]at e3;cases e3;subst e1 e2;exact rf hp h3 (Ow.mv (e9 h1 h2) t (λ_ z=>z) ov)
end
noncomputable def cH(fa:MA):MI:=λen=>(fa en).bind λr=>match r.1 with
 |[.inl (.int j)]=>if -(2 ^ 62)<=j/\j<2 ^ 62 then some ((List.range j.toNat).map λk=>.int (0+(k:Nat)),r.2)else none
 |_=>none
noncomputable def HU(fa:MA):MI:=λen=>(fa en).bind λr=>match r.1 with
 |[.inl (.int i),.inl (.int j)]=>if -(2 ^ 62)<=i/\i<2 ^ 62/\-(2 ^ 62)<=j/\j<2 ^ 62 then some ((List.range (j-i).toNat).map λk=>.int (i+(k:Nat)),r.2)else none
 |_=>none
def kj(fa:MA):MI:=λen=>(fa en).bind λr=>match r.1 with
 |[.inl (.list ts)]=>some (dP ts,r.2)
 |[.inl (.tuple ts)]=>some (dP ts,r.2)
 |_=>none
section
variable{l:Expr}  
def cB(hK:X.K=K)(hl:QE X l (tF K p ds ds1 d f)):QI X tg l (tFI K p ds ds1 (eY f)):=⟨by
 subst hK;intro ρ s σ H R I h;obtain⟨Ox,en,Rg,ts,en',e,hf,k⟩:=h;unfold eY at hf;obtain⟨⟨t,en1⟩,h1,hf⟩:=zaa.mp hf;obtain⟨ts',h2,hf⟩:=zab.mp hf;cases hf;refine thn (hl.h ρ s σ H (λv H1=>∃R1,Post X.K p ds1 Ox σ H en Rg en1 H1 R1 NoA/\Ow X.K (Own R1 Ox) H1 t 0 v NoA) I ⟨Ox,en,Rg,t,en1,e,h1,λv H1 R1 F P o=>⟨R1,P.less λ_ z=>z.elim,Ow.letgo P (λ_ z=>z) o⟩⟩) λv s1 ⟨x,H1,I1,r1,R1,P,o⟩=>?_;cases t with
 |list ts0=>
  cases h2;obtain⟨a,vs,e1,⟨_,fz,ow⟩|⟨z,_⟩⟩:=o
  .subst e1;cases r1;obtain⟨its,rv,pl,hz⟩:=I1.list fz.sq;refine wpAny_pyIter_list pl.isList ?_;refine⟨s1.heap.objs.size,[s1.heap.objs.size],_,_,H1,rfl,I1.kept (t':=s1.toks) λb o e=>zaf _ e,uq a _,⟨_,zan _ rfl,rfl,rfl⟩,λb hb=>?_,k _ H1 R1 P (uh fz ow)⟩;have e:b=s1.heap.objs.size:=by simpa using hb
   subst e;exact I1.fpOk (zav _) (I1.hok.fresh (zav _))
  .exact absurd rfl z
 |tuple ts0=>
  cases h2;obtain⟨a,vs,e1,⟨_,fz,ow⟩|⟨z,_⟩⟩:=o
  .subst e1;cases r1;obtain⟨its,rv,pl,hz⟩:=I1.tuple fz.sq;refine wpAny_pyIter_tuple (show s1.heap.IsTuple a its.toArray from pl) ?_;refine⟨s1.heap.objs.size,[s1.heap.objs.size],_,_,H1,rfl,I1.kept (t':=s1.toks) λb o e=>zaf _ e,sf a _,⟨_,zan _ rfl,rfl,rfl⟩,λb hb=>?_,k _ H1 R1 P (vW fz ow)⟩;have e:b=s1.heap.objs.size:=by simpa using hb
   subst e;exact I1.fpOk (zav _) (I1.hok.fresh (zav _))
  .exact absurd rfl z
 |str z=>
  cases h2;have e1:x=.str z:=o;subst e1;obtain⟨t,rfl⟩:=r1;have fin:∀(ty:String) (o:Obj),(ty="str_ascii_iterator"\/ty="str_iterator")->(s1.heap.push o).IsStrIter s1.heap.objs.size ty z t 0->PIE X ρ σ tg R (.ref s1.heap.objs.size) { s1 with heap:=s1.heap.push o }:=λty o hty st=>by
   refine⟨s1.heap.objs.size,[s1.heap.objs.size],_,_,H1,rfl,I1.kept (t':=s1.toks) λb o e=>zaf _ e,v1 _ z t ty hty,st,λb hb=>?_,k _ H1 R1 P vX⟩;have e:b=s1.heap.objs.size:=by simpa using hb
   subst e;exact I1.fpOk (zav _) (I1.hok.fresh (zav _))
  cases ha:z.cps.all (·<128)
  .exact wpAny_pyIter_wide ha (fin _ _ (.inr rfl) ⟨_,zan _ rfl,rfl,rfl⟩)
  .exact wpAny_pyIter_ascii ha (fin _ _ (.inl rfl) ⟨_,zan _ rfl,rfl,rfl⟩)
 |_=>cases h2⟩
def cO{a:Expr}(hg:Gl X "range")(hm:X.mg "range"=none)(ha:QA X [a] (tFA K p ds ds1 sh fa))(hs:bg a=true):QI X tg (.Call (.Name "range" px) [a] [] pos) (tFI K p ds ds1 (cH fa)):=⟨(uK hg hm ha.h (a5 hs)).imp λσ H R ⟨Ox,en,Rg,ts,en',e,hf,k⟩=>by
  unfold cH at hf;obtain⟨⟨as,en1⟩,h1,hf⟩:=zaa.mp hf;refine⟨Ox,en,Rg,as,en1,e,h1,λvs H1 R1 F P o=>?_⟩
  dsimp only at hf
  split at hf
  case h_2=>cases hf
  next j=>
  by_cases hj:-(2 ^ 62)<=j/\j<2 ^ 62
  case neg=>rw[if_neg hj]at hf;cases hf
  rw[if_pos hj]at hf;cases hf;obtain⟨v,r,d,dr,F1,F2,e1,e2,_,_,_,o1,o2⟩:=o;obtain⟨_,o2⟩:=o2;subst e1 o2;have ev:v=.int j:=o1;subst ev;exact⟨j,rfl,hj.1,hj.2,k _ H1 R1 (P.less λ_ z=>z.elim) vY⟩⟩
def nT(hK:X.K=K)(hg:Gl X "enumerate")(hm:X.mg "enumerate"=none)(ha:QA X [l] (tFA K p ds ds1 sh fa))(hs:starEach [l] X.env=[(false,eval l X.env)]):QI X (.Tuple elts k tp) (.Call (.Name "enumerate" px) [l] [] pos) (tFI K p ds ds1 (kj fa)):=⟨by
 subst hK;intro ρ s σ H R I h;obtain⟨Ox,en,Rg,ts,en',e,hf,k⟩:=h;unfold kj at hf;obtain⟨⟨as,en1⟩,h1,hf⟩:=zaa.mp hf;refine Call_ (ie I hg hm boot_enumerate (PyProof.Rows.callWith_type1 (thn (ha.h pos ρ s σ H (λvs H1=>∃R1 t v,as=[.inl t]/\vs=[v]/\Post X.K p ds1 Ox σ H en Rg en1 H1 R1 NoA/\Ow X.K (Own R1 Ox) H1 t 0 v NoA) I ⟨Ox,en,Rg,as,en1,e,h1,λvs H1 R1 F P o=>?_⟩) λus s1 ⟨vs,H1,I1,r1,R1,t,v,ea,ev,P,o⟩=>?_) hs rfl))
 .have one:∃t,as=[.inl t]:=by
   dsimp only at hf
   split at hf
   .exact⟨_,rfl⟩
   .exact⟨_,rfl⟩
   .cases hf
  obtain⟨t,rfl⟩:=one;obtain⟨v,r,d,dr,F1,F2,e1,e2,s1,_,_,o1,o2⟩:=o;obtain⟨_,o2⟩:=o2;subst o2;exact⟨R1,t,v,rfl,e1,P.less λ_ z=>z.elim,Ow.letgo P s1 o1⟩
 subst ea ev;obtain⟨u,rfl,ru⟩:=kS r1;cases t with
 |list ts0=>
  cases hf;obtain⟨a,vs,e1,⟨_,fz,ow⟩|⟨z,_⟩⟩:=o
  .subst e1;cases ru;obtain⟨its,rv,pl,hz⟩:=I1.list fz.sq;refine call_enumerate_list pl.isList λh' hE hI hsz hk=>?_;refine wpAny_pyIter_enum hE ?_;have I2:Inv X ρ σ H1 { s1 with heap:=h' }:=I1.kept (t':=s1.toks) hk;refine⟨s1.heap.objs.size+1,[s1.heap.objs.size+1,s1.heap.objs.size],_,_,H1,rfl,I2,ut a _ _ (Nat.succ_ne_self _),⟨⟨_,hE⟩,hI⟩,λb hb=>?_,k _ H1 R1 P (uj fz ow)⟩;have hb':b=s1.heap.objs.size+1\/b=s1.heap.objs.size:=by simpa using hb
   rcases hb' with rfl|rfl
   .exact I1.fpOk (Nat.le_succ _) (I1.hok.fresh (Nat.le_succ _))
   .exact I1.fpOk (zav _) (I1.hok.fresh (zav _))
  .exact absurd rfl z
 |tuple ts0=>
  cases hf;obtain⟨a,vs,e1,⟨_,fz,ow⟩|⟨z,_⟩⟩:=o
  .subst e1;cases ru;obtain⟨its,rv,pt,hz⟩:=I1.tuple fz.sq;have hT:s1.heap.IsTuple a its.toArray:=pt;have hlt:a<s1.heap.objs.size:=by
    obtain⟨o,e1,_⟩:=id hT;exact zal e1
   refine oA hT λh' hE hI hsz hk=>?_;refine wpAny_pyIter_enum hE ?_;have I2:Inv X ρ σ H1 { s1 with heap:=h' }:=I1.kept (t':=s1.toks) hk;refine⟨s1.heap.objs.size+1,[s1.heap.objs.size+1,s1.heap.objs.size],_,_,H1,rfl,I2,sj a _ _ (Nat.succ_ne_self _) (zaw hlt),⟨⟨_,hE⟩,hI⟩,λb hb=>?_,k _ H1 R1 P (se fz ow)⟩;have hb':b=s1.heap.objs.size+1\/b=s1.heap.objs.size:=by simpa using hb
   rcases hb' with rfl|rfl
   .exact I1.fpOk (Nat.le_succ _) (I1.hok.fresh (Nat.le_succ _))
   .exact I1.fpOk (zav _) (I1.hok.fresh (zav _))
  .exact absurd rfl z
 |_=>cases hf⟩
end
def NewTo.refl:NewTo H H NoA:=⟨λ_ _ q=>q,λ_ z=>z.elim⟩
def OpR.imp{fn:Value->Value->Sem Value}{r r':R2}(h:OpR X fn r)(hi:∀x y H Q,r' x y H Q->r x y H Q):OpR X fn r':=λρ s σ H x y v u Q I rx ry q=>h ρ s σ H x y v u Q I rx ry (hi _ _ _ _ q)
def OpR.or'{fn:Value->Value->Sem Value}{r r':R2}(h:OpR X fn r)(h':OpR X fn r'):OpR X fn (λx y H Q=>r x y H Q\/r' x y H Q):=λρ s σ H x y v u Q I rx ry q=>q.elim (h ρ s σ H x y v u Q I rx ry) (h' ρ s σ H x y v u Q I rx ry)
def CallR.imp(h:CallR X fn r)(hi:∀x H Q,r' x H Q->r x H Q):CallR X fn r':=λρ s σ H x v Q I rx q=>h ρ s σ H x v Q I rx (hi _ _ _ q)
def CallR.or'(h:CallR X fn r)(h':CallR X fn r'):CallR X fn (λx H Q=>r x H Q\/r' x H Q):=λρ s σ H x v Q I rx q=>q.elim (h ρ s σ H x v Q I rx) (h' ρ s σ H x v Q I rx)
def IxR.imp{r r':R2}(h:IxR X r)(hi:∀x y H Q,r' x y H Q->r x y H Q):IxR X r':=λvalue slice ρ s σ H x y v u Q I rx ry q=>h value slice ρ s σ H x y v u Q I rx ry (hi _ _ _ _ q)
def OpR.imF{fn:Value->Value->Sem Value}{r:R2}(h:OpR X fn r)(hi:∀x y H Q (O:AS) (a b t:D),Ow K O H a 0 x NoA->Ow K O H b 0 y NoA->(∀a,O a->∃o,H a=some o)->g a b=some t->(∀v H' F,NewTo H H' F->Ow K (U F O) H' t d v F->Q v H')->r x y H Q):OpR X fn (rF2 K g d):=h.imp λx y H Q ⟨O,a,b,t,oa,ob,hd,hg,k⟩=>hi x y H Q O a b t oa ob hd hg k
def CallR.imF{g:List D->Option D}(h:CallR X fn r)(hi:∀xs H Q (O:AS) (as:List D) (t:D),Ows K O H as 0 xs NoA->(∀a,O a->∃o,H a=some o)->g as=some t->(∀v H' F,NewTo H H' F->Ow K (U F O) H' t d v F->Q v H')->r xs H Q):CallR X fn (rFn K g d):=h.imp λxs H Q ⟨O,as,t,oa,hd,hg,k⟩=>hi xs H Q O as t oa hd hg k
section
variable{ws:List V}{x:V} 
def db(hl:H l=none)(hd:∀a,O a->∃o,H a=some o)(h:Ows K O H ts 0 vs NoA):NewTo H (upd H l (.lst vs)) (λb=>b=l)/\Ow K (U (λb=>b=l) O) (upd H l (.lst vs)) (.list ts) 1 (.ref l) (λb=>b=l):=by
 refine⟨bC hl,l,vs,rfl,.inr ⟨by decide,ao,rfl,NoA,λ_ z=>z.elim,?_⟩⟩;refine Ows.mv (G:=NoA) ⟨λa o q _=>(bC (o:=.lst vs) hl).1 a o q,λa z=>?_⟩ ts (λ_ z=>z) h;rcases z with z|z
 .exact .inr (by rw[show a=l from z];exact hl)
 .exact .inl z
theorem Ows.app:∀{ts:List D} {vs:List V},Ows K O H ts 0 vs NoA->Ows K O H us 0 ws NoA->Ows K O H (ts++us) 0 (vs++ws) NoA
 |[],_,h,h2=>by rw[show _=[]from h];exact h2
 |t::ts,_,h,h2=>by
  obtain⟨v,r,F1,F2,e,_,_,_,h4,h5⟩:=h;subst e;exact⟨v,r++ws,NoA,NoA,rfl,λ_ z=>z,λ_ z=>z,λ_ z=>z.elim,Ow.any0 t h4,Ows.app (Ows.any0 ts h5) h2⟩
def Ow.lst0(h:Ow K O H (.list ts) 0 v NoA):∃a vs,v=.ref a/\FzL K O H a vs/\Ows K O H ts 0 vs NoA:=by
 obtain⟨a,vs,e,⟨_,h1,h2⟩|⟨z,_⟩⟩:=h
 .exact⟨a,vs,e,h1,h2⟩
 .exact absurd rfl z
def Ow.tup0(h:Ow K O H (.tuple ts) 0 v NoA):∃a vs,v=.ref a/\FzT K O H a vs/\Ows K O H ts 0 vs NoA:=by
 obtain⟨a,vs,e,⟨_,h1,h2⟩|⟨z,_⟩⟩:=h
 .exact⟨a,vs,e,h1,h2⟩
 .exact absurd rfl z
def Ows.one(h:Ows K O H [t] 0 vs NoA):∃v,vs=[v]/\Ow K O H t 0 v NoA:=by
 obtain⟨v,r,F1,F2,e,_,_,_,h4,h5⟩:=h;rw[show r=[]from h5]at e;exact⟨v,e,Ow.any0 t h4⟩
noncomputable def br:D->D->Option D
 |.int a,.int b=>some (.int (a+b))
 |.str a,.str b=>if a.length+b.length<=sizeLine then some (.str (a++b))else none
 |_,_=>none
def c7:OpR X (binaryOp .Add) (rF2 K br 3):=(op_add.or' sF).imF λx y H Q O a b t oa ob hd hg k=>by
 cases a with
 |int i=>cases b with
  |int j=>cases hg;exact .inl ⟨i,j,oa,ob,k _ H NoA .refl rfl⟩
  |_=>cases hg
 |str i=>cases b with
  |str j=>
   dsimp only[br]at hg
   by_cases hl:i.length+j.length<=sizeLine
   .rw[if_pos hl]at hg;cases hg;exact .inr ⟨i,j,oa,ob,hl,k _ H NoA .refl rfl⟩
   .rw[if_neg hl]at hg;cases hg
  |_=>cases hg
 |_=>cases hg
noncomputable def iS(g:Int->Int->Option D):D->D->Option D
 |.int a,.int b=>g a b
 |_,_=>none
def cU{g:Int->Int->Option D}{a b:D}(h:iS g a b=some t):∃i j,a=.int i/\b=.int j/\g i j=some t:=by
 cases a with
 |int i=>cases b with
  |int j=>exact⟨i,j,rfl,rfl,h⟩
  |_=>cases h
 |_=>cases h
def mW:D->D->Option D:=iS λa b=>some (.int (a-b))
def Fu:OpR X (binaryOp .Sub) (rF2 K mW 3):=op_sub.imF λx y H Q O a b t oa ob hd hg k=>by
 obtain⟨i,j,rfl,rfl,h⟩:=cU hg;cases h;exact⟨i,j,oa,ob,k _ H NoA .refl rfl⟩
instance (i j:Int):Decidable (CMul i j):=by unfold CMul;exact inferInstance
instance (i j:Int):Decidable (nC i j):=by unfold nC;exact inferInstance
instance (i j:Int):Decidable (kO i j):=by unfold kO;exact inferInstance
def cy:D->D->Option D:=iS λa b=>if CMul a b then some (.int (a*b))else none
def gy:OpR X (binaryOp .Mult) (rF2 K cy 3):=op_mul.imF λx y H Q O a b t oa ob hd hg k=>by
 obtain⟨i,j,rfl,rfl,h⟩:=cU hg;by_cases hc:CMul i j
 .rw[if_pos hc]at h;cases h;exact⟨i,j,oa,ob,hc,k _ H NoA .refl rfl⟩
 .rw[if_neg hc]at h;cases h
def iA:D->D->Option D:=iS λa b=>if nC a b then some (.int (a / b))else none
def rO:OpR X (binaryOp .FloorDiv) (rF2 K iA 3):=op_fdiv.imF λx y H Q O a b t oa ob hd hg k=>by
 obtain⟨i,j,rfl,rfl,h⟩:=cU hg;by_cases hc:nC i j
 .rw[if_pos hc]at h;cases h;exact⟨i,j,oa,ob,hc,k _ H NoA .refl rfl⟩
 .rw[if_neg hc]at h;cases h
def bO:D->D->Option D:=iS λa b=>if 0<b then some (.int (a % b))else none
def fA:OpR X (binaryOp .Mod) (rF2 K bO 3):=op_mod.imF λx y H Q O a b t oa ob hd hg k=>by
 obtain⟨i,j,rfl,rfl,h⟩:=cU hg;by_cases hc:0<j
 .rw[if_pos hc]at h;cases h;exact⟨i,j,oa,ob,hc,k _ H NoA .refl rfl⟩
 .rw[if_neg hc]at h;cases h
def mZ:D->D->Option D:=iS λa b=>if kO a b then some (.int (a ^ b.toNat))else none
def vw:OpR X (binaryOp .Pow) (rF2 K mZ 3):=op_pow.imF λx y H Q O a b t oa ob hd hg k=>by
 obtain⟨i,j,rfl,rfl,h⟩:=cU hg;by_cases hc:kO i j
 .rw[if_pos hc]at h;cases h;exact⟨i,j,oa,ob,hc,k _ H NoA .refl rfl⟩
 .rw[if_neg hc]at h;cases h
def ltI:D->D->Option D:=iS λa b=>some (.bool (decide (a<b)))
def leI:D->D->Option D:=iS λa b=>some (.bool (decide (a<=b)))
def gtI:D->D->Option D:=iS λa b=>some (.bool (decide (b<a)))
def geI:D->D->Option D:=iS λa b=>some (.bool (decide (b<=a)))
def k6:OpR X (compareOp .Lt) (rF2 K ltI 3):=op_lt.imF λx y H Q O a b t oa ob hd hg k=>by
 obtain⟨i,j,rfl,rfl,h⟩:=cU hg;cases h;exact⟨i,j,oa,ob,k _ H NoA .refl rfl⟩
def GS:OpR X (compareOp .LtE) (rF2 K leI 3):=op_le.imF λx y H Q O a b t oa ob hd hg k=>by
 obtain⟨i,j,rfl,rfl,h⟩:=cU hg;cases h;exact⟨i,j,oa,ob,k _ H NoA .refl rfl⟩
def tG:OpR X (compareOp .Gt) (rF2 K gtI 3):=op_gt.imF λx y H Q O a b t oa ob hd hg k=>by
 obtain⟨i,j,rfl,rfl,h⟩:=cU hg;cases h;exact⟨i,j,oa,ob,k _ H NoA .refl rfl⟩
def GT:OpR X (compareOp .GtE) (rF2 K geI 3):=op_ge.imF λx y H Q O a b t oa ob hd hg k=>by
 obtain⟨i,j,rfl,rfl,h⟩:=cU hg;cases h;exact⟨i,j,oa,ob,k _ H NoA .refl rfl⟩
noncomputable def nh:D->Bool
 |.none=>true
 |_=>false
def pS{a:D}{F:AS}(h:Ow K O H a d x F):decide (x=.non)=nh a:=by
 cases a with
 |none=>rw[show x=.non from h];rfl
 |bool b=>rw[show x=.bl b from h];rfl
 |int b=>rw[show x=.int b from h];rfl
 |str b=>rw[show x=.str b from h];rfl
 |list ts=>obtain⟨a,vs,e,_⟩:=h;rw[e];rfl
 |tuple ts=>obtain⟨a,vs,e,_⟩:=h;rw[e];rfl
 |dict ts=>obtain⟨a,vs,e,_⟩:=h;rw[e];rfl
def isN:D->D->Option D
 |a,.none=>some (.bool (nh a))
 |_,_=>none
def fX:D->D->Option D
 |a,.none=>some (.bool (!nh a))
 |_,_=>none
def fB:OpR X (compareOp .Is) (rF2 K isN 3):=op_isN.imF λx y H Q O a b t oa ob hd hg k=>by
 cases b with
 |none=>cases hg;exact⟨ob,by rw[pS oa];exact k _ H NoA .refl rfl⟩
 |_=>cases hg
def fj:OpR X (compareOp .IsNot) (rF2 K fX 3):=op_notN.imF λx y H Q O a b t oa ob hd hg k=>by
 cases b with
 |none=>cases hg;exact⟨ob,by rw[pS oa];exact k _ H NoA .refl rfl⟩
 |_=>cases hg
def ID:D->D->Option D
 |.str a,.str b=>some (.bool (vh b a))
 |_,_=>none
def HK:D->D->Option D
 |.str a,.str b=>some (.bool (!vh b a))
 |_,_=>none
def ixA:D->D->Option D
 |.list ts,.int n=>atI ts n
 |.tuple ts,.int n=>atI ts n
 |.str z,.int n=>if z.length<=sizeLine then(atI z.cps.toList n).map λc=>.str (mk1 c)else none
 |_,_=>none
def ck(hK:X.K=K):IxR X (rF2 K ixA 0):=by
 subst hK;refine ix_seq.imp ?_;rintro x y H Q ⟨O,a,b,t,oa,ob,hd,hg,k⟩;cases b with
 |int n=>
  cases a with
  |list ts=>
   obtain⟨a,vs,e,fz,ow⟩:=oa.lst0;obtain⟨v,h1,h2⟩:=ow.atI hg;exact .inl ⟨a,vs,n,v,e,ob,fz.sq,h1,k v H NoA .refl (by rw[ij];exact h2)⟩
  |tuple ts=>
   obtain⟨a,vs,e,fz,ow⟩:=oa.tup0;obtain⟨v,h1,h2⟩:=ow.atI hg;exact .inr (.inl ⟨a,vs,n,v,e,ob,fz.sq,h1,k v H NoA .refl (by rw[ij];exact h2)⟩)
  |str z=>
   dsimp only[ixA]at hg
   by_cases hl:z.length<=sizeLine
   .rw[if_pos hl]at hg;obtain⟨c,h1,h2⟩:=zab.mp hg;cases h2;exact .inr (.inr ⟨z,n,c,oa,ob,hl,h1,k _ H NoA .refl rfl⟩)
   .rw[if_neg hl]at hg;cases hg
  |_=>cases hg
 |_=>cases a<;>cases hg
def ixT:D->D->Option D
 |.str z,.int n=>if z.length<=sizeLine then(atI z.cps.toList n).map λc=>.str (mk1 c)else none
 |_,_=>none
noncomputable def tS:D->D->Option D
 |.list a,.list b=>if a.length+b.length<=sizeLine then some (.list (a++b))else none
 |_,_=>none
noncomputable def II:D->D->Option D
 |.tuple a,.tuple b=>if a.length+b.length<=sizeLine then some (.tuple (a++b))else none
 |_,_=>none
end
noncomputable def grd{α:Type}(c:Prop)[Decidable c](t:α):Option α:=if c then some t else none
def dz{α:Type}{c:Prop}[Decidable c]{t u:α}(h:grd c t=some u):c/\t=u:=by
 unfold grd at h;by_cases hc:c
 .rw[if_pos hc]at h;exact⟨hc,zat h⟩
 .rw[if_neg hc]at h;cases h
section
variable{ws:List V}{x:V} 
def Gq(K:zbV):R2:=λx y H Q=>∃l b xs zs,x=.ref l/\y=.ref b/\SqL K H l xs/\SqL K H b zs/\xs.length+zs.length<=sizeLine/\∀p,H p=none->Q (.ref p) (upd H p (.lst (xs++zs)))
def op_catL:OpR X (binaryOp .Add) (Gq X.K):=by
 intro ρ s σ H x y v u Q I rx ry h;obtain⟨l,b,xs,zs,rfl,rfl,hH,hB,hz,q⟩:=h;cases rx;cases ry;obtain⟨its,r,⟨⟨c1,dd,da1,sl⟩,n,ho,hc,hdd,hda⟩,_⟩:=I.list hH;obtain⟨ν,r2,⟨⟨c2,dd2,da2,sl2⟩,n2,ho2,hc2,hdd2,hda2⟩,_⟩:=I.list hB;have hl:=r.length;have hl2:=r2.length;simp only at hc hda hc2 hda2;subst hc hda hc2 hda2;refine concat_meets ⟨_,ho,rfl⟩ ⟨_,ho2,rfl⟩ noFill_list_add seq_list_add PySem.F.slot_list_add PySem.F.entry_list_add (PySem.F.args_list_add_2 _ _) (list_addW l b its.toArray ν.toArray n n2 dd dd2 sl sl2 (by simp only[zai];lia)) ⟨ho,ho2,?_⟩;have ea:its.toArray++ν.toArray=(its++ν).toArray:=by simp
 rw[ea];exact⟨.ref _,_,I.lnew (t':=s.toks) (r.append r2) (by rw[zae];lia),rfl,q _ I.fresh⟩
def BM(hK:X.K=K):OpR X (binaryOp .Add) (rF2 K tS 1):=by
 subst hK;refine op_catL.imp ?_;rintro x y H Q ⟨O,a,b,t,oa,ob,hd,hg,k⟩;cases a with
 |list ts=>cases b with
  |list us=>
   dsimp only[tS]at hg
   by_cases hl:ts.length+us.length<=sizeLine
   case neg=>rw[if_neg hl]at hg;cases hg
   rw[if_pos hl]at hg;cases hg;obtain⟨a,vs,e1,f1,w1⟩:=oa.lst0;obtain⟨b,ws,e2,f2,w2⟩:=ob.lst0;refine⟨a,b,vs,ws,e1,e2,f1.sq,f2.sq,by rw[w1.len,w2.len];exact hl,λp hp=>?_⟩;obtain⟨n1,n2⟩:=db hp hd (w1.app w2);exact k _ _ _ n1 n2
  |_=>cases hg
 |_=>cases hg
def Gn(K:zbV):R2:=λx y H Q=>∃l k xs,x=.ref l/\y=.int k/\SqL K H l xs/\-(2 ^ 63)<=k/\k<2 ^ 63/\xs.length*k.toNat<=sizeLine/\∀p,H p=none->Q (.ref p) (upd H p (.lst (List.replicate k.toNat xs).flatten))
def op_repL:OpR X (binaryOp .Mult) (Gn X.K):=by
 intro ρ s σ H x y v u Q I rx ry h;obtain⟨l,k,xs,rfl,rfl,hH,h1,h2,hz,q⟩:=h;cases rx;obtain⟨t,rfl⟩:=ry;obtain⟨its,r,⟨⟨c1,dd,da1,sl⟩,n,ho,hc,hdd,hda⟩,_⟩:=I.list hH;have hl:=r.length;simp only at hc hda;subst hc hda;have ξ:its.toArray.size*k.toNat<=sizeLine:=by rw[zai,<-hl];exact hz
 have hcap:¬its.toArray.size*k.toNat>(2 ^ 63-1) / 8:=by
  have:(sizeLine:Nat)<=(2 ^ 63-1) / 8:=by decide
  lia
 have hfit:¬(!Builtin.List.listFitsIndex k)=true:=by
  rw[fitsIndex_both h1 h2];exact zbn
 have hlong:¬Builtin.List.listTooLong (its.toArray.size*k.toNat)=true:=by
  rw[wA ξ];exact zbn
 refine wpAny_binaryOp_repeat_ref (T:="list") (U:="int") (by decide) ⟨_,ho,rfl⟩ (λs'=>typeIs_int s' k t) noFill_list_mul F.fills_int_mul F.slot_int_rmul repeat_list F.slot_int_index.lookup
  (call_meets F.slot_int_rmul (typeIs_int s k t) F.entry_int_rmul (F.args_int_rmul_2 _ _) (lm_int_rmul_list_any k t l its.toArray n dd sl)
   ⟨ho,rfl,⟨_,ho,rfl⟩,call_meets F.slot_list_mul ⟨_,ho,rfl⟩ F.entry_list_mul (F.args_list_mul_2 _ _)
    (lm_list_mul_any l its.toArray n dd sl k t hfit hcap hlong) ⟨ho,?_⟩⟩)
 rw[listMul_foldl_if];exact⟨.ref _,_,I.lnew (t':=s.toks) (r.rep k.toNat) (by rw[Bq,Nat.mul_comm];exact hz),rfl,q _ I.fresh⟩
theorem Ows.rep(h:Ows K O H ts 0 vs NoA):∀n:Nat,Ows K O H (List.replicate n ts).flatten 0 (List.replicate n vs).flatten NoA
 |0=>rfl
 |n+1=>by
  rw[List.replicate_succ,List.replicate_succ,List.flatten_cons,List.flatten_cons];exact h.app (Ows.rep h n)
def wE:D->D->Option D
 |.list ts,.int k=>grd (-(2 ^ 63)<=k/\k<2 ^ 63/\ts.length*k.toNat<=sizeLine) (.list (List.replicate k.toNat ts).flatten)
 |_,_=>none
def BL(hK:X.K=K):OpR X (binaryOp .Mult) (rF2 K wE 1):=by
 subst hK;refine op_repL.imp ?_;rintro x y H Q ⟨O,a,b,t,oa,ob,hd,hg,k⟩;cases a with
 |list ts=>cases b with
  |int n=>
   obtain⟨⟨c1,c2,c3⟩,rfl⟩:=dz hg;obtain⟨a,vs,e1,f1,w1⟩:=oa.lst0;refine⟨a,n,vs,e1,ob,f1.sq,c1,c2,by rw[w1.len];exact c3,λp hp=>?_⟩;obtain⟨n1,n2⟩:=db hp hd (w1.rep n.toNat);exact k _ _ _ n1 n2
  |_=>cases hg
 |_=>cases hg
def IC:D->D->Option D
 |.str z,.int k=>grd (z.length<=4000/\-(2 ^ 63)<=k/\k<=4000) (.str (Txt.mul z k))
 |_,_=>none
noncomputable def IA:D->Option D
 |.int i=>some (.int (-i))
 |_=>none
def bf:List D->Option D
 |[.list ts]=>some (.int ts.length)
 |[.tuple ts]=>some (.int ts.length)
 |[.str z]=>grd (z.length<=sizeLine) (.int z.length)
 |_=>none
def Fv(hK:X.K=K):CallR X (.builtin "len") (rFn K bf 3):=(Ht hK).imF λxs H Q O as t oa hd hg k=>by
 match as,hg with
 |[.list ts],hg=>
  cases hg;obtain⟨v,rfl,o⟩:=oa.one;obtain⟨a,vs,rfl,fz,w⟩:=o.lst0;exact⟨_,_,rfl,.inl ⟨vs,fz.sq,rfl⟩,by rw[w.len];exact k _ H NoA .refl rfl⟩
 |[.tuple ts],hg=>
  cases hg;obtain⟨v,rfl,o⟩:=oa.one;obtain⟨a,vs,rfl,fz,w⟩:=o.tup0;exact⟨_,_,rfl,.inr ⟨vs,fz.sq,rfl⟩,by rw[w.len];exact k _ H NoA .refl rfl⟩
 |[.str z],hg=>
  obtain⟨c,rfl⟩:=dz hg;obtain⟨v,rfl,o⟩:=oa.one;exact⟨_,_,rfl,by rw[show v=.str z from o];exact⟨c,rfl⟩,k _ H NoA .refl rfl⟩
noncomputable def tT:List D->Option D
 |[.int i]=>some (.int (if i<0 then -i else i))
 |_=>none
noncomputable def Ij:List D->Option D
 |[.int i,.int j]=>some (.int (if j>i then j else i))
 |_=>none
noncomputable def Ii:List D->Option D
 |[.int i,.int j]=>some (.int (if j<i then j else i))
 |_=>none
noncomputable def Hv:List D->Option D
 |[.int i]=>some (.int i)
 |[.bool b]=>some (.int (if b then 1 else 0))
 |_=>none
def l4(z:Str):List D:=(li z).map λc=>.str (mk1 c)
def pz:Ows K O H (l4 z) 0 (dL z) NoA:=by
 unfold l4 dL;show Ows K O H ((li z).map λc=>.str (mk1 c)) 0 ((li z).map sgn) NoA;generalize li z=l
 induction l with
 |nil=>rfl
 |cons c r ih=>exact⟨sgn c,r.map sgn,NoA,NoA,rfl,λ_ z=>z,λ_ z=>z,λ_ z=>z.elim,rfl,ih⟩
def oJ:List D->Option D
 |[.list ts]=>some (.list ts)
 |[.tuple ts]=>some (.list ts)
 |[.str z]=>grd (z.cps.size<=sizeLine) (.list (l4 z))
 |_=>none
def rN(hK:X.K=K)(hc:X.calm=true):CallR X (.type "list") (rFn K oJ 1):=((By hK).or' (nu hc)).imF λxs H Q O as t oa hd hg k=>by
 match as,hg with
 |[.list ts],hg=>
  cases hg;obtain⟨v,rfl,o⟩:=oa.one;obtain⟨a,vs,rfl,fz,w⟩:=o.lst0;exact .inl ⟨a,vs,rfl,.inl fz.sq,λl hl=>k _ _ _ (db hl hd w).1 (db hl hd w).2⟩
 |[.tuple ts],hg=>
  cases hg;obtain⟨v,rfl,o⟩:=oa.one;obtain⟨a,vs,rfl,fz,w⟩:=o.tup0;exact .inl ⟨a,vs,rfl,.inr fz.sq,λl hl=>k _ _ _ (db hl hd w).1 (db hl hd w).2⟩
 |[.str z],hg=>
  obtain⟨c,rfl⟩:=dz hg;obtain⟨v,rfl,o⟩:=oa.one;exact .inr ⟨z,by rw[show v=.str z from o],c,λl hl=>k _ _ _ (db (K:=K) hl hd pz).1 (db hl hd pz).2⟩
noncomputable def Iw:List D->Option D
 |[.list ts]=>some (.tuple ts)
 |[.tuple ts]=>some (.tuple ts)
 |_=>none
noncomputable def rW:List D->Option (List Bool)
 |[]=>some []
 |.bool b::r=>(rW r).map (b::·)
 |_::_=>none
def IH:List D->Option D
 |[.list ts]=>(rW ts).map λbs=>.bool (bs.all id)
 |_=>none
noncomputable def tyN:D->String
 |.none=>"NoneType" |.bool _=>"bool" |.int _=>"int" |.str _=>"str" |.list _=>"list" |.tuple _=>"tuple" |.dict _=>"dict"
noncomputable def cT(n T:String):Bool:=n==T || (n=="bool"&&T=="int")
def rG(hT:T∈["int","bool","str","list","tuple","dict"])(a:D):PySem.W.kitOne K (.type (tyN a)) (.type T)=some (cT (tyN a) T):=by
 simp only[zay,zap,or_false]at hT;rcases hT with rfl|rfl|rfl|rfl|rfl|rfl<;>cases a<;>rfl
noncomputable def isX:D->Bool
 |.dict [(.none,.str _)]=>true
 |.dict [(.none,.int _)]=>true
 |_=>false
def Gp(K:zbV):List V->Hp->VK->Prop:=λxs H Q=>∃x T,∃(O:AS) (a:D),xs=[x,.ty T]/\Ow K O H a 0 x NoA/\isX a=false/\T∈["int","bool","str","list","tuple","dict"]/\Q (.bl (cT (tyN a) T)) H
def vP:CallR X (.builtin "isinstance") (Gp X.K):=by
 intro ρ s σ H xs us Q I r h;obtain⟨x,T,O,a,rfl,oa,hX,hT,q⟩:=h;have base:∀ty,TyOf X.K H x (.type ty)->tyN a=ty->wpAny (model X.prog X.w) X.A (call (.builtin "isinstance") us) (EP X ρ σ Q) X.xe s:=λty h1 h2=>by
  refine xC ρ s σ H _ us Q I r ⟨x,.type ty,T,cT (tyN a) T,rfl,h1,?_,q⟩;rw[<-h2];exact rG hT a
 cases a with
 |none=>exact base _ (by rw[show x=.non from oa];exact .non) rfl
 |bool b=>exact base _ (by rw[show x=.bl b from oa];exact .bl b) rfl
 |int b=>exact base _ (by rw[show x=.int b from oa];exact .int b) rfl
 |str b=>exact base _ (by rw[show x=.str b from oa];exact .str b) rfl
 |tuple ts=>
  obtain⟨p,vs,rfl,fz,w⟩:=oa.tup0;exact base _ (.tup fz.1) rfl
 |dict ts=>
  obtain⟨p,vs,rfl,⟨_,h1,_⟩|⟨_,h1,_⟩|⟨_,⟨⟨_,_,_,_,h1,_⟩,_⟩|⟨cn,C,h0,_⟩|⟨h0,_⟩⟩|⟨_,_,_,_,_,_,h1,_⟩⟩:=oa
  .exact base _ (.dK h1) rfl
  .exact base _ (.dK (.inl h1)) rfl
  .exact base _ (.dT h1) rfl
  .subst h0;cases hX
  .subst h0;exact nomatch (show true=false from hX)
  .exact base _ (.dT (.inl h1)) rfl
 |list ts=>
  obtain⟨p,vs,rfl,fz,w⟩:=oa.lst0;obtain⟨u,u2,rfl,r1,r2⟩:=r.two;cases r1;cases r2;obtain⟨its,rv,pl,_⟩:=I.list fz.sq;have e:=rG (K:=X.K) hT (.list ts);obtain⟨o,n,h1,h2,_⟩:=pl;exact PySem.W.kia_one PySem.W.kitx_list I.kIn ⟨o,h1,h2⟩ e (λz=>nomatch z) λtk=>⟨.bl _,H,I.tok tk,rfl,q⟩
end
def bG(T:String):D->Option D:=λa=>if isX a=true then none else some (.bool (cT (tyN a) T))
def dB{T:Str}{n:String}{pt:Pos}(hK:X.K=K)(hg:Gl X "isinstance")(hm:X.mg "isinstance"=none)(hgT:Gl X T)(hmT:X.mg T=none)(hbT:bootBuiltins T=some (.type n))(hT:n∈["int","bool","str","list","tuple","dict"])(he:QE X e (tF K p ds ds1 d1 f))(hnT:T≠"__name__")(hdT:(T==("__debug__":Str))=false)(hs1:starEach [e,.Name T pt] X.env=(false,eval e X.env)::starEach [.Name T pt] X.env)(hs2:starEach [.Name T pt] X.env=(false,eval (.Name T pt) X.env)::starEach [] X.env)(hpl:(backTo pos (starEach [.Name T pt] X.env)).any (·.1)=false):QE X (.Call (.Name "isinstance" px) [e,.Name T pt] [] pos) (tF K p ds ds1 3 (e1 (bG n) f)):=⟨by
 subst hK;refine(lK vP hg hm boot_isinstance (fV he.h (fV (Bd (v:=.ty n) hgT hmT hbT rfl hnT hdT) pa_nil hs2) hs1) (by decide) (by decide) hs1 hpl).imp λσ H Q h=>?_;obtain⟨Ox,en,R,t,en',e,hf,k⟩:=h;unfold e1 at hf;obtain⟨⟨t1,en1⟩,h1,hf⟩:=zaa.mp hf;obtain⟨t',h3,hf⟩:=zab.mp hf;cases hf;unfold bG at h3;by_cases hX:isX t1=true
 .rw[if_pos hX]at h3;cases h3
 rw[if_neg hX]at h3;cases h3;refine⟨Ox,en,R,t1,en1,e,h1,λv H' R' F P o=>?_⟩;exact⟨v,n,Own R' Ox,t1,rfl,Ow.letgo P (λ_ z=>z) o,Bool.eq_false_iff.mpr hX,hT,k _ H' R' NoA (P.less λ_ z=>z.elim) rfl⟩⟩
mutual
def peq:D->D->Bool
 |.none,.none=>true
 |.bool a,.bool b=>a==b
 |.bool a,.int b=>(if a then(1:Int)else 0)==b
 |.int a,.bool b=>a==(if b then(1:Int)else 0)
 |.int a,.int b=>a==b
 |.str a,.str b=>a==b
 |.list a,.list b=>eA a b
 |.tuple a,.tuple b=>eA a b
 |_,_=>false
def eA:List D->List D->Bool
 |[],[]=>true
 |a::r,b::s=>peq a b&&eA r s
 |_,_=>false
end
mutual
def av:D->Bool
 |.dict _=>false
 |.list ts=>aH ts
 |.tuple ts=>aH ts
 |_=>true
def aH:List D->Bool
 |[]=>true
 |t::r=>av t&&aH r
end
mutual
theorem jr:∀a:D,av a=true->peq a a=true
 |.none,_=>rfl
 |.bool b,_=>by cases b<;>rfl
 |.int i,_=>by simp[peq]
 |.str i,_=>by simp[peq]
 |.list ts,h=>by simp only[peq];exact kd ts (by simpa[av]using h)
 |.tuple ts,h=>by simp only[peq];exact kd ts (by simpa[av]using h)
 |.dict _,h=>by simp[av]at h
theorem kd:∀a:List D,aH a=true->eA a a=true
 |[],_=>rfl
 |t::r,h=>by
  have h':av t=true/\aH r=true:=by simpa[aH]using h
  simp only[eA,jr t h'.1,kd r h'.2,zbk]
end
mutual
def bw:D->Nat
 |.list ts=>bn ts+1
 |.tuple ts=>bn ts+1
 |_=>0
def bn:List D->Nat
 |[]=>0
 |t::r=>max (bw t) (bn r)
end
theorem kw:∀{ts:List D} {i:Nat} {t:D},ts[i]?=some t->bw t<=bn ts
 |[],_,_,h=>by simp at h
 |u::r,i,t,h=>by
  simp only[bn];cases i with
  |zero=>simp at h;subst h;exact Nat.le_max_left _ _
  |succ i=>exact zau (kw (by simpa using h)) (Nat.le_max_right _ _)
theorem eG:∀{ts:List D} {i:Nat} {t:D},aH ts=true->ts[i]?=some t->av t=true
 |[],_,_,_,h=>by simp at h
 |u::r,i,t,hn,h=>by
  have h':av u=true/\aH r=true:=by simpa[aH]using hn
  cases i with
  |zero=>simp at h;subst h;exact h'.1
  |succ i=>exact eG h'.2 (by simpa using h)
theorem lH:∀{a b:List D},a.length≠b.length->eA a b=false
 |[],[],h=>absurd rfl h
 |[],_::_,_=>rfl
 |_::_,[],_=>rfl
 |a::r,b::s,h=>by
  simp only[eA,lH (a:=r) (b:=s) (λz=>h (by rw[zac,zac,z])),zbU]
def eAt(a b:List D)(j:Nat):Bool:=match a[j]?,b[j]? with
 |some x,some y=>peq x y
 |_,_=>true
def ny(n:Nat)(f:Nat->Bool):(List.range (n+1)).all f=(f 0&&(List.range n).all λj=>f (j+1)):=by
 rw[List.range_succ_eq_map,List.all_cons,List.all_map];rfl
theorem lJ:∀{a b:List D},a.length=b.length->(List.range a.length).all (eAt a b)=eA a b
 |[],[],_=>rfl
 |a::r,b::s,h=>by
  rw[zac,ny];have e:(List.range r.length).all (λj=>eAt (a::r) (b::s) (j+1))=(List.range r.length).all (eAt r s):=by
   congr 1
  rw[e,lJ (by simpa using h)];rfl
 |[],_::_,h=>by simp at h
 |_::_,[],h=>by simp at h
section
open PySem.SeqAt
variable{s:Shared} 
def Ar{p:Addr}{ws:List V}(I:Inv X ρ σ H s)(h:SqL X.K H p vs)(g:SqT X.K H p ws):False:=by
 obtain⟨its,_,p1,_⟩:=I.list h;obtain⟨ν,_,p2,_⟩:=I.tuple g;exact ne_of_list_tuple p1.isList (show s.heap.IsTuple p ν.toArray from p2) rfl
def Ey{p:Addr}{ks:List (List (Option Key)×V)}{ad:Addr->Prop}(I:Inv X ρ σ H s)(h:SqL X.K H p vs)(g:Rd H p (.dT ks ad)):False:=by
 obtain⟨its,_,⟨o,n,e1,e2,_⟩,_⟩:=I.list h;obtain⟨_,_,_,_,o',_,_,g1,g2,_⟩:=mC I.hok g;rw[e1]at g1;cases g1;rw[g2.1]at e2;simp at e2
def GF{p:Addr}{ks:List (Key×V)}(I:Inv X ρ σ H s)(h:SqL X.K H p vs)(g:Rd H p (.dK ks)):False:=by
 obtain⟨its,_,⟨o,n,e1,e2,_⟩,_⟩:=I.list h;obtain⟨_,_,_,_,o',_,_,g1,g2,_⟩:=lb I.hok g;rw[e1]at g1;cases g1;rw[g2.1]at e2;simp at e2
mutual
theorem Ow.inj(I:Inv X ρ σ H s):∀(a b:D) {x:V},Ow X.K O H a 0 x NoA->Ow X.K O H b 0 x NoA->av a=true->a=b
 |.none,b,_,h,g,_=>by
  cases(show _=_ from h);cases b with
  |none=>rfl
  |list ts=>obtain⟨_,_,z,_⟩:=g;cases z
  |tuple ts=>obtain⟨_,_,z,_⟩:=g;cases z
  |dict ts=>obtain⟨_,_,z,_⟩:=g;cases z
  |bool c=>cases(show V.non=V.bl c from g)
  |int c=>cases(show V.non=V.int c from g)
  |str c=>cases(show V.non=V.str c from g)
 |.bool c,b,_,h,g,_=>by
  cases(show _=_ from h);cases b with
  |none=>cases(show V.bl c=V.non from g)
  |list ts=>obtain⟨_,_,z,_⟩:=g;cases z
  |tuple ts=>obtain⟨_,_,z,_⟩:=g;cases z
  |dict ts=>obtain⟨_,_,z,_⟩:=g;cases z
  |bool c'=>cases(show V.bl c=V.bl c' from g);rfl
  |int c'=>cases(show V.bl c=V.int c' from g)
  |str c'=>cases(show V.bl c=V.str c' from g)
 |.int c,b,_,h,g,_=>by
  cases(show _=_ from h);cases b with
  |none=>cases(show V.int c=V.non from g)
  |list ts=>obtain⟨_,_,z,_⟩:=g;cases z
  |tuple ts=>obtain⟨_,_,z,_⟩:=g;cases z
  |dict ts=>obtain⟨_,_,z,_⟩:=g;cases z
  |bool c'=>cases(show V.int c=V.bl c' from g)
  |int c'=>cases(show V.int c=V.int c' from g);rfl
  |str c'=>cases(show V.int c=V.str c' from g)
 |.str c,b,_,h,g,_=>by
  cases(show _=_ from h);cases b with
  |none=>cases(show V.str c=V.non from g)
  |list ts=>obtain⟨_,_,z,_⟩:=g;cases z
  |tuple ts=>obtain⟨_,_,z,_⟩:=g;cases z
  |dict ts=>obtain⟨_,_,z,_⟩:=g;cases z
  |bool c'=>cases(show V.str c=V.bl c' from g)
  |int c'=>cases(show V.str c=V.int c' from g)
  |str c'=>cases(show V.str c=V.str c' from g);rfl
 |.list ts,b,_,h,g,hn=>by
  obtain⟨p,vs,rfl,fz,w⟩:=h.lst0;cases b with
  |none=>cases(show V.ref p=V.non from g)
  |bool c'=>cases(show V.ref p=V.bl c' from g)
  |int c'=>cases(show V.ref p=V.int c' from g)
  |str c'=>cases(show V.ref p=V.str c' from g)
  |list us=>
   obtain⟨p',vs',e,fz',w'⟩:=g.lst0;cases e
   have:=I.list_inj fz.sq fz'.sq;subst this;rw[Ows.inj I ts us w w' (by simpa[av]using hn)]
  |tuple us=>
   obtain⟨p',vs',e,fz',w'⟩:=g.tup0;cases e;exact(Ar I fz.sq fz'.sq).elim
  |dict us=>
   obtain⟨p',vs',e,⟨_,g1,_⟩|⟨z,_⟩|⟨_,⟨⟨_,_,_,_,g1,_⟩,_⟩|⟨_,C,_,_,g1,_⟩|⟨_,⟨fo,fd,g1,gd⟩,_⟩⟩|⟨z,_⟩⟩:=g
   .cases e;exact(GF I fz.sq g1).elim
   .exact absurd rfl z
   .cases e;exact(Ey I fz.sq g1).elim
   .cases e;obtain⟨its,rv,⟨o,n,e1,e2,_⟩,_⟩:=I.list fz.sq;obtain⟨⟨o',x1,x2,_⟩,_⟩:=(show ObjOk X.prog X.w H s.heap p (.ext (FF p C))from I.hok p _ g1);rw[e1]at x1;cases x1;rw[e2]at x2;cases x2
   .cases e;obtain⟨its,rv,⟨o,n,e1,_,_,e2⟩,_⟩:=I.list fz.sq;have x1:=(I.hok p _ g1).1;rw[e1]at x1;cases x1
    first | (rw[e2]at gd;cases gd) | (rw[e2.1]at gd;cases gd) | (simp_all)
   .cases z
 |.tuple ts,b,_,h,g,hn=>by
  obtain⟨p,vs,rfl,fz,w⟩:=h.tup0;cases b with
  |none=>cases(show V.ref p=V.non from g)
  |bool c'=>cases(show V.ref p=V.bl c' from g)
  |int c'=>cases(show V.ref p=V.int c' from g)
  |str c'=>cases(show V.ref p=V.str c' from g)
  |tuple us=>
   obtain⟨p',vs',e,fz',w'⟩:=g.tup0;cases e
   have:=fz.1.symm.trans fz'.1;cases this;rw[Ows.inj I ts us w w' (by simpa[av]using hn)]
  |list us=>
   obtain⟨p',vs',e,fz',w'⟩:=g.lst0;cases e;exact(Ar I fz'.sq fz.sq).elim
  |dict us=>
   obtain⟨p',vs',e,⟨_,g1,_⟩|⟨z,_⟩|⟨_,⟨⟨_,_,_,_,g1,_⟩,_⟩|⟨_,C,_,_,g1,_⟩|⟨_,⟨fo,fd,g1,gd⟩,_⟩⟩|⟨z,_⟩⟩:=g
   .cases e;rcases g1 with g1|⟨_,g1⟩<;>rw[fz.1]at g1<;>cases g1
   .exact absurd rfl z
   .cases e;rcases g1 with g1|⟨_,g1⟩<;>rw[fz.1]at g1<;>cases g1
   .cases e;rw[fz.1]at g1;cases g1
   .cases e;rw[fz.1]at g1;cases g1
   .cases z
 |.dict _,_,_,_,_,hn=>by simp[av]at hn
theorem Ows.inj(I:Inv X ρ σ H s):∀(a b:List D) {x:List V},Ows X.K O H a 0 x NoA->Ows X.K O H b 0 x NoA->aH a=true->a=b
 |[],b,_,h,g,_=>by
  cases(show _=_ from h);cases b with
  |nil=>rfl
  |cons u us=>obtain⟨_,_,_,_,e,_⟩:=g;cases e
 |t::ts,b,_,h,g,hn=>by
  obtain⟨v,r,F1,F2,e,_,_,_,h4,h5⟩:=h;subst e;have hn':av t=true/\aH ts=true:=by simpa[aH]using hn
  cases b with
  |nil=>cases(show v::r=[]from g)
  |cons u us=>
   obtain⟨v',r',G1,G2,e,_,_,_,g4,g5⟩:=g;cases e;rw[Ow.inj I t u (Ow.any0 t h4) (Ow.any0 u g4) hn'.1,Ows.inj I ts us (Ows.any0 ts h5) (Ows.any0 us g5) hn'.2]
end
def pQ{ws:List V}{its ν:List Value}(w:Ows X.K O H ts 0 vs NoA)(w2:Ows X.K O H us 0 ws NoA)(rv:Vals vs its)(rv2:Vals ws ν)
  (ih:∀(j:Nat) a b x y v u,ts[j]?=some a->us[j]?=some b->Ow X.K O H a 0 x NoA->Ow X.K O H b 0 y NoA->RelV x v->RelV y u->EqAt A s v u (peq a b)):
  ∀j (h1:j<its.toArray.size) (h2:j<ν.toArray.size),EqAt A s its.toArray[j] ν.toArray[j] (eAt ts us j):=λj h1 h2=>by
 have h1':j<its.length:=by simpa using h1
 have h2':j<ν.length:=by simpa using h2
 have l1:=rv.length;have l2:=rv2.length;have m1:=w.len;have m2:=w2.len;have e1:ts[j]?=some ts[j]:=zak (by lia);have e2:us[j]?=some us[j]:=zak (by lia);obtain⟨x,g1,o1⟩:=w.get e1;obtain⟨y,g2,o2⟩:=w2.get e2;obtain⟨u1,f1,q1⟩:=rv.get g1;obtain⟨u2,f2,q2⟩:=rv2.get g2;have z:=ih j _ _ x y u1 u2 e1 e2 o1 o2 q1 q2;rw[zak h1']at f1;rw[zak h2']at f2;have i1:its.toArray[j]=u1:=by simpa using zat f1
 have i2:ν.toArray[j]=u2:=by simpa using zat f2
 rw[i1,i2];unfold eAt;rw[e1,e2];exact z
inductive Kd(s:Shared):D->Value->Prop
 |n:Kd s .none .none
 |b (c:Bool):Kd s (.bool c) (.bool c)
 |i (c:Int) (t:Nat):Kd s (.int c) (.int c t)
 |t (c:Str) (t:Nat):Kd s (.str c) (.str c t)
 |l {c:List D} {p:Addr} {z:Array Value} (h:s.heap.IsList p z):Kd s (.list c) (.ref p)
 |u {c:List D} {p:Addr} {z:Array Value} (h:s.heap.IsTuple p z):Kd s (.tuple c) (.ref p)
def oM(I:Inv X ρ σ H s){a:D}{x:V}{v:Value}(hn:av a=true)(o:Ow X.K O H a 0 x NoA)(r:RelV x v):Kd s a v:=by
 cases a with
 |none=>cases(show x=V.non from o);cases r;exact .n
 |bool c=>cases(show x=V.bl c from o);cases r;exact .b c
 |int c=>cases(show x=V.int c from o);obtain⟨t,rfl⟩:=r;exact .i c t
 |str c=>cases(show x=V.str c from o);obtain⟨t,rfl⟩:=r;exact .t c t
 |list c=>
  obtain⟨p,vs,rfl,fz,w⟩:=o.lst0;cases r;obtain⟨its,rv,pl,_⟩:=I.list fz.sq;exact .l pl.isList
 |tuple c=>
  obtain⟨p,vs,rfl,fz,w⟩:=o.tup0;cases r;obtain⟨its,rv,pl,_⟩:=I.tuple fz.sq;have hl:s.heap.IsTuple p its.toArray:=pl;exact .u hl
 |dict c=>simp[av]at hn
noncomputable def sqB:D->D->Bool
 |.list _,.list _=>true
 |.tuple _,.tuple _=>true
 |_,_=>false
def Ay{a b:D}{v:Value}(h1:Kd s a v)(h2:Kd s b u)(hq:sqB a b=false)(hu:A.units<cLine):EqAt A s v u (peq a b)/\RcAt A s v u (peq a b)/\RcNeAt A s v u (!peq a b):=by
 cases h1<;>cases h2
 exact⟨.same _,.none_none,.none_none⟩;exact⟨.none_bool _,.none_bool _,.none_bool _⟩;exact⟨.none_int _ _,.none_int _ _,.none_int _ _⟩;exact⟨.none_str _ _,.none_str _ _,.none_str _ _⟩;exact⟨.none_list ‹_› hu,.none_list ‹_› hu,.none_list ‹_› hu⟩;exact⟨.none_tuple ‹_› hu,.none_tuple ‹_› hu,.none_tuple ‹_› hu⟩;exact⟨.bool_none _,.bool_none _,.bool_none _⟩;exact⟨.bool_bool _ _,.bool_bool _ _,.bool_bool _ _⟩;exact⟨.bool_int _ _ _,.bool_int _ _ _,.bool_int _ _ _⟩;exact⟨.bool_str _ _ _,.bool_str _ _ _,.bool_str _ _ _⟩;exact⟨.bool_list _ ‹_› hu,.bool_list _ ‹_› hu,.bool_list _ ‹_› hu⟩;exact⟨.bool_tuple _ ‹_› hu,.bool_tuple _ ‹_› hu,.bool_tuple _ ‹_› hu⟩;exact⟨.int_none _ _,.int_none _ _,.int_none _ _⟩;exact⟨.int_bool _ _ _,.int_bool _ _ _,.int_bool _ _ _⟩;exact⟨.int_int _ _ _ _,.int_int _ _ _ _,.int_int _ _ _ _⟩;exact⟨.int_str _ _ _ _,.int_str _ _ _ _,.int_str _ _ _ _⟩;exact⟨.int_list _ _ ‹_› hu,.int_list _ _ ‹_› hu,.int_list _ _ ‹_› hu⟩;exact⟨.int_tuple _ _ ‹_› hu,.int_tuple _ _ ‹_› hu,.int_tuple _ _ ‹_› hu⟩;exact⟨.str_none _ _,.str_none _ _,.str_none _ _⟩;exact⟨.str_bool _ _ _,.str_bool _ _ _,.str_bool _ _ _⟩;exact⟨.str_int _ _ _ _,.str_int _ _ _ _,.str_int _ _ _ _⟩;exact⟨.str_str _ _ _ _,.str_str _ _ _ _,.str_str _ _ _ _⟩;exact⟨.str_list _ _ ‹_› hu,.str_list _ _ ‹_› hu,.str_list _ _ ‹_› hu⟩;exact⟨.str_tuple _ _ ‹_› hu,.str_tuple _ _ ‹_› hu,.str_tuple _ _ ‹_› hu⟩;exact⟨.list_none ‹_› hu,.list_none ‹_› hu,.list_none ‹_› hu⟩;exact⟨.list_bool _ ‹_› hu,.list_bool _ ‹_› hu,.list_bool _ ‹_› hu⟩;exact⟨.list_int _ _ ‹_› hu,.list_int _ _ ‹_› hu,.list_int _ _ ‹_› hu⟩;exact⟨.list_str _ _ ‹_› hu,.list_str _ _ ‹_› hu,.list_str _ _ ‹_› hu⟩;exact nomatch hq;exact⟨.list_tuple ‹_› ‹_› hu,.list_tuple ‹_› ‹_› hu,.list_tuple ‹_› ‹_› hu⟩;exact⟨.tuple_none ‹_› hu,.tuple_none ‹_› hu,.tuple_none ‹_› hu⟩;exact⟨.tuple_bool _ ‹_› hu,.tuple_bool _ ‹_› hu,.tuple_bool _ ‹_› hu⟩;exact⟨.tuple_int _ _ ‹_› hu,.tuple_int _ _ ‹_› hu,.tuple_int _ _ ‹_› hu⟩;exact⟨.tuple_str _ _ ‹_› hu,.tuple_str _ _ ‹_› hu,.tuple_str _ _ ‹_› hu⟩;exact⟨.tuple_list ‹_› ‹_› hu,.tuple_list ‹_› ‹_› hu,.tuple_list ‹_› ‹_› hu⟩;exact nomatch hq
def tL(I:Inv X ρ σ H s):∀(n:Nat) (a b:D) (A:Around) (x y:V) (v u:Value),bw a<=n->av a=true->av b=true->Ow X.K O H a 0 x NoA->Ow X.K O H b 0 y NoA->RelV x v->RelV y u->A.units+n+1<cLine ->
  EqAt A s v u (peq a b)/\RcAt A s v u (peq a b)/\RcNeAt A s v u (!peq a b):=by
 intro n
 induction n with
 |zero=>
  intro a b A x y v u hdp hna hnb o1 o2 r1 r2 hun;refine Ay (oM I hna o1 r1) (oM I hnb o2 r2) ?_ (by lia);cases a with
  |list c=>simp only[bw]at hdp;lia
  |tuple c=>simp only[bw]at hdp;lia
  |_=>rfl
 |succ n ih=>
  intro a b A x y v u hdp hna hnb o1 o2 r1 r2 hun;have hu:A.units<cLine:=by lia
  have hu1:A.in1.units+n+1<cLine:=by
   show A.units+1+n+1<cLine
   lia
  cases hq:sqB a b with
  |false=>exact Ay (oM I hna o1 r1) (oM I hnb o2 r2) hq hu
  |true=>
   cases a with
   |list c1=>
    cases b with
    |list c2=>
     obtain⟨p1,vs1,rfl,fz1,w1⟩:=o1.lst0;cases r1;obtain⟨its1,rv1,pl1,_⟩:=I.list fz1.sq;have hl1:=pl1.isList;obtain⟨p2,vs2,rfl,fz2,w2⟩:=o2.lst0;cases r2;obtain⟨ν,rv2,pl2,_⟩:=I.list fz2.sq;have hl2:=pl2.isList;have dl:bn c1<=n:=by simp only[bw]at hdp;lia
     have nd1:aH c1=true:=by simpa[av]using hna
     have nd2:aH c2=true:=by simpa[av]using hnb
     have el:=pQ (A:=A.in1) w1 w2 rv1 rv2 λj a b x y v u e1 e2 q1 q2 q3 q4=>(ih a b A.in1 x y v u (zau (kw e1) dl) (eG nd1 e1) (eG nd2 e2) q1 q2 q3 q4 hu1).1;have l1:=rv1.length;have l2:=rv2.length;have m1:=w1.len;have m2:=w2.len;have rc:RcAt A s (.ref p1) (.ref p2) (eA c1 c2)/\RcNeAt A s (.ref p1) (.ref p2) (!eA c1 c2):=by
      by_cases hz:c1.length=c2.length
      .have hs1:its1.toArray.size=ν.toArray.size:=by rw[zai,zai];lia
       have hs2:its1.toArray.size=c1.length:=by rw[zai];lia
       have z1:=RcAt.lists hl1 hl2 hs1 hu el;have z2:=RcNeAt.lists hl1 hl2 hs1 hu el;rw[hs2,lJ hz]at z1 z2;exact⟨z1,z2⟩
      .have hs1:(its1.toArray.size != ν.toArray.size)=true:=by rw[zai,zai,bne_iff_ne];lia
       rw[lH hz];exact⟨RcAt.lists_lengths hl1 hl2 hs1 hu,RcNeAt.lists_lengths hl1 hl2 hs1 hu⟩
     have pe:peq (.list c1) (.list c2)=eA c1 c2:=by simp only[peq]
     refine⟨?_,by rw[pe];exact rc.1,by rw[pe];exact rc.2⟩;by_cases hp:p1=p2
     .subst hp
      have:=Ow.inj I _ _ o1 o2 hna;cases this;rw[jr _ hna];exact EqAt.same _
     .rw[pe];exact EqAt.of_refs hp rc.1
    |_=>cases(show false=true from hq)
   |tuple c1=>
    cases b with
    |tuple c2=>
     obtain⟨p1,vs1,rfl,fz1,w1⟩:=o1.tup0;cases r1;obtain⟨its1,rv1,pl1,_⟩:=I.tuple fz1.sq;have hl1:s.heap.IsTuple p1 its1.toArray:=pl1;obtain⟨p2,vs2,rfl,fz2,w2⟩:=o2.tup0;cases r2;obtain⟨ν,rv2,pl2,_⟩:=I.tuple fz2.sq;have hl2:s.heap.IsTuple p2 ν.toArray:=pl2;have dl:bn c1<=n:=by simp only[bw]at hdp;lia
     have nd1:aH c1=true:=by simpa[av]using hna
     have nd2:aH c2=true:=by simpa[av]using hnb
     have el:=pQ (A:=A.in1) w1 w2 rv1 rv2 λj a b x y v u e1 e2 q1 q2 q3 q4=>(ih a b A.in1 x y v u (zau (kw e1) dl) (eG nd1 e1) (eG nd2 e2) q1 q2 q3 q4 hu1).1;have l1:=rv1.length;have l2:=rv2.length;have m1:=w1.len;have m2:=w2.len;have rc:RcAt A s (.ref p1) (.ref p2) (eA c1 c2)/\RcNeAt A s (.ref p1) (.ref p2) (!eA c1 c2):=by
      have z1:=RcAt.tuples hl1 hl2 hu el;have z2:=RcNeAt.tuples hl1 hl2 hu el;have ez:((List.range (min its1.toArray.size ν.toArray.size)).all (eAt c1 c2)&&its1.toArray.size==ν.toArray.size)=eA c1 c2:=by
       rw[zai,zai];by_cases hz:c1.length=c2.length
       .have h3:its1.length=ν.length:=by lia
        have h4:min its1.length ν.length=c1.length:=by lia
        rw[h4,lJ hz,h3,beq_self_eq_true,zbT]
       .have h3:(its1.length==ν.length)=false:=by rw[zbP];lia
        rw[h3,zbU,lH hz]
      rw[ez]at z1 z2;exact⟨z1,z2⟩
     have pe:peq (.tuple c1) (.tuple c2)=eA c1 c2:=by simp only[peq]
     refine⟨?_,by rw[pe];exact rc.1,by rw[pe];exact rc.2⟩;by_cases hp:p1=p2
     .subst hp
      have:=Ow.inj I _ _ o1 o2 hna;cases this;rw[jr _ hna];exact EqAt.same _
     .rw[pe];exact EqAt.of_refs hp rc.1
    |_=>cases(show false=true from hq)
   |_=>cases(show false=true from hq)
end
def eqD(a b:D):Option D:=grd (av a=true/\av b=true/\bw a<=60) (.bool (peq a b))
def neD(a b:D):Option D:=grd (av a=true/\av b=true/\bw a<=60) (.bool (!peq a b))
def mx(hK:X.K=K)(hu:X.A.units+64<cLine):OpR X (compareOp .Eq) (rF2 K eqD 3):=by
 subst hK;intro ρ s σ H x y v u Q I rx ry ⟨O,a,b,t,oa,ob,hd,hg,k⟩;obtain⟨⟨c1,c2,c3⟩,rfl⟩:=dz hg;exact(tL I 60 a b X.A x y v u c3 c1 c2 oa ob rx ry (by lia)).2.1 X.prog X.w _ _ ⟨.bl _,H,I,rfl,k _ H NoA .refl rfl⟩
def GR(hK:X.K=K)(hu:X.A.units+64<cLine):OpR X (compareOp .NotEq) (rF2 K neD 3):=by
 subst hK;intro ρ s σ H x y v u Q I rx ry ⟨O,a,b,t,oa,ob,hd,hg,k⟩;obtain⟨⟨c1,c2,c3⟩,rfl⟩:=dz hg;exact(tL I 60 a b X.A x y v u c3 c1 c2 oa ob rx ry (by lia)).2.2 X.prog X.w _ _ ⟨.bl _,H,I,rfl,k _ H NoA .refl rfl⟩
def mY{F:List D->Option (D×En)}{E:XK}(hn:dps.length=n)(h:spF K dps dr F vs H Q E):vs.length=n:=by
 obtain⟨Ox,ts,R,r,ψ,e,_⟩:=h
 have:=e.l2;rw[zad]at this
 lia
section
variable{ds3:List Nat}{d3:Nat}{a c:Expr}{f3:ME}{p2:Pos}
noncomputable def kq(g g':D->D->Option D)(f1 f2 f3:ME):ME:=λen=>(f1 en).bind λr=>(f2 r.2).bind λq=>(g r.1 q.1).bind λt=>match t with
 |.bool true=>(f3 q.2).bind λz=>(g' q.1 z.1).map λt=>(t,z.2)
 |.bool false=>some (.bool false,q.2)
 |_=>none
def B0(h:tF K p ds ds1 3 (kq g g' f1 f2 f3) σ H Q):
  uA (rF2 K g 3) (rF2 K g' 3) (tF K p ds ds0 d1 f1) (tF K p ds0 ds1 d2 f2) (tF K p ds1 ds1 d3 f3) σ H Q:=by
 obtain⟨Ox,en,R,t,en',e,hf,k⟩:=h;unfold kq at hf;obtain⟨⟨t1,en1⟩,h1,hf⟩:=zaa.mp hf;obtain⟨⟨t2,en2⟩,h2,hf⟩:=zaa.mp hf;obtain⟨tb,h3,hf⟩:=zaa.mp hf;refine two (p1:=p) (p2:=p) e h1 h2 λx y H2 R2 F1 F2 P o1 o2=>?_;rw[zbk]at P;have oy:=Ow.letgo P (λ_=>.inr) o2;refine⟨Own R2 Ox,t1,t2,tb,Ow.letgo P (λ_=>.inl) o1,oy,P.doms,h3,λv3 H3 F3 n3 o3=>?_⟩;have P3:=P.fin n3;cases tb with
 |bool bb=>
  refine⟨bb,o3,?_⟩;cases bb with
  |false=>
   cases hf;exact k _ H3 R2 NoA (P3.less λ_ z=>z.elim) rfl
  |true=>
   obtain⟨⟨t4,en4⟩,h4,hf⟩:=zaa.mp hf;obtain⟨t5,h5,hf⟩:=zab.mp hf;cases hf;have P30:=P3.less (F':=NoA) λ_ z=>z.elim;refine⟨Ox,en2,R2,t4,en4,P30.env0,h4,λv4 H4 R4 F4 P4 o4=>?_⟩;have P34:=P30.after P4;rw[zbk]at P34;have oy3:Ow K (Own R2 Ox) H3 t2 0 y NoA:=Ow.mv (G:=NoA) ⟨λa o q _=>n3.1 a o q,λa z=>.inl z⟩ t2 (λ_ z=>z) oy;have oy4:Ow K (Own R4 Ox) H4 t2 0 y NoA:=by
    refine Ow.mv (G:=NoA) ⟨λa o q z=>P4.keep a o q λi zi=>?_,λa z=>?_⟩ t2 (λ_ z=>z) oy3
    .rcases z with z|z
     .exact z (.inl ⟨i,zi⟩)
     .exact z
    .rcases z with z|z
     .exact(P4.own a (.inr z)).imp .inl id
     .exact .inl (.inr z)
   exact⟨Own R4 Ox,t2,t4,_,oy4,Ow.letgo P4 (λ_ z=>z) o4,P4.doms,h5,λv5 H5 F5 n5 o5=>k v5 H5 R4 F5 (P34.fin n5) (tW▸o5)⟩
 |_=>cases hf
def tI{op':CmpOp}(ho:OpR X (compareOp op) (rF2 K g 3))(ho':OpR X (compareOp op') (rF2 K g' 3))(ha:QE X a (tF K p ds ds0 d1 f1))(hb:QE X b (tF K p ds0 ds1 d2 f2))(hc:QE X c (tF K p ds1 ds1 d3 f3))(hm:lastMarks [op,op'] [b,c]=false):QE X (.Compare a [op,op'] [b,c] pos) (tF K p ds ds1 3 (kq g g' f1 f2 f3)):=⟨(wo ho ho' ha.h hb.h hc.h hm).imp λ_ _ _=>B0⟩
abbrev MO:=En->Option (Option Int×En)
noncomputable def Ig:MO:=λen=>some (none,en)
noncomputable def Ie(f:ME):MO:=λen=>(f en).bind λr=>match r.1 with
 |.int i=>some (some i,r.2)
 |_=>none
noncomputable def eSl(g:D->Option Int->Option Int->Option D)(f:ME)(lo hi:MO):ME:=λen=>(f en).bind λr=>(lo r.2).bind λl=>(hi l.2).bind λh=>(g r.1 l.1 h.1).map λt=>(t,h.2)
variable{lo hi:MO}
def qj{α:Type}(xs:List α)(lo hi:Option Int):List α:=(xs.drop (HT.sIx xs.length 0 lo)).take (HT.sIx xs.length xs.length hi-HT.sIx xs.length 0 lo)
def Iu:D->Option Int->Option Int->Option D
 |.list ts,lo,hi=>some (.list (qj ts lo hi))
 |_,_,_=>none
def IG:D->Option Int->Option Int->Option D
 |.str z,lo,hi=>grd (z.length<=sizeLine) (.str ⟨(HG z.cps.toList lo hi).toArray⟩)
 |_,_,_=>none
end
noncomputable def kEq:D->D->Bool
 |.int a,.int b=>a==b
 |.str a,.str b=>a==b
 |_,_=>false
def ml(a b:Key):kEq (kD a) (kD b)=decide (a=b):=by
 cases a with
 |inl i=>cases b with
  |inl j=>rw[vb];rfl
  |inr j=>rw[va];rfl
 |inr i=>cases b with
  |inl j=>rw[u9];rfl
  |inr j=>
   rw[u8];show(i==j)=_;by_cases h:i=j
   .subst h;simp
   .rw[zaA h,zbP];exact h
noncomputable def kOf:D->Option Key
 |.int i=>some (.inl i)
 |.str x=>some (.inr x)
 |_=>none
def gx{a:D}{q:Key}(h:kOf a=some q):a=kD q:=by
 cases a<;>cases h<;>rfl
def i6{a:D}{q:Key}{F:AS}(h:kOf a=some q)(o:Ow K O H a d v F):v=kV q:=by
 cases a with
 |int i=>cases h;exact o
 |str i=>cases h;exact o
 |_=>cases h
def bo(ks:List (D×D))(q:D):Option D:=(ks.find? λkv=>kEq kv.1 q).map (·.2)
def iU(ks:List (D×D))(q t:D):List (D×D):=if ks.any (λkv=>kEq kv.1 q)then ks.map (λkv=>if kEq kv.1 q then(kv.1,t)else kv)else ks++[(q,t)]
theorem Owd.look:∀{ks:List (D×D)} {vs:List (Key×V)} {F:AS} (q:Key),Owd K O H ks d vs F->(∃t v,bo ks (kD q)=some t/\cE vs q=some v/\Ow K O H t d v F)\/(bo ks (kD q)=none/\cE vs q=none)
 |[],_,_,q,h=>by rw[show _=[]from h];exact .inr ⟨rfl,rfl⟩
 | (k,t)::ks,_,F,q,h=>by
  obtain⟨q',v,r,F1,F2,e,e2,s1,s2,_,h4,h5⟩:=h;subst e e2;by_cases hq:q'=q
  .subst hq;refine .inl ⟨t,v,?_,jm rfl,Ow.grow (λ_ z=>z) t s1 h4⟩;unfold bo;rw[zbo,ml,zaB rfl];rfl
  .have e1:bo ((kD q',t)::ks) (kD q)=bo ks (kD q):=by
    unfold bo;rw[zbo,ml,zaA hq]
   have e2:cE ((q',v)::r) q=cE r q:=jn hq;rw[e1,e2];rcases Owd.look q h5 with⟨t',v',a1,a2,a3⟩|z
   .exact .inl ⟨t',v',a1,a2,Ow.grow (λ_ z=>z) t' s2 a3⟩
   .exact .inr z
theorem Owd.any:∀{ks:List (D×D)} {vs:List (Key×V)} {F:AS} (q:Key),Owd K O H ks d vs F->ks.any (λkv=>kEq kv.1 (kD q))=vs.any (λkv=>decide (kv.1=q))
 |[],_,_,q,h=>by rw[show _=[]from h];rfl
 | (k,t)::ks,_,F,q,h=>by
  obtain⟨q',v,r,F1,F2,e,e2,_,_,_,_,h5⟩:=h;subst e e2;rw[List.any_cons,List.any_cons,ml,Owd.any q h5]
theorem Owd.len:∀{ks:List (D×D)} {vs:List (Key×V)} {F:AS},Owd K O H ks d vs F->vs.length=ks.length
 |[],_,_,h=>by rw[show _=[]from h];rfl
 | (k,t)::ks,_,F,h=>by
  obtain⟨q',v,r,F1,F2,e,e2,_,_,_,_,h5⟩:=h;rw[e,zac,zac,h5.len]
theorem Owd.rep0{t:D}{v:V}{q:Key}(ht:Ow K O H t 0 v NoA):∀{ks:List (D×D)} {vs:List (Key×V)},Owd K O H ks 0 vs NoA->Owd K O H (ks.map λkv=>if kEq kv.1 (kD q)then(kv.1,t)else kv) 0 (vs.map λkv=>if kv.1=q then(kv.1,v)else kv) NoA
 |[],_,h=>by rw[show _=[]from h];rfl
 | (k,u)::ks,_,h=>by
  obtain⟨q',w,r,F1,F2,e,e2,_,_,_,h4,h5⟩:=h;subst e e2;rw[zar,zar];have ih:=Owd.rep0 (q:=q) ht (Owd.any0 ks h5)
  dsimp only
  rw[ml];by_cases hq:q'=q
  .rw[if_pos hq,if_pos (zaB hq)];exact⟨q',v,_,NoA,NoA,rfl,rfl,λ_ z=>z,λ_ z=>z,λ_ z=>z.elim,ht,ih⟩
  .rw[if_neg hq,if_neg (by rw[zaA hq];exact zbn)];exact⟨q',w,_,NoA,NoA,rfl,rfl,λ_ z=>z,λ_ z=>z,λ_ z=>z.elim,Ow.any0 u h4,ih⟩
theorem Owd.snoc0{t:D}{v:V}{q:Key}(ht:Ow K O H t 0 v NoA):∀{ks:List (D×D)} {vs:List (Key×V)},Owd K O H ks 0 vs NoA->Owd K O H (ks++[(kD q,t)]) 0 (vs++[(q,v)]) NoA
 |[],_,h=>by
  rw[show _=[]from h];exact⟨q,v,[],NoA,NoA,rfl,rfl,λ_ z=>z,λ_ z=>z,λ_ z=>z.elim,ht,rfl⟩
 | (k,u)::ks,_,h=>by
  obtain⟨q',w,r,F1,F2,e,e2,_,_,_,h4,h5⟩:=h;subst e e2;exact⟨q',w,_,NoA,NoA,rfl,rfl,λ_ z=>z,λ_ z=>z,λ_ z=>z.elim,Ow.any0 u h4,Owd.snoc0 ht (Owd.any0 ks h5)⟩
def Owd.put0{q:Key}{vs:List (Key×V)}(h:Owd K O H ks 0 vs NoA)(ht:Ow K O H t 0 v NoA):Owd K O H (iU ks (kD q) t) 0 (b9 vs q v) NoA:=by
 unfold iU b9;rw[h.any q];by_cases hq:(vs.any λkv=>decide (kv.1=q))=true
 .rw[if_pos hq,if_pos hq];exact Owd.rep0 ht h
 .rw[if_neg hq,if_neg hq];exact Owd.snoc0 ht h
def Owd.past{vs:List (Key×V)}{F:AS}(ho:∀a,O' a->O a)(hl:O l)(hf:∀b,F b->b≠l)(h:Owd K O H ks d vs F):Owd K O' (upd H l o) ks d vs F:=by
 refine Owd.mv (G:=F) ⟨λa u q z=>?_,λa z=>.inl (ho a z)⟩ ks (λ_ z=>z) h;rw[au]
 .exact q
 .intro za;subst za;rcases z with z|z
  .exact z hl
  .exact hf a z rfl
noncomputable def noT:List (D×D)->Bool
 | (.tuple _,_)::_=>false
 | (.none,_)::_=>false
 |_=>true
def DGet.kr{kvs:List (Key×V)}{k:Key}(e:Rd H a (.dK kvs)):DGet H a (kV k) (cE kvs k):=.inl ⟨kvs,k,e,rfl,rfl⟩
def PrD.hd(h:PrD O H rd ks):noT ks=false/\∀q,bo ks (kD q)=none:=by
 obtain⟨kvs,_,_,rfl,_⟩:=h;refine⟨rfl,λq=>?_⟩;unfold bo;rw[zbF.mpr λx hx=>?_]
 .rfl
 .rcases zay.mp hx with rfl|hx
  .cases q<;>exact zbn
  .obtain⟨y,_,rfl⟩:=zaz.mp hx;cases q<;>exact zbn
def Ow.dict0(hk:noT ks=true)(h:Ow K O H (.dict ks) 0 v NoA):∃a vs,v=.ref a/\Rd H a (.dK vs)/\Owd K O H ks 0 vs NoA:=by
 obtain⟨a,vs,e,⟨_,h1,_,h2⟩|⟨z,_⟩|⟨_,⟨h1,_⟩|⟨cn,C,h1,_⟩|⟨h1,_⟩⟩|⟨z,_⟩⟩:=h
 .exact⟨a,vs,e,h1,h2⟩
 .exact absurd rfl z
 .rw[h1.hd.1]at hk;cases hk
 .rw[h1]at hk;cases hk
 .rw[h1]at hk;cases hk
 .cases z
def Ow.dict1{F:AS}(hd:d≠0/\d≠4)(h:Ow K O H (.dict ks) d v F):∃a vs,v=.ref a/\H a=some (.dK vs)/\F a/\∃F':AS,(∀b,F' b->F b/\b≠a)/\Owd K O H ks (dn d) vs F':=by
 obtain⟨a,vs,e,⟨z,_⟩|⟨_,h1,h2,F',h3,h4⟩|⟨z,_⟩|⟨z,_⟩⟩:=h
 .exact absurd z hd.1
 .exact⟨a,vs,e,h1,h2,F',h3,h4⟩
 .exact absurd z hd.1
 .exact absurd z hd.2
def qi:D->D->Option D
 |.dict ks,q=>(kOf q).bind λ_=>bo ks q
 |_,_=>none
def dIn:D->D->Option D
 |q,.dict ks=>if noT ks=true then(kOf q).map λ_=>.bool (bo ks q).isSome else none
 |_,_=>none
def kx:D->D->Option D
 |q,.dict ks=>if noT ks=true then(kOf q).map λ_=>.bool (!(bo ks q).isSome)else none
 |_,_=>none
section
variable{a c o k:Expr}      
def FD(h:tF K p ds ds2 0 (e2 qi f1 f2) σ H Q):su (tF K p ds ds1 d1 f1) (tF K p ds1 ds2 d2 f2) σ H Q:=by
 obtain⟨Ox,en,R,t,en',e,hf,k⟩:=h;unfold e2 at hf;obtain⟨⟨t1,en1⟩,h1,hf⟩:=zaa.mp hf;obtain⟨⟨t2,en2⟩,h2,hf⟩:=zaa.mp hf;obtain⟨t',h3,hf⟩:=zab.mp hf;cases hf;refine two (p1:=p) (p2:=p) e h1 h2 λx y H2 R2 F1 F2 P o1 o2=>?_;rw[zbk]at P;have w1:=Ow.letgo P (λ_=>.inl) o1;cases t1 with
 |dict ks=>
  obtain⟨q,hq,h3⟩:=zaa.mp h3;have hk:noT ks=true:=by
   cases ks with
   |nil=>rfl
   |cons kv r=>
    obtain⟨k1,x1⟩:=kv;obtain⟨a,vs,_,⟨_,_,_,h2⟩|⟨z,_⟩|⟨_,⟨h1,_⟩|⟨cn,C,h1,_⟩|⟨h1,_⟩⟩|⟨z,_⟩⟩:=w1
    .obtain⟨q',_,_,_,_,_,e2,_⟩:=h2;rw[e2];cases q'<;>rfl
    .exact absurd rfl z
    .rw[gx hq,h1.hd.2]at h3;cases h3
    .cases h1;rw[gx hq]at h3
     have:kEq .none (kD q)=false:=by cases q<;>rfl
     have e:bo [(PyData.none,PyData.str cn)] (kD q)=none:=by
      unfold bo;rw[zbo,this];rfl
     rw[e]at h3;cases h3
    .cases h1;rw[gx hq]at h3
     have:kEq .none (kD q)=false:=by cases q<;>rfl
     have e:bo [(PyData.none,PyData.int (a:Int))] (kD q)=none:=by
      unfold bo;rw[zbo,this];rfl
     rw[e]at h3;cases h3
    .cases z
  obtain⟨a,vs,ex,ha,ow⟩:=w1.dict0 hk;rw[gx hq]at h3;rcases ow.look q with⟨t',v,a1,a2,a3⟩|⟨z,_⟩
  .rw[h3]at a1;cases a1;refine⟨a,v,ex,?_,k v H2 R2 NoA (P.less λ_ z=>z.elim) (by rw[ij];exact a3)⟩;rw[<-a2,i6 hq o2];exact DGet.kr ha
  .rw[h3]at z;cases z
 |_=>cases h3
def nU(hu:X.A.units+1<cLine)(ho:QE X o (tF K p ds ds1 d1 f1))(hi:QE X k (tF K p ds1 ds2 d2 f2))(hs:tX k):QE X (.Subscript o k pos) (tF K p ds ds2 0 (e2 qi f1 f2)):=⟨(qY hu ho.h hi.h hs).imp λ_ _ _=>FD⟩
def ko(i:Nat)(f:ME):ME:=λen=>(en[i]?).join.bind λ_=>(f en).bind λr=>match (r.2[i]?).join with
 |some (.dict ks)=>(kOf r.1).bind λ_=>(bo ks r.1).map λt=>(t,r.2)
 |_=>none
def G5{neg:Bool}(h:tF K p ds ds2 3 (e2 (if neg then kx else dIn) f1 f2) σ H Q):(if neg then qQ else Hi) (tF K p ds ds1 d1 f1) (tF K p ds1 ds2 d2 f2) σ H Q:=by
 obtain⟨Ox,en,R,t,en',e,hf,k⟩:=h;unfold e2 at hf;obtain⟨⟨t1,en1⟩,h1,hf⟩:=zaa.mp hf;obtain⟨⟨t2,en2⟩,h2,hf⟩:=zaa.mp hf;obtain⟨t',h3,hf⟩:=zab.mp hf;cases hf;have go:∀(b:Bool->Bool),(∃q ks,t2=.dict ks/\noT ks=true/\kOf t1=some q/\t=.bool (b (bo ks t1).isSome))->tF K p ds ds1 d1 f1 σ H λy H1=>tF K p ds1 ds2 d2 f2 σ H1 λx H2=>∃a o,x=.ref a/\DGet H2 a y o/\Q (.bl (b o.isSome)) H2:=λb ⟨q,ks,e1,hk,e2,e3⟩=>by
  subst e1 e3;refine two (p1:=p) (p2:=p) e h1 h2 λx y H2 R2 F1 F2 P o1 o2=>?_;rw[zbk]at P;obtain⟨a,vs,ex,ha,ow⟩:=(Ow.letgo P (λ_=>.inr) o2).dict0 hk;rw[gx e2]at k;rcases ow.look q with⟨t',v,a1,a2,a3⟩|⟨z1,z2⟩
  .rw[a1]at k;refine⟨a,some v,ex,?_,k _ H2 R2 NoA (P.less λ_ z=>z.elim) rfl⟩;rw[<-a2,i6 e2 o1];exact DGet.kr ha
  .rw[z1]at k;refine⟨a,none,ex,?_,k _ H2 R2 NoA (P.less λ_ z=>z.elim) rfl⟩;rw[<-z2,i6 e2 o1];exact DGet.kr ha
 cases neg with
 |true=>
  refine go (λb=>!b) ?_;cases t2 with
  |dict ks=>
   have h4:(if noT ks=true then(kOf t1).map (λ_=>PyData.bool (!(bo ks t1).isSome))else none)=some t:=h3;by_cases hk:noT ks=true
   .rw[if_pos hk]at h4;obtain⟨q,hq,e⟩:=zab.mp h4;exact⟨q,ks,rfl,hk,hq,e.symm⟩
   .rw[if_neg hk]at h4;cases h4
  |_=>cases h3
 |false=>
  refine go (λb=>b) ?_;cases t2 with
  |dict ks=>
   have h4:(if noT ks=true then(kOf t1).map (λ_=>PyData.bool (bo ks t1).isSome)else none)=some t:=h3;by_cases hk:noT ks=true
   .rw[if_pos hk]at h4;obtain⟨q,hq,e⟩:=zab.mp h4;exact⟨q,ks,rfl,hk,hq,e.symm⟩
   .rw[if_neg hk]at h4;cases h4
  |_=>cases h3
def PC.imp{t t':TE}(h:PC X op a b t)(hi:∀σ H Q,t' σ H Q->t σ H Q):PC X op a b t':=λρ s σ H Q I hw=>h ρ s σ H Q I (hi _ _ _ hw)
def vn(hu:X.A.units+1<cLine)(ha:QE X a (tF K p ds ds1 d1 f1))(hb:QE X b (tF K p ds1 ds2 d2 f2))(h1:behindInMarks .NotIn b=false):QT X (.Compare a [.NotIn] [b] pos) (tFT K p ds ds2 (tV (e2 kx f1 f2))):=⟨(uH ((uN hu ha.h hb.h).imp λ_ _ _=>G5 (neg:=true)) h1).imp λ_ _ _=>ms⟩
def gQ(i:Nat)(fk fe:ME):MS:=λen=>(fe en).bind λr=>match (r.2[i]?).join with
 |some _=>(fk r.2).bind λq=>match (q.2[i]?).join with
  |some (.dict ks)=>(kOf q.1).bind λ_=>if ks.length<sizeLine then some (.nx (q.2.set i (some (.dict (iU ks q.1 r.1)))))else none
  |_=>none
 |none=>none
def BJ(hd:ds2[i]?=some 1)(h:tFS K J ds ds2 (gQ i fk fe) Dn σ H):sw (fT i) (tF K false ds1 ds2 d2 fk) (tF K false ds ds1 0 fe) Dn σ H:=by
 obtain⟨Ox,en,R,fl,e,hf,k⟩:=h;unfold gQ at hf;obtain⟨⟨t1,en1⟩,h1,hf⟩:=zaa.mp hf
 dsimp only at hf
 split at hf
 case h_2=>cases hf
 next tt h0=>
 obtain⟨⟨t2,en2⟩,h2,hf⟩:=zaa.mp hf
 dsimp only at hf
 split at hf
 case h_2=>cases hf
 next ks h3=>
 obtain⟨q,hq,hf⟩:=zaa.mp hf;by_cases ξ:ks.length<sizeLine
 case neg=>rw[if_neg ξ]at hf;cases hf
 rw[if_pos ξ]at hf;cases hf;refine⟨Ox,en,R,t1,en1,e,h1,λx H1 R1 F1 P1 o1=>?_⟩;obtain⟨v0,d0,a1,_,_⟩:=P1.env.at_ i tt (aR h0);refine⟨v0,a1,?_⟩;refine⟨U F1 Ox,en1,R1,t2,en2,P1.env,h2,λy H2 R2 F2 P2 o2=>?_⟩;have P:=P1.trans P2;have o1':=Ow.over P1.env P2 o1;have w1:=Ow.letgo P (λ_=>.inl) o1';obtain⟨v',d',b1,b2,b3⟩:=P.env.at_ i _ (aR h3);rw[a1]at b1;cases b1;rw[hd]at b2;cases b2;obtain⟨l,vs,el,hl,hr,F',hf',ow⟩:=b3.dict1 (by decide);have eq:=i6 hq o2;subst eq;refine⟨l,_,el,DPut.k hl (by rw[ow.len];exact ξ),?_⟩;have hi:i<en2.length:=(zah.mp (aR h3)).1;have gG:∀a,(λa=>R2 i a) a->R2 i a\/U F1 F2 a:=λa z=>.inl z;have sub:=mL (i:=i) (R1:=R2) (Ox:=Ox) (G:=λa=>R2 i a) (F':=NoA) (F:=U F1 F2) gG (λ_ z=>z.elim);have Ol:Own R2 (U (U F1 F2) Ox) l:=.inl ⟨i,hr⟩;have PS:=P.slot (G:=λa=>R2 i a) (F':=NoA) (o2:=.dK (b9 vs q x)) (t:=.dict (iU ks t2 t1)) hr hi a1 hd gG (λ_ z=>z.elim) (λ_ _ z=>z) ?_
 .exact k σ _ _ PS.s
 refine⟨l,b9 vs q x,el,.inr (.inl ⟨by decide,ao,hr,NoA,λ_ z=>z.elim,?_⟩)⟩;rw[gx hq];refine Owd.put0 (Owd.past sub Ol (λ_ z=>z.elim) (Owd.any0 ks ow)) ?_;refine Ow.past (O:=Own R2 Ox) (λa z=>?_) (.inl ⟨i,hr⟩) (λ_ z=>z.elim) w1;rcases z with⟨j,z⟩|z|z
 .by_cases hj:j=i
  .rw[if_pos hj]at z;exact .inl ⟨i,z⟩
  .rw[if_neg hj]at z;exact .inl ⟨j,z⟩
 .exact z.elim
 .exact .inr z
def tE(hu:X.A.units+1<cLine)(hN:X.N[i]?=some x)(hv:Vis X.env.scope x)(he:QE X e (tF K false ds ds1 0 fe))(hk:QE X k (tF K false ds1 ds2 d2 fk))(h1:ds2[i]?=some 1)(hdb:(x==("__debug__":Str))=false)(hcd:(x==("__classdict__":Str))=false)(hs:swapsWith e (some (.Subscript (.Name x px) k ζ)) pos.line X.env=pure false):QS X (.Assign [.Subscript (.Name x px) k ζ] e pos) (tFS K J ds ds2 (gQ i fk fe)):=⟨(qV hu (cF hN hv hdb hcd) hk.h he.h hs).imp λ_ _ _=>BJ h1⟩
end
def evP:List (ME×ME)->En->Option (List (D×D)×En)
 |[],en=>some ([],en)
 | (fk,fv)::r,en=>(fk en).bind λx=>(fv x.2).bind λy=>(evP r y.2).bind λz=>(kOf x.1).map λ_=>((x.1,y.1)::z.1,z.2)
def EG(ks:List (D×D)):List (D×D):=ks.foldl (λacc kv=>iU acc kv.1 kv.2) []
def k8(fs:List (ME×ME)):ME:=λen=>(evP fs en).bind λr=>if r.1.length<=15 then some (.dict (EG r.1),r.2)else none
def OwP(K:zbV)(O:AS)(H:Hp):List (D×D)->List (V×V)->Prop
 |[],ps=>ps=[]
 | (k,t)::r,ps=>∃q v s,ps=(kV q,v)::s/\k=kD q/\Ow K O H t 0 v NoA/\OwP K O H r s
section
variable{a c o k:Expr}         
theorem OwP.mv{O O':AS}{H H':Hp}(m:Mv O O' NoA H H'):∀{ks:List (D×D)} {ps:List (V×V)},OwP K O H ks ps->OwP K O' H' ks ps
 |[],_,h=>h
 | (k,t)::r,_,h=>by
  obtain⟨q,v,s,e1,e2,o,h⟩:=h;exact⟨q,v,s,e1,e2,Ow.mv m t (λ_ z=>z) o,OwP.mv m h⟩
noncomputable def trs(K:zbV)(p:Bool)(ds:List Nat)(fs:List (ME×ME)):List (TE×TE):=fs.map λq=>(tF K p ds ds 3 q.1,tF K p ds ds 0 q.2)
def qX{F:AS}(P:Post K p ds1 Ox σ H en R en1 H1 R1 F):Mv (Own R Ox) (Own R1 Ox) NoA H H1:=by
 refine⟨λa o q z=>P.keep a o q λi zi=>?_,λa z=>?_⟩
 .rcases z with z|z
  .exact z (.inl ⟨i,zi⟩)
  .exact z
 .rcases z with z|z
  .exact(P.own a (.inr z)).imp .inl id
  .exact .inl (.inr z)
theorem rT:∀{fs:List (ME×ME)} {σ:St} {H:Hp} {Ox:AS} {en en':En} {R:Nat->AS} {ks:List (D×D)} {QP:List (V×V)->Hp->Prop},EnvOk K ds Ox H σ en R->evP fs en=some (ks,en') ->
  (∀ps H' R',Post K p ds Ox σ H en R en' H' R' NoA->OwP K (Own R' Ox) H' ks ps->QP ps H')->ka (trs K p ds fs) σ H QP
 |[],σ,H,Ox,en,en',R,ks,QP,e,hf,k=>by
  cases hf;exact k [] H R (Post.refl e) rfl
 | (fk,fv)::r,σ,H,Ox,en,en',R,ks,QP,e,hf,k=>by
  unfold evP at hf;obtain⟨⟨t1,en1⟩,h1,hf⟩:=zaa.mp hf;obtain⟨⟨t2,en2⟩,h2,hf⟩:=zaa.mp hf;obtain⟨⟨ks3,en3⟩,h3,hf⟩:=zaa.mp hf;obtain⟨q,hq,hf⟩:=zab.mp hf;cases hf;refine⟨Ox,en,R,t1,en1,e,h1,λx H1 R1 F1 P1 o1=>?_⟩;refine⟨Ox,en1,R1,t2,en2,P1.env0,h2,λy H2 R2 F2 P2 o2=>?_⟩;refine rT P2.env0 h3 λps H3 R3 P3 op=>?_;have PP:=(P1.after P2).after P3;rw[zbk,zbk]at PP;refine k _ H3 R3 PP ⟨q,y,ps,?_,gx hq,?_,op⟩
  .rw[i6 hq o1]
  .exact Ow.mv (qX P3) t2 (λ_ z=>z) (Ow.letgo P2 (λ_ z=>z) o2)
theorem pF{O:AS}:∀{ks:List (D×D)} {kvs:List (Key×V)} {acc:List (D×D)} {avs:List (Key×V)},OwP K O H ks (kvs.map λkv=>(kV kv.1,kv.2))->Owd K O H acc 0 avs NoA->Owd K O H (ks.foldl (λacc kv=>iU acc kv.1 kv.2) acc) 0 (gu avs kvs) NoA
 |[],kvs,acc,avs,h,ha=>by
  have:kvs=[]:=List.map_eq_nil_iff.mp h;subst this;exact ha
 | (k,t)::r,kvs,acc,avs,h,ha=>by
  obtain⟨q,v,s,e1,e2,o,h⟩:=h;cases kvs with
  |nil=>cases e1
  |cons kv kvs=>
   rw[zar]at e1;injection e1 with e3 e4
   injection e3 with e5 e6
   have:=ES e5;subst this e6 e4 e2;exact pF (ks:=r) (kvs:=kvs) h (ha.put0 o)
theorem rb{O:AS}:∀{ks:List (D×D)} {ps:List (V×V)},OwP K O H ks ps->∃kvs:List (Key×V),ps=kvs.map (λkv=>(kV kv.1,kv.2))/\kvs.length=ks.length
 |[],_,h=>⟨[],h,rfl⟩
 | (k,t)::r,_,h=>by
  obtain⟨q,v,s,e1,e2,o,h⟩:=h;obtain⟨kvs,e3,e4⟩:=rb h;exact⟨(q,v)::kvs,by rw[e1,e3];rfl,by rw[zac,zac,e4]⟩
def FC(h:tF K p ds ds 1 (k8 fs) σ H Q):Ah (trs K p ds fs) σ H Q:=by
 obtain⟨Ox,en,R,t,en',e,hf,k⟩:=h;unfold k8 at hf;obtain⟨⟨ks,en1⟩,h1,hf⟩:=zaa.mp hf;by_cases hl:ks.length<=15
 case neg=>rw[if_neg hl]at hf;cases hf
 rw[if_pos hl]at hf;cases hf;intro l hl0;have n0:=bC (o:=.dK []) hl0;have P0:Post K true ds Ox σ H en R en (upd H l (.dK [])) R (λb=>b=l):=Post.new e n0.1 n0.2;refine rT P0.env h1 λps H2 R2 P op=>?_;obtain⟨kvs,e1,e2⟩:=rb op;have lO:U (λb=>b=l) Ox l:=.inl rfl;have hl2:H2 l=some (.dK []):=P.keep l _ ao λi z=>by
  obtain⟨o,q⟩:=e.dom l (.inl ⟨i,z⟩);rw[hl0]at q;cases q
 have nl2:∀i,¬R2 i l:=λi z=>P.env.dx i l z (.inr lO);refine⟨hl2,kvs,e1,by lia,?_⟩;have PP:=P0.trans P;rw[Bool.true_and]at PP;have eU:U (λb=>b=l) NoA=(λb=>b=l):=dv λa=>⟨λz=>z.elim id λz=>z.elim,.inl⟩;rw[eU]at PP;have keepl:∀a o,H2 a=some o->a≠l->upd H2 l (.dK (gu [] kvs)) a=some o:=λa o q n=>by rw[au n];exact q
 have OO:∀a,Own R2 (U (λb=>b=l) Ox) a->Own R2 (U (U (λb=>b=l) Ox) NoA) a:=λa z=>z.imp id .inl;refine k (.ref l) _ R2 (λb=>b=l) ⟨⟨λj u hu=>?_,PP.env.dj,PP.env.dx,λa z=>?_,PP.env.l1,PP.env.l2⟩,PP.fx,λa o q n=>?_,PP.own,λa o q=>?_,λhp=>?_⟩ ⟨l,_,rfl,.inr (.inl ⟨by decide,ao,rfl,NoA,λ_ z=>z.elim,?_⟩)⟩
 .obtain⟨v',d',g1,g2,g3⟩:=PP.env.at_ j u hu;refine⟨v',d',g1,g2,Ow.mv (G:=R2 j) ⟨λa o q z=>keepl a o q λza=>?_,λa z=>.inl z⟩ u (λ_ z=>z) g3⟩;subst za;rcases z with z|z
  .exact z (.inr lO)
  .exact nl2 j z
 .by_cases ha:a=l
  .subst ha;exact⟨_,ao⟩
  .obtain⟨o,q⟩:=PP.env.dom a z;exact⟨o,keepl a o q ha⟩
 .refine keepl a o (PP.keep a o q n) λza=>?_;subst za;rw[hl0]at q;cases q
 .obtain⟨o',q'⟩:=PP.dom a o q;by_cases ha:a=l
  .subst ha;exact⟨_,ao⟩
  .exact⟨o',keepl a o' q' ha⟩
 .obtain⟨b1,b2,b3⟩:=PP.pure hp;refine⟨b1,b2,λa o q=>keepl a o (b3 a o q) λza=>?_⟩;subst za;rw[hl0]at q;cases q
 .have op2:OwP K (Own R2 (U (λb=>b=l) Ox)) (upd H2 l (.dK (gu [] kvs))) ks (kvs.map λkv=>(kV kv.1,kv.2)):=by
   rw[e1]at op;refine OwP.mv ⟨λa o q z=>keepl a o q λza=>?_,λa z=>.inl z⟩ op;subst za;rcases z with z|z
   .exact z (.inr lO)
   .exact z
  exact pF op2 rfl
def vC{keys:List (Option Expr)}{values:List Expr}(h:QPs X pos keys values (trs K p ds fs))(hall:keys.all (·.isSome)=true)(hl:keys.length=values.length)(h0:keys≠[])(h15:keys.length<=15):QE X (.Dict keys values pos) (tF K p ds ds 1 (k8 fs)):=⟨(Ba h.h hall hl h0 h15).imp λ_ _ _=>FC⟩
def xk:QPs X pos [] [] (trs K p ds []):=⟨qW⟩
def vv{k v:Expr}{ks:List (Option Expr)}{vs:List Expr}{fv:ME}(hk:QE X k (tF K p ds ds 3 fk))(hv:QE X v (tF K p ds ds 0 fv))(hr:QPs X pos ks vs (trs K p ds fs)):QPs X pos (some k::ks) (v::vs) (trs K p ds ((fk,fv)::fs)):=⟨pp hk.h hv.h hr.h⟩
noncomputable def Ix(i j:Nat)(fa:MA):MS:=λen=>(fa en).bind λr=>match r.1 with
 |[.inl a,.inl b]=>some (.nx ((r.2.set i (some a)).set j (some b)))
 |_=>none
end
section
variable{ws:List V}{x:V} 
noncomputable def vg:List D->Option (List Int)
 |[]=>some []
 |.int i::r=>(vg r).map (i::·)
 |_::_=>none
def Hj:List D->Option D
 |[.list ts]=>(vg ts).map λns=>.int ns.sum
 |_=>none
end
section
variable{ws:List V}{b:Addr}
noncomputable def oO(ts us:List D):List D:=List.zipWith (λx y=>.tuple [x,y]) ts us
def Il(fa:MA):MI:=λen=>(fa en).bind λr=>match r.1 with
 |[.inl (.list ts),.inl (.list us)]=>some (oO ts us,r.2)
 |_=>none
end
def eM(g:Str->List D->Option D)(f:ME)(fa:MA):ME:=λen=>(f en).bind λr=>match r.1 with
 |.str z=>(fa r.2).bind λq=>(vals q.1).bind λts=>(g z ts).map λt=>(t,q.2)
 |_=>none
noncomputable def Ik:Str->List D->Option D
 |sep,[.list ts]=>(strsOf ts).bind λys=>if sep.length<=16/\(ys.map (·.length)).sum+ys.length<=1048576 then some (.str (Txt.join sep ys))else none
 |sep,[.tuple ts]=>(strsOf ts).bind λys=>if sep.length<=16/\(ys.map (·.length)).sum+ys.length<=1048576 then some (.str (Txt.join sep ys))else none
 |_,_=>none
where strsOf:List D->Option (List Str)
 |[]=>some []
 |.str z::r=>(strsOf r).map (z::·)
 |_::_=>none
noncomputable def HJ:Str->List D->Option D
 |z,[.str y]=>some (.bool (Txt.startswith z y))
 |_,_=>none
noncomputable def Io:Str->List D->Option D
 |z,[.str y]=>some (.bool (Txt.endswith z y))
 |_,_=>none
section
open PySem.SeqAt Classical
variable{s:Shared} 
noncomputable def eqF(X:Cx)(O:AS)(H:Hp)(a:D)(u:Value):Bool:=decide (∃d v,RelV v u/\av d=true/\Ow X.K O H d 0 v NoA/\peq d a=true)
def vF(I:Inv X ρ σ H s){a d:D}(r:RelV v u)(hn:av d=true)(o:Ow X.K O H d 0 v NoA):eqF X O H a u=peq d a:=by
 unfold eqF;cases h:peq d a with
 |true=>exact zaB ⟨d,v,r,hn,o,h⟩
 |false=>
  refine zaA λ⟨d',v',r',hn',o',h'⟩=>?_;have e:=r.inj r';subst e
  have:=Ow.inj I d d' o o' hn;subst this;rw[h]at h';cases h'
theorem nw(I:Inv X ρ σ H s){a:D}:∀{ts:List D} {vs:List V} {us:List Value},aH ts=true->Ows X.K O H ts 0 vs NoA->Vals vs us->us.any (eqF X O H a)=ts.any λt=>peq t a
 |[],_,_,_,h,r=>by
  cases(show _=[]from h);cases r;rfl
 |t::ts,_,_,hn,h,r=>by
  obtain⟨v,q,F1,F2,e,_,_,_,h4,h5⟩:=h;subst e;have hn':av t=true/\aH ts=true:=by simpa[aH]using hn
  cases r with
  |cons ru rr=>rw[List.any_cons,List.any_cons,vF I ru hn'.1 (Ow.any0 t h4),nw I hn'.2 (Ows.any0 ts h5) rr]
theorem m7(I:Inv X ρ σ H s){A:Around}{a:D}{x:V}{v:Value}(hna:av a=true)(oa:Ow X.K O H a 0 x NoA)(ra:RelV x v)(hu:A.units+60+1<cLine):∀{ts:List D} {vs:List V} {us:List Value},aH ts=true->bn ts<=60->Ows X.K O H ts 0 vs NoA->Vals vs us->∀u∈us,EqAt A s u v (eqF X O H a u)
 |[],_,_,_,_,h,r=>by
  cases(show _=[]from h);cases r;exact λu hu=>by cases hu
 |t::ts,_,_,hn,hdp,h,r=>by
  obtain⟨w,q,F1,F2,e,_,_,_,h4,h5⟩:=h;subst e;have hn':av t=true/\aH ts=true:=by simpa[aH]using hn
  have hd':bw t<=60/\bn ts<=60:=by simp only[bn]at hdp;lia
  cases r with
  |cons ru rr=>
   intro u' hu';rcases zay.mp hu' with rfl|hu'
   .rw[vF I ru hn'.1 (Ow.any0 t h4)];exact(tL I 60 t a A w x _ v hd'.1 hn'.1 hna (Ow.any0 t h4) oa ru ra hu).1
   .exact m7 I hna oa ra hu hn'.2 hd'.2 (Ows.any0 ts h5) rr u' hu'
def inL:D->D->Option D
 |x,.list ts=>grd (av x=true/\aH ts=true/\bn ts<=60) (.bool (ts.any λt=>peq t x))
 |x,.tuple ts=>grd (av x=true/\aH ts=true/\bn ts<=60) (.bool (ts.any λt=>peq t x))
 |_,_=>none
def pC:D->D->Option D
 |x,.list ts=>grd (av x=true/\aH ts=true/\bn ts<=60) (.bool (!ts.any λt=>peq t x))
 |x,.tuple ts=>grd (av x=true/\aH ts=true/\bn ts<=60) (.bool (!ts.any λt=>peq t x))
 |_,_=>none
def xn(hK:X.K=K)(hu:X.A.units+64<cLine):OpR X (compareOp .NotIn) (rF2 K pC 3):=by
 subst hK;intro ρ s σ H x y v u Q I rx ry ⟨O,a,b,t,oa,ob,hd,hg,k⟩;have hu1:X.A.in1.units+60+1<cLine:=by show X.A.units+1+60+1<cLine;lia
 cases b with
 |list ts=>
  obtain⟨⟨c1,c2,c3⟩,rfl⟩:=dz hg;obtain⟨p,vs,rfl,fz,w⟩:=ob.lst0;cases ry;obtain⟨its,r,pl,hz⟩:=I.list fz.sq;refine SeqAt.notIn_listAt (eqF X O H a) pl.isList (λz hz=>m7 I c1 oa rx hu1 c2 c3 w r z (by simpa using hz)) ⟨.bl _,H,I,rfl,?_⟩;rw[show its.toArray.any (eqF X O H a)=its.any (eqF X O H a)by simp,nw I c2 w r];exact k _ H NoA .refl rfl
 |tuple ts=>
  obtain⟨⟨c1,c2,c3⟩,rfl⟩:=dz hg;obtain⟨p,vs,rfl,fz,w⟩:=ob.tup0;cases ry;obtain⟨its,r,pl,hz⟩:=I.tuple fz.sq;refine SeqAt.notIn_tupleAt (eqF X O H a) pl (λz hz=>m7 I c1 oa rx hu1 c2 c3 w r z (by simpa using hz)) ⟨.bl _,H,I,rfl,?_⟩;rw[show its.toArray.any (eqF X O H a)=its.any (eqF X O H a)by simp,nw I c2 w r];exact k _ H NoA .refl rfl
 |_=>cases hg
end
def dns:Nat->Nat->Nat
 |0,d=>d
 |m+1,d=>dns m (dn d)
theorem qh:∀m,dns m 0=0
 |0=>rfl
 |m+1=>qh m
def FI{m:Nat}(h:dns m d≠0):d≠0:=λz=>h (by rw[z];exact qh m)
noncomputable def bB:D->List Nat->Option D
 |t,[]=>some t
 |.list ts,k::π=>(ts[k]?).bind λu=>bB u π
 |.tuple ts,k::π=>(ts[k]?).bind λu=>bB u π
 |_,_::_=>none
noncomputable def bY:D->List Nat->D->D
 |_,[],u=>u
 |.list ts,k::π,u=>.list (ts.set k ((ts[k]?).elim .none λc=>bY c π u))
 |.tuple ts,k::π,u=>.tuple (ts.set k ((ts[k]?).elim .none λc=>bY c π u))
 |t,_::_,_=>t
def PathV(H:Hp):V->List Nat->V->Prop
 |v,[],w=>v=w
 |v,k::π,w=>∃a vs u,v=.ref a/\(H a=some (.lst vs)\/H a=some (.tup vs))/\vs[k]?=some u/\PathV H u π w
theorem PathV.mono{H H':Hp}(hk:∀a o,H a=some o->H' a=some o):∀{π:List Nat} {v w:V},PathV H v π w->PathV H' v π w
 |[],_,_,h=>h
 |_::_,_,_,⟨a,vs,u,e,h1,h2,h3⟩=>⟨a,vs,u,e,h1.imp (hk _ _) (hk _ _),h2,h3.mono hk⟩
theorem PathV.det{H:Hp}:∀{π:List Nat} {v w w':V},PathV H v π w->PathV H v π w'->w=w'
 |[],_,_,_,h,g=>h.symm.trans g
 |_::_,_,_,_,h,g=>by
  obtain⟨a,vs,u,e,h1,h2,h3⟩:=h;obtain⟨a',vs',u',e',g1,g2,g3⟩:=g;rw[e]at e';cases e'
  have:vs=vs':=by
   rcases h1 with h1|h1<;>rcases g1 with g1|g1<;>rw[h1]at g1<;>cases g1<;>rfl
  subst this;rw[h2]at g2;cases g2;exact h3.det g3
theorem PathV.snoc{H:Hp}{a:Addr}{vs:List V}{u:V}{k:Nat}(h1:H a=some (.lst vs)\/H a=some (.tup vs))(h2:vs[k]?=some u):∀{π:List Nat} {v:V},PathV H v π (.ref a)->PathV H v (π++[k]) u
 |[],_,h=>⟨a,vs,u,h,h1,h2,rfl⟩
 |_::_,_,⟨a',vs',u',e,g1,g2,g3⟩=>⟨a',vs',u',e,g1,g2,PathV.snoc h1 h2 g3⟩
theorem Ows.zoom{d:Nat}:∀{ts:List D} {vs:List V} {F:AS} {k:Nat} {u:D},Ows K O H ts d vs F->ts[k]?=some u ->
  ∃w,∃F1 F2:AS,vs[k]?=some w/\(∀b,F1 b->F b)/\(∀b,F2 b->F b)/\(∀b,F1 b->¬F2 b)/\Ow K O H u d w F1 /\
   ∀(O':AS) (H':Hp) (u':D) (G:AS),Mv O O' F2 H H'->(∀b,G b->¬F2 b)->Ow K O' H' u' d w G->Ows K O' H' (ts.set k u') d vs (λb=>F2 b\/G b)
 |[],_,_,k,u,_,h=>by simp at h
 |t::ts,_,F,k,u,h,hk=>by
  obtain⟨v,r,F1,F2,e,s1,s2,s3,h4,h5⟩:=h;subst e;cases k with
  |zero=>
   have:t=u:=by simpa using hk
   subst this;refine⟨v,F1,F2,rfl,s1,s2,s3,h4,λO' H' u' G m hd o=>?_⟩;exact⟨v,r,G,F2,rfl,λ_ z=>.inr z,λ_ z=>.inl z,hd,o,Ows.mv m ts (λ_ z=>z) h5⟩
  |succ k=>
   obtain⟨w,G1,G2,g1,g2,g3,g4,g5,g6⟩:=Ows.zoom (k:=k) h5 (by simpa using hk);refine⟨w,G1,λb=>F1 b\/G2 b,by simpa using g1,λb z=>s2 b (g2 b z),λb z=>z.elim (s1 b) λz=>s2 b (g3 b z),λb z z2=>?_,g5,λO' H' u' G m hd o=>?_⟩
   .rcases z2 with z2|z2
    .exact s3 b z2 (g2 b z)
    .exact g4 b z z2
   .refine⟨v,r,F1,λb=>G2 b\/G b,rfl,λb z=>.inl (.inl z),λb z=>z.imp .inr id,λb z z2=>?_,Ow.mv ⟨m.k,m.o⟩ t (λb z=>.inl z) h4,g6 O' H' u' G ⟨λa o q z=>m.k a o q (z.imp id .inr),m.o⟩ (λb z z2=>hd b z (.inr z2)) o⟩;rcases z2 with z2|z2
    .exact s3 b z (g3 b z2)
    .exact hd b z2 (.inl z)
theorem Ow.zoom:∀{π:List Nat} {t u:D} {d:Nat} {v:V} {F:AS},Ow K O H t d v F->bB t π=some u->dns π.length d≠0 ->
  ∃w,∃F1 Fr:AS,PathV H v π w/\(∀b,F1 b->F b)/\(∀b,Fr b->F b)/\(∀b,F1 b->¬Fr b)/\Ow K O H u (dns π.length d) w F1 /\
   ∀(O':AS) (H':Hp) (u':D) (G:AS),Mv O O' Fr H H'->(∀b,G b->¬Fr b)->Ow K O' H' u' (dns π.length d) w G->Ow K O' H' (bY t π u') d v (λb=>Fr b\/G b)
 |[],t,u,d,v,F,h,hp,hz=>by
  cases hp;refine⟨v,F,NoA,rfl,λ_ z=>z,λ_ z=>z.elim,λ_ _ z=>z,h,λO' H' u' G m hd o=>?_⟩;have e:(λb=>NoA b\/G b)=G:=dv λb=>⟨λz=>z.elim (λz=>z.elim) id,.inr⟩;rw[e];exact o
 |k::π,t,u,d,v,F,h,hp,hz=>by
  have hz1:dns π.length (dn d)≠0:=hz;have hd0:d≠0:=FI (m:=π.length+1) hz;cases t with
  |list ts=>
   obtain⟨c,p1,p2⟩:=zaa.mp hp;obtain⟨a,vs,e,⟨h0,_⟩|⟨_,h1,h2,F',hf,h3⟩⟩:=h
   .exact absurd h0 hd0
   obtain⟨w,G1,G2,g1,g2,g3,g4,g5,g6⟩:=h3.zoom p1;obtain⟨w2,F1,Fr,q1,q2,q3,q4,q5,q6⟩:=Ow.zoom g5 p2 hz1;refine⟨w2,F1,λb=>b=a\/G2 b\/Fr b,⟨a,vs,w,e,.inl h1,g1,q1⟩,λb z=>(hf b (g2 b (q2 b z))).1,λb z=>?_,λb z z2=>?_,q5,λO' H' u' G m hd o=>?_⟩
   .rcases z with z|z|z
    .rw[z];exact h2
    .exact(hf b (g3 b z)).1
    .exact(hf b (g2 b (q3 b z))).1
   .rcases z2 with z2|z2|z2
    .exact(hf b (g2 b (q2 b z))).2 z2
    .exact g4 b (q2 b z) z2
    .exact q4 b z z2
   .have o1:=q6 O' H' u' G ⟨λx y q z=>m.k x y q (z.imp id λz=>.inr (.inr z)),m.o⟩ (λb z z2=>hd b z (.inr (.inr z2))) o;have o2:=g6 O' H' (bY c π u') (λb=>Fr b\/G b) ⟨λx y q z=>m.k x y q (z.imp id λz=>.inr (.inl z)),m.o⟩ (λb z z2=>?_) o1
    .refine⟨a,vs,e,.inr ⟨hd0,m.k _ _ h1 (.inr (.inl rfl)),.inl (.inl rfl),λb=>G2 b\/Fr b\/G b,λb z=>?_,?_⟩⟩
     .rcases z with z|z|z
      .exact⟨.inl (.inr (.inl z)),(hf b (g3 b z)).2⟩
      .exact⟨.inl (.inr (.inr z)),(hf b (g2 b (q3 b z))).2⟩
      .exact⟨.inr z,λze=>hd b z (.inl ze)⟩
     .rw[p1];exact o2
    .rcases z with z|z
     .exact g4 b (q3 b z) z2
     .exact hd b z (.inr (.inl z2))
  |tuple ts=>
   obtain⟨c,p1,p2⟩:=zaa.mp hp;obtain⟨a,vs,e,⟨h0,_⟩|⟨_,h1,h2,F',hf,h3⟩⟩:=h
   .exact absurd h0 hd0
   obtain⟨w,G1,G2,g1,g2,g3,g4,g5,g6⟩:=h3.zoom p1;obtain⟨w2,F1,Fr,q1,q2,q3,q4,q5,q6⟩:=Ow.zoom g5 p2 hz1;refine⟨w2,F1,λb=>b=a\/G2 b\/Fr b,⟨a,vs,w,e,.inr h1,g1,q1⟩,λb z=>(hf b (g2 b (q2 b z))).1,λb z=>?_,λb z z2=>?_,q5,λO' H' u' G m hd o=>?_⟩
   .rcases z with z|z|z
    .rw[z];exact h2
    .exact(hf b (g3 b z)).1
    .exact(hf b (g2 b (q3 b z))).1
   .rcases z2 with z2|z2|z2
    .exact(hf b (g2 b (q2 b z))).2 z2
    .exact g4 b (q2 b z) z2
    .exact q4 b z z2
   .have o1:=q6 O' H' u' G ⟨λx y q z=>m.k x y q (z.imp id λz=>.inr (.inr z)),m.o⟩ (λb z z2=>hd b z (.inr (.inr z2))) o;have o2:=g6 O' H' (bY c π u') (λb=>Fr b\/G b) ⟨λx y q z=>m.k x y q (z.imp id λz=>.inr (.inl z)),m.o⟩ (λb z z2=>?_) o1
    .refine⟨a,vs,e,.inr ⟨hd0,m.k _ _ h1 (.inr (.inl rfl)),.inl (.inl rfl),λb=>G2 b\/Fr b\/G b,λb z=>?_,?_⟩⟩
     .rcases z with z|z|z
      .exact⟨.inl (.inr (.inl z)),(hf b (g3 b z)).2⟩
      .exact⟨.inl (.inr (.inr z)),(hf b (g2 b (q3 b z))).2⟩
      .exact⟨.inr z,λze=>hd b z (.inl ze)⟩
     .rw[p1];exact o2
    .rcases z with z|z
     .exact g4 b (q3 b z) z2
     .exact hd b z (.inr (.inl z2))
  |_=>cases hp
abbrev MP:=En->Option (List Nat×En)
inductive tP(K:zbV)(p:Bool)(ds ds':List Nat)(i m:Nat)(mp:MP)(σ:St)(H:Hp)(Q:VK):Prop
 |mk (Ox:AS) (en:En) (R:Nat->AS) (π:List Nat) (en':En) (h0:EnvOk K ds Ox H σ en R) (h1:mp en=some (π,en')) (h2:∀v w H' R',Post K p ds' Ox σ H en R en' H' R' NoA->π.length=m->σ[i]?=some (some v)->PathV H' v π w->Q w H')
noncomputable def lM(i:Nat):MP:=λen=>((en[i]?).join).map λ_=>([],en)
def pIx(i:Nat)(mp:MP)(f:ME):MP:=λen=>(mp en).bind λr=>(f r.2).bind λq=>match q.1,(q.2[i]?).join with
 |.int n,some t=>(bB t r.1).bind λu=>match u with
  |.list ts=>(ixN ts.length n).bind λk=>if k<ts.length then some (r.1++[k],q.2)else none
  |.tuple ts=>(ixN ts.length n).bind λk=>if k<ts.length then some (r.1++[k],q.2)else none
  |_=>none
 |_,_=>none
section
variable{m:Nat}{mp:MP}{o:Expr} 
def FA(h:tP K true ds ds i 0 (lM i) σ H Q):fT i σ H Q:=by
 obtain⟨Ox,en,R,π,en',e,hf,k⟩:=h;unfold lM at hf;obtain⟨t,h1,h2⟩:=zab.mp hf;cases h2;obtain⟨v,d,a1,_,_⟩:=e.at_ i t (aR h1);exact⟨v,a1,k v v H R (Post.refl e) rfl a1 rfl⟩
def GY(hpu:p2=true\/m=0)(hd:ds2[i]?=some d)(hz:dns m d≠0)(h:tP K (p1&&p2) ds ds2 i (m+1) (pIx i mp f) σ H Q):tOp (rIx K) (tP K p1 ds ds1 i m mp) (tF K p2 ds1 ds2 d1 f) σ H Q:=by
 obtain⟨Ox,en,R,π,en',e,hf,k⟩:=h;unfold pIx at hf;obtain⟨⟨π0,en1⟩,h1,hf⟩:=zaa.mp hf;obtain⟨⟨t1,en2⟩,h2,hf⟩:=zaa.mp hf
 dsimp only at hf
 split at hf
 case h_2=>cases hf
 next n t h3=>
 obtain⟨u,h4,hf⟩:=zaa.mp hf;refine⟨Ox,en,R,π0,en1,e,h1,λv w H1 R1 P1 hl hv pv=>?_⟩;refine⟨Ox,en1,R1,.int n,en2,P1.env0,h2,λy H2 R2 F P2 o=>?_⟩;have ey:y=.int n:=o;subst ey;have P:=P1.after P2;obtain⟨v',d',b1,b2,b3⟩:=P.env.at_ i t (aR h3);rw[hv]at b1;cases b1;rw[hd]at b2;cases b2;have pv2:PathV H2 v π0 w:=by
  rcases hpu with hp|hm
  .exact pv.mono (P2.pure hp).2.2
  .have e0:π0=[]:=za6.mp (hl.trans hm);subst e0;exact pv
 obtain⟨w2,F1,Fr,q1,q2,q3,q4,q5,_⟩:=b3.zoom h4 (by rw[hl];exact hz);have ew:=pv2.det q1;subst ew;rw[hl]at q5;cases u with
 |list ts=>
  obtain⟨kk,h5,hf⟩:=zaa.mp hf;by_cases hk:kk<ts.length
  case neg=>rw[if_neg hk]at hf;cases hf
  rw[if_pos hk]at hf;cases hf;obtain⟨a,vs,ea,ha,_,F',_,ow⟩:=q5.ownL hz;obtain⟨x,g1,_⟩:=ow.get (zak hk);refine .inl ⟨a,vs,n,x,ea,rfl,SqL.of ha,by unfold atI;rw[ow.len,h5];exact g1,?_⟩;subst ea;exact k v x H2 R2 (P.less λ_ z=>z.elim) (by rw[zae,hl];rfl) hv (PathV.snoc (.inl ha) g1 q1)
 |tuple ts=>
  obtain⟨kk,h5,hf⟩:=zaa.mp hf;by_cases hk:kk<ts.length
  case neg=>rw[if_neg hk]at hf;cases hf
  rw[if_pos hk]at hf;cases hf;obtain⟨a,vs,ea,⟨h0,_⟩|⟨_,ha,_,F',_,ow⟩⟩:=q5
  .exact absurd h0 hz
  obtain⟨x,g1,_⟩:=ow.get (zak hk);refine .inr (.inl ⟨a,vs,n,x,ea,rfl,SqT.of ha,by unfold atI;rw[ow.len,h5];exact g1,?_⟩);subst ea;exact k v x H2 R2 (P.less λ_ z=>z.elim) (by rw[zae,hl];rfl) hv (PathV.snoc (.inr ha) g1 q1)
 |_=>cases hf
def nS(hN:X.N[i]?=some x)(hv:Vis X.env.scope x)(hd:(x==("__debug__":Str))=false)(hcd:(x==("__classdict__":Str))=false):QE X (.Name x px) (tP K true ds ds i 0 (lM i)):=⟨(cF hN hv hd hcd).imp λ_ _ _=>FA⟩
def pZ(hK:X.K=K)(hd:ds2[i]?=some d)(ho:QE X o (tP K p1 ds ds1 i m mp))(hb:QE X b (tF K p2 ds1 ds2 d1 f))(hz:dns m d≠0)(hpu:p2=true\/m=0)(hs:jf b):QE X (.Subscript o b pos) (tP K (p1&&p2) ds ds2 i (m+1) (pIx i mp f)):=⟨by
 subst hK;exact(oH ix_seq ho.h hb.h hs).imp λ_ _ _=>GY hpu hd hz⟩
def Post.place{F:AS}{π:List Nat}{w:V}(P:Post K p ds1 Ox σ H en R en1 H1 R1 F)(hi:en1[i]?=some (some t))(hv:σ[i]?=some (some v))(hd:ds1[i]?=some d)(hg:bB t π=some (.list ts))(hz:dns π.length d≠0)(pv:PathV H1 v π w):
  ∃l vs,∃F1:AS,w=.ref l/\H1 l=some (.lst vs)/\R1 i l/\(∀b,F1 b->R1 i b/\b≠l)/\Ows K (Own R1 (U F Ox)) H1 ts (dn (dns π.length d)) vs F1 /\
   ∀(ts':List D) (vs':List V) (G:AS),(∀b,G b->F1 b\/F b)->(∀O',(∀a,O' a->Own R1 (U F Ox) a)->Ows K O' (upd H1 l (.lst vs')) ts' (dn (dns π.length d)) vs' G) ->
    ∃R',Post K false ds1 Ox σ H en R (en1.set i (some (bY t π (.list ts')))) (upd H1 l (.lst vs')) R' NoA:=by
 obtain⟨v',d',b1,b2,b3⟩:=P.env.at_ i t hi;rw[hv]at b1;cases b1;rw[hd]at b2;cases b2;obtain⟨w2,F1,Fr,q1,q2,q3,q4,q5,q6⟩:=b3.zoom hg hz;have ew:=pv.det q1;subst ew;obtain⟨l,vs,el,hl,hr,F',hf',ow⟩:=q5.ownL hz;refine⟨l,vs,F',el,hl,q2 l hr,λb z=>⟨q2 b (hf' b z).1,(hf' b z).2⟩,ow,λts' vs' G hG hO=>?_⟩;have ξ:i<en1.length:=(zah.mp hi).1;have gl:∀b,F b->b≠l:=λb z ze=>by
  subst ze;exact P.env.dx i b (q2 b hr) (.inl z)
 have gG:∀a,(λb=>Fr b\/(b=l\/G b)) a->R1 i a\/F a:=λa z=>by
  rcases z with z|z|z
  .exact .inl (q3 a z)
  .rw[z];exact .inl (q2 l hr)
  .rcases hG a z with z|z
   .exact .inl (q2 a (hf' a z).1)
   .exact .inr z
 have sub:=mL (i:=i) (R1:=R1) (Ox:=Ox) (G:=λb=>Fr b\/(b=l\/G b)) (F':=NoA) (F:=F) gG (λ_ z=>z.elim);have Ol:Own R1 (U F Ox) l:=.inl ⟨i,q2 l hr⟩;refine⟨_,P.slot (G:=λb=>Fr b\/(b=l\/G b)) (q2 l hr) ξ hv hd gG (λ_ z=>z.elim) (λ_ _ z=>z) ?_⟩;refine q6 _ _ (.list ts') (λb=>b=l\/G b) ⟨λa o q z=>?_,λa z=>.inl (sub a z)⟩ (λb z z2=>?_) ?_
 .rw[au]
  .exact q
  .intro za;subst za;rcases z with z|z
   .exact z Ol
   .exact q4 a hr z
 .rcases z with z|z
  .rw[z]at z2;exact q4 l hr z2
  .rcases hG b z with z|z
   .exact q4 b (hf' b z).1 z2
   .exact P.env.dx i b (q3 b z2) (.inl z)
 .refine⟨l,vs',el,.inr ⟨hz,ao,.inl rfl,G,λb z=>⟨.inr z,?_⟩,hO _ sub⟩⟩;rcases hG b z with z|z
  .exact(hf' b z).2
  .exact gl b z
def Ip(i:Nat)(mp:MP)(f:ME):ME:=λen=>(mp en).bind λr=>match (r.2[i]?).join with
 |some t=>(bB t r.1).bind λu=>match u with
  |.list ts=>(f r.2).bind λq=>if ts.length<sizeLine then some (.none,q.2.set i (some (bY t r.1 (.list (ts++[q.1])))))else none
  |_=>none
 |none=>none
def k9(i:Nat)(mp:MP):ME:=λen=>(mp en).bind λr=>match (r.2[i]?).join with
 |some t=>(bB t r.1).bind λu=>match u with
  |.list _=>some (.none,r.2.set i (some (bY t r.1 (.list []))))
  |_=>none
 |none=>none
def wu(h:H l=some (.lst vs)):tyV K "list" (.ref l) H:=.inl ⟨rfl,vs,SqL.of h⟩
def FE(hd1:ds1[i]?=some d)(hz:dns m d≠0)(h:tF K false ds ds1 3 (k9 i mp) σ H Q):D7 K "list" uG (tP K p1 ds ds1 i m mp) σ H Q:=by
 obtain⟨Ox,en,R,t0,en',e,hf,k⟩:=h;unfold k9 at hf;obtain⟨⟨π,en1⟩,h1,hf⟩:=zaa.mp hf
 dsimp only at hf
 split at hf
 case h_2=>cases hf
 next t h3=>
 obtain⟨u,h4,hf⟩:=zaa.mp hf;cases u with
 |list ts=>
  cases hf;refine⟨Ox,en,R,π,en1,e,h1,λv w H1 R1 P1 hl hv pv=>?_⟩;subst hl;obtain⟨l,vs,F1,el,hl1,hr,hf1,ow,fin⟩:=P1.place (aR h3) hv hd1 h4 hz pv;subst el;obtain⟨R',PF⟩:=fin [] [] NoA (λ_ z=>z.elim) λO' ho=>rfl;exact⟨wu hl1,l,vs,rfl,rfl,hl1,k .non _ R' NoA PF rfl⟩
 |_=>cases hf
def vD(hK:X.K=K)(hd1:ds1[i]?=some d)(ho:QE X o (tP K p1 ds ds1 i m mp))(hz:dns m d≠0)(η:attributeBase o "clear" X.env (eval o X.env)=eval o X.env)(θ:(μ.endLine==ω.line)=true):QE X (.Call (.Attribute o "clear" μ) [] [] ω) (tF K false ds ds1 3 (k9 i mp)):=⟨by
 subst hK;exact(Eu PySem.F.plainAttrs_list PySem.F.slot_list_clear PySem.F.type_list_clear wF ho.h η θ).imp λ_ _ _=>FE hd1 hz⟩
def jp(i:Nat)(mp:MP)(fk fe:ME):MS:=λen=>(fe en).bind λr=>(mp r.2).bind λw=>(fk w.2).bind λq=>match q.1,(q.2[i]?).join with
 |.int n,some t=>(bB t w.1).bind λu=>match u with
  |.list ts=>(ixN ts.length n).map λk=>.nx (q.2.set i (some (bY t w.1 (.list (ts.set k r.1)))))
  |_=>none
 |_,_=>none
def BG{D:Ends}(hpu:p2=true\/m=0)(hd:ds2[i]?=some d)(hz:dns m d≠0)(hc:dn (dns m d)=c)(h:tFS K J ds ds2 (jp i mp fk fe) D σ H):
  lD (tF K p ds ds0 c fe) (w6 (tP K p1 ds0 ds1 i m mp) (tF K p2 ds1 ds2 d2 fk) sA) D σ H:=by
 obtain⟨Ox,en,R,fl,e,hf,k⟩:=h;unfold jp at hf;obtain⟨⟨t1,en1⟩,h1,hf⟩:=zaa.mp hf;obtain⟨⟨π,en2⟩,h2,hf⟩:=zaa.mp hf;obtain⟨⟨t3,en3⟩,h3,hf⟩:=zaa.mp hf
 dsimp only at hf
 split at hf
 case h_2=>cases hf
 next n t h4=>
 obtain⟨u,h5,hf⟩:=zaa.mp hf;cases u with
 |list ts=>
  obtain⟨kk,h6,hf⟩:=zab.mp hf;cases hf;refine⟨Ox,en,R,t1,en1,e,h1,λx H1 R1 F1 P1 o1=>?_⟩;refine⟨U F1 Ox,en1,R1,π,en2,P1.env,h2,λv w H2 R2 P2 hl hv pv=>?_⟩;have P12:=P1.trans P2;have o12:=Ow.over P1.env P2 o1;have e0:U F1 NoA=F1:=dv λa=>⟨λz=>z.elim id λz=>z.elim,.inl⟩;rw[e0]at P12 o12;refine⟨U F1 Ox,en2,R2,.int n,en3,P12.env,h3,λy H3 R3 F3 P3 o3=>?_⟩;have P:=P12.trans P3;have o1':=Ow.over P12.env P3 o12;have ey:y=.int n:=o3;subst ey;subst hl;have pv3:PathV H3 v π w:=by
   rcases hpu with hp|hm
   .exact pv.mono (P3.pure hp).2.2
   .have e0:π=[]:=za6.mp hm;subst e0;exact pv
  obtain⟨l,vs,G1,el,hl1,hr,hf1,ow,fin⟩:=P.place (aR h4) hv hd h5 hz pv3;subst el;refine⟨l,vs,n,kk,rfl,rfl,hl1,by rw[ow.len];exact h6,?_⟩;have Fn:∀a,F1 a->a≠l:=λa z z2=>by
   subst z2;exact P.env.dx i a hr (.inl (.inl z))
  have Ol:Own R3 (U (U F1 F3) Ox) l:=.inl ⟨i,hr⟩;obtain⟨R',PF⟩:=fin (ts.set kk t1) (vs.set kk x) (U G1 F1) (λ_ z=>z.imp id .inl) λO' ho=>by
   refine Ows.setAt (Ows.past ho Ol (λb z=>(hf1 b z).2) ow) ?_ λb z1 z2=>P.env.dx i b (hf1 b z1).1 (.inl (.inl z2));rw[hc];exact Ow.past ho Ol Fn o1'
  exact k σ _ _ PF.s
 |_=>cases hf
def xg{k:Expr}(hd:ds2[i]?=some d)(he:PE X e (tF K p ds ds0 c fe))(ho:PE X o (tP K p1 ds0 ds1 i m mp))(hk:PE X k (tF K p2 ds1 ds2 d2 fk))(hz:dns m d≠0)(hc:dn (dns m d)=c)(hpu:p2=true\/m=0)
  (ha:∀v,assign (.Subscript o k ζ) X.env v=(do
   let ov <-holding [v] (eval o X.env)
   let iv <-holding [v,ov] (eval k X.env)
   standAt ζ
   holding [v,ov,iv] (setItem ov iv v)
   release [v,ov,iv] []))
  (hs:swapsWithSole [.Subscript o k ζ] e pos.line X.env=pure false) (hw:swappedStores [.Subscript o k ζ] e X.env=pure none)
  (h2:(assignEach [.Subscript o k ζ] X.env).map (·.2)=[assign (.Subscript o k ζ) X.env]):
  PS X (.Assign [.Subscript o k ζ] e pos) (tFS K J ds ds2 (jp i mp fk fe)):=
 (pj he (uL ho hk oZ ha) hs hw h2).imp λ_ _ _=>BG hpu hd hz hc
end
noncomputable def sM(f:Nat->Str):Nat->List Str
 |0=>[]
 |i+1=>if(sM f i).any (·==f i)=true then sM f i else sM f i++[f i]
section
variable{s:Shared}
def Gk(z:Str)(i:Nat):Str:=match z.cps[i]? with
 |some c=>mk1 c
 |none=>""
abbrev gR(led:Bool):Obj:={ cls:=.type "set",dict:=none,data:=.set #[] 0 (.fresh 0 0 led) }
end
section
variable{k:Expr}{pos2 py:Pos}
def ux(h:∀v H,Q v H->Q' v H):tF K p ds ds1 d f σ H Q->tF K p ds ds1 d f σ H Q'
 |⟨Ox,en,R,t,en',e,hf,k⟩=>⟨Ox,en,R,t,en',e,hf,λv H' R' F P o=>h _ _ (k v H' R' F P o)⟩
def HQ:D->Option D
 |.str z=>grd (z.length<4000) (.int (sM (Gk z) z.length).length)
 |_=>none
noncomputable def Iy:D->D->Option D
 |.list ts,.int (-1)=>some (.list ts.reverse)
 |_,_=>none
noncomputable def Ib:D->D->Option D
 |.tuple ts,.int (-1)=>some (.tuple ts.reverse)
 |_,_=>none
def Ic:D->D->Option D
 |.str z,.int (-1)=>grd (z.length<=sizeLine) (.str ⟨z.cps.toList.reverse.toArray⟩)
 |_,_=>none
def HS(fa:MA):MI:=λen=>(fa en).bind λr=>match r.1 with
 |[.inl (.str x),.inl (.str y)]=>some (oO (l4 x) (l4 y),r.2)
 |_=>none
noncomputable def isB:D->D->Option D
 |.bool a,.bool b=>some (.bool (a==b))
 |_,_=>none
end
section
variable{a:Expr}{ta tb:TE}{rest:List Expr}
def IF:D->Option Int->Option Int->Option D
 |.tuple ts,lo,hi=>grd (¬(HT.sIx ts.length 0 lo=0/\HT.sIx ts.length ts.length hi=ts.length)) (.tuple (qj ts lo hi))
 |_,_,_=>none
noncomputable def Hf:D->Option Bool
 |.none=>some false
 |.bool b=>some b
 |.list ts=>some (!ts.isEmpty)
 |.tuple ts=>some (!ts.isEmpty)
 |_=>none
def IE(f g:ME):ME:=λen=>(f en).bind λr=>(Hf r.1).bind λc=>if c then some r else g r.2
end
section
variable{a:Expr}    
def xt(hK:X.K=K)(ha:QE X a (tF K p ds ds1 d f1))(hb:QE X b (tF K p ds1 ds2 d2 f2))(hs:jf b)(hz:d≠0):QE X (.Subscript a b pos) (tF K p ds ds2 (dn d) (e2 ixA f1 f2)):=⟨by
 have hb:=hb.h;subst hK;refine(oH ix_seq ha.h hb hs).imp λσ H Q h=>?_;obtain⟨Ox,en,R,t,en',e,hf,k⟩:=h;unfold e2 at hf;obtain⟨⟨t1,en1⟩,h1,hf⟩:=zaa.mp hf;obtain⟨⟨t2,en2⟩,h2,hf⟩:=zaa.mp hf;obtain⟨t',h3,hf⟩:=zab.mp hf;cases hf;have go:tFA X.K (p&&(p&&true)) ds ds2 [.inl d,.inl d2] (ab f1 (ab f2 ai)) σ H (λvs H2=>∃x y,vs=[x,y]/\((∃(a:Addr) (us:List V) (n:Int) (v:V),x=.ref a/\y=.int n/\(SqL X.K H2 a us\/SqT X.K H2 a us)/\atI us n=some v/\Q v H2)\/(∃(z:Str) (n:Int) (c:Nat),x=.str z/\y=.int n/\z.length<=sizeLine/\atI z.cps.toList n=some c/\Q (.str (mk1 c)) H2))):=by
  refine⟨Ox,en,R,[.inl t1,.inl t2],en2,e,?_,λvs H1 R1 F P o=>?_⟩
  .unfold ab ai;rw[h1];show Option.map _ ((f2 en1).bind _)=_;rw[h2];rfl
  .obtain⟨x,r,d',dr,F1,F2,e1,e2',s1,s2,_,o1,y,r2,d2',dr2,G1,G2,e3,e4,s3,_,_,o2,o3⟩:=o;obtain⟨_,o3⟩:=o3;cases e2';subst e1 e3 o3;cases e4;refine⟨x,y,rfl,?_⟩;have P':Post X.K p ds2 Ox σ H en R en2 H1 R1 F:=by
    rw[zbT,zbk]at P;exact P
   cases t2 with
   |int n=>
    cases(show y=V.int n from o2);cases t1 with
    |list ts=>
     obtain⟨a,vs,rfl,⟨z,_⟩|⟨_,g1,g2,G,hg,g3⟩⟩:=o1
     .exact absurd z hz
     .have h3':atI ts n=some t:=h3;unfold atI at h3';obtain⟨j,hj,hj2⟩:=zaa.mp h3';obtain⟨v,hv,ov⟩:=g3.get hj2;refine .inl ⟨a,vs,n,v,rfl,rfl,.inl (.inl (.inl g1)),?_,?_⟩
      .unfold atI;rw[g3.len,hj];exact hv
      .have sub:∀b,G b->F b:=λb hb=>s1 b (hg b hb).1;exact k v H1 R1 G (P'.less sub) (Ow.grow (λb hb=>hb.imp id λhb=>hb.imp (sub b) id) _ (λ_ z=>z) ov)
    |tuple ts=>
     obtain⟨a,vs,rfl,⟨z,_⟩|⟨_,g1,g2,G,hg,g3⟩⟩:=o1
     .exact absurd z hz
     .have h3':atI ts n=some t:=h3;unfold atI at h3';obtain⟨j,hj,hj2⟩:=zaa.mp h3';obtain⟨v,hv,ov⟩:=g3.get hj2;refine .inl ⟨a,vs,n,v,rfl,rfl,.inr (.inl (.inl g1)),?_,?_⟩
      .unfold atI;rw[g3.len,hj];exact hv
      .have sub:∀b,G b->F b:=λb hb=>s1 b (hg b hb).1;exact k v H1 R1 G (P'.less sub) (Ow.grow (λb hb=>hb.imp id λhb=>hb.imp (sub b) id) _ (λ_ z=>z) ov)
    |str z=>
     dsimp only[ixA]at h3
     by_cases hl:z.length<=sizeLine
     .rw[if_pos hl]at h3;obtain⟨c,h5,h6⟩:=zab.mp h3;cases h6;exact .inr ⟨z,n,c,o1,rfl,hl,h5,k _ H1 R1 NoA (P'.less λ_ z=>z.elim) rfl⟩
     .rw[if_neg hl]at h3;cases h3
    |_=>cases h3
   |_=>cases t1<;>cases h3
 have go2:=jb (ds1:=ds1) (p1:=p) (p2:=p&&true) go;refine ux (λx H1 q1=>?_) go2;have q2:=jb (ds1:=ds2) (p1:=p) (p2:=true) q1;refine ux (λy H2 q3=>?_) q2;obtain⟨x',y',ee,q⟩:=qc q3;cases ee;rcases q with⟨a,us,n,v,rfl,rfl,hs|hs,hv,q⟩|⟨z,n,c,rfl,rfl,hl,hv,q⟩
 .exact .inl ⟨a,us,n,v,rfl,rfl,hs,hv,q⟩
 .exact .inr (.inl ⟨a,us,n,v,rfl,rfl,hs,hv,q⟩)
 .exact .inr (.inr ⟨z,n,c,rfl,rfl,hl,hv,q⟩)⟩
end
end L2
namespace L2
open PySem PySem.Spec PyProof.Rows PySem.SeqAt PySem.MeetsSeq
def IB:D->D->Option D
 |.tuple ts,.int k=>grd (1<=k/\k<=1000/\ts.length<=1000) (.tuple (List.replicate k.toNat ts).flatten)
 |_,_=>none
section
variable{X:Cx}{K:zbV}
def Ih:D->D->Option D
 |.int k,.str z=>grd (z.length<=4000/\1<=k/\k<=4000) (.str (Txt.mul z k))
 |_,_=>none
end
def HY:D->D->Option D
 |.tuple ts,b=>grd (av b=true/\aH ts=true/\bn ts<=60) (.int (ts.countP λt=>peq t b:Nat))
 |_,_=>none
end L2
namespace L2
open PySem PySem.Spec PyProof.Rows HT
def Ir:D->Option Int->Option Int->Option D
 |.tuple ts,lo,hi=>some (.tuple (qj ts lo hi))
 |_,_,_=>none
end L2
namespace L2
open PySem PySem.Spec PyProof.Rows
end L2
namespace L2
open PySem PySem.Spec PyProof.Rows PySem.SeqAt PySem.MeetsSeq
end L2
namespace L2
variable{X:Cx}{K:zbV}{p p1 p2 q:Bool}{ds ds1 ds0 ds2 ds' dsi lk dps:List Nat}{d d' d1 d2 i cd dr n:Nat}{fa:MA}{sh:Sh}{O:AS}{H:Hp}{ts:List D}{vs:List V}{pos ζ:Pos}{k:Option Key}{v e a b c elt tg iter:Expr}{t:D}{fk f f1 f2 fe:ME}{σ:St}{Q:VK}{F:List D->Option (D×En)}{es ifs:List Expr}{c1 c2:MT}{x:Str}{scope:Scope}{ns:List Str}{js:List (Option Nat)}{fi:MI}{g:MG}{J:Jd}{st:Stmt}{m1 m2:MS}{en en1 en2:En}{fl:Fl}
open PySem PySem.Spec PyProof.Rows
section
variable{O1:AS}{H0:Hp}{us:List D}{ws:List V}{a b:Addr}
def HR(fa:MA):MI:=λen=>(fa en).bind λr=>match r.1 with
 |[.inl (.tuple ts),.inl (.tuple us)]=>some (oO ts us,r.2)
 |_=>none
end
def uy(tk tv:TE):TE:=λσ H Q=>∀p,H p=none->ka [(tk,tv)] σ (upd H p (.dT [] λ_=>False)) λps H2=>H2 p=some (.dT [] λ_=>False)/\∃(kk:List (Option Key)) (b:Addr) (y:V),ps=[(.ref b,y)]/\H2 b=some (.tup (kk.map oV))/\Q (.ref p) (upd H2 p (.dT [(kk,y)] λx=>False\/x=b))
def wn{k:Expr}{tk tv:TE}(hu:X.A.units<cLine)(hk:PE X k tk)(hv:PE X v tv):PE X (.Dict [some k] [v] pos) (uy tk tv):=by
 intro ρ s σ H Q I q;have hn:=I.hok.fresh (zav s.heap.objs.size);have I1:=I.laid (a:=s.heap.objs.size) (o:=.dT [] λ_=>False) (h':=s.heap.push { cls:=.type "dict",data:=.dict #[] }) (t':=s.toks) (λ_ _ q=>zaf _ q) (zav _) (qg s.heap I.big);refine wpAny_Dict_any rfl rfl (by simp) (by show 1<=15;decide) (thn (pp (pos:=pos) hk hv qW ρ _ σ _ _ I1 (q _ hn)) λws s2 ⟨ps,H2,I2,rel,e,kk,b,y,ep,eb,q2⟩=>?_);subst ep;cases rel with
 |@cons _ w _ _ rw rr=>
  cases rr;obtain⟨w1,w2⟩:=w;obtain⟨r1,r2⟩:=rw;cases(show w1=Value.ref b from r1);obtain⟨z,hd,xs,rel,dd⟩:=AL I2.hok e;have r0:=rel;cases rel;unfold storeAll;rw[List.forIn_cons];refine zam (zam (wpAny_dictSet_heap (show(tupleKind (bx X.prog X.w)).room X.A from hu) (kh I2.hok eb) dd (λh' dd' hs=>?_) (by decide)));refine zaT (zaT ⟨.ref s.heap.objs.size,_,?_,rfl,q2⟩);obtain⟨o,es,ep,hq,h2,h3,h4,_,h5⟩:=dd';refine lg I2 (by rw[e];exact True.intro) hs ⟨o,hq⟩ ⟨by show 1<=sizeLine;decide,hd,_,(r0.put kk eb r2).keeps λc ys ec=>?_,o,es,ep,hq,h2,h3,h4,h5⟩;rw[au (sL ec e (λz=>nomatch z))];exact ec
def oOf:D->Option (Option Key)
 |.none=>some none
 |t=>(kOf t).map some
def bK:List D->Option (List (Option Key))
 |[]=>some []
 |t::ts=>(oOf t).bind λk=>(bK ts).map (k::·)
def ii(fk fv:ME):ME:=λen=>(fk en).bind λr=>(fv r.2).bind λq=>match r.1 with
 |.tuple ts=>if scaD q.1=true then(bK ts).map λ_=>(.dict [(.none,.none),(.tuple ts,q.1)],q.2)else none
 |_=>none
def uT(h:oOf t=some k):(t=.none/\k=none)\/∃q,kOf t=some q/\k=some q:=by
 cases t with
 |none=>cases h;exact .inl ⟨rfl,rfl⟩
 |int i=>cases h;exact .inr ⟨_,rfl,rfl⟩
 |str x=>cases h;exact .inr ⟨_,rfl,rfl⟩
 |_=>cases h
def Ex(h:oOf t=some k):t=oD k:=by
 rcases uT h with⟨rfl,rfl⟩|⟨q,h1,rfl⟩
 .rfl
 .exact gx h1
theorem uQ:∀{ts:List D} {kk:List (Option Key)},bK ts=some kk->ts=kk.map oD
 |[],_,h=>by cases h;rfl
 |t::ts,_,h=>by
  obtain⟨k,h1,h⟩:=zaa.mp h;obtain⟨kk,h2,rfl⟩:=zab.mp h;rw[Ex h1,uQ h2];rfl
section
variable{k:Expr}{fv:ME}    
def Be{k:Option Key}{v:V}{F:AS}(h:oOf t=some k)(o:Ow K O H t d v F):v=oV k:=by
 rcases uT h with⟨rfl,rfl⟩|⟨q,h1,rfl⟩
 .exact o
 .exact i6 h1 o
theorem fW:∀{ts:List D} {kk:List (Option Key)} {d:Nat} {vs:List V} {F:AS},bK ts=some kk->Ows K O H ts d vs F->vs=kk.map oV
 |[],_,_,_,_,h,o=>by cases h;exact o
 |t::ts,_,_,_,_,h,o=>by
  obtain⟨k,h1,h⟩:=zaa.mp h;obtain⟨kk,h2,rfl⟩:=zab.mp h;obtain⟨v,r,F1,F2,rfl,_,_,_,o1,o2⟩:=o;rw[Be h1 o1,fW h2 o2];rfl
def uO{v:V}{F:AS}(h:scaD t=true)(o:Ow K O H t d v F):v=dV t:=by
 cases t with
 |list ts=>cases h
 |tuple ts=>cases h
 |dict ts=>cases h
 |_=>exact o
def BZ(h:tF K p ds ds 4 (ii fk fv) σ H Q):uy (tF K p ds ds 0 fk) (tF K p ds ds 3 fv) σ H Q:=by
 obtain⟨Ox,en,R,t,en',e,hf,k⟩:=h;unfold ii at hf;obtain⟨⟨t1,en1⟩,h1,hf⟩:=zaa.mp hf;obtain⟨⟨t2,en2⟩,h2,hf⟩:=zaa.mp hf;cases t1 with
 |tuple ts=>
  dsimp only at hf
  by_cases hsc:scaD t2=true
  case neg=>rw[if_neg hsc]at hf;cases hf
  case pos=>
   rw[if_pos hsc]at hf;obtain⟨kk,hk,hf⟩:=zab.mp hf;cases hf;intro l hl0;have n0:=bC (o:=.dT [] λ_=>False) hl0;have P0:Post K true ds Ox σ H en R en (upd H l (.dT [] λ_=>False)) R (λb=>b=l):=Post.new e n0.1 n0.2;refine⟨_,en,R,_,en1,P0.env,h1,λx H1 R1 F1 P1 o1=>?_⟩;refine⟨_,en1,R1,_,en',P1.env0,h2,λy H2 R2 F2 P2 o2=>?_⟩;have P:=P1.after (P2.less (F':=NoA) λ_ z=>z.elim);rw[zbk]at P;have lO:U (λb=>b=l) Ox l:=.inl rfl;have hl2:H2 l=some (.dT [] λ_=>False):=P.keep l _ ao λi z=>by
    obtain⟨o,q⟩:=e.dom l (.inl ⟨i,z⟩);rw[hl0]at q;cases q
   have nl2:∀i,¬R2 i l:=λi z=>P.env.dx i l z (.inr lO);have w1:=Ow.mv (qX P2) (.tuple ts) (λ_ z=>z) (Ow.letgo P1 (λ_ z=>z) o1);obtain⟨q,vs,rfl,fz,ow⟩:=w1.tup0;have ev:=fW hk ow;subst ev;have ey:=uO hsc o2;subst ey;refine⟨hl2,kk,q,dV t2,rfl,fz.1,?_⟩;have PP:=P0.trans P;rw[Bool.true_and]at PP;have eU:U (λb=>b=l) NoA=(λb=>b=l):=dv λa=>⟨λz=>z.elim id λz=>z.elim,.inl⟩;rw[eU]at PP;have keepl:∀a o,H2 a=some o->a≠l->upd H2 l (.dT [(kk,dV t2)] λx=>False\/x=q) a=some o:=λa o q n=>by rw[au n];exact q
   have PF:Post K p ds Ox σ H en R en' (upd H2 l (.dT [(kk,dV t2)] λx=>False\/x=q)) R2 (λb=>b=l):=by
    refine⟨⟨λj u hu=>?_,PP.env.dj,PP.env.dx,λa z=>?_,PP.env.l1,PP.env.l2⟩,PP.fx,λa o q n=>?_,PP.own,λa o q=>?_,λhp=>?_⟩
    .obtain⟨v',d',g1,g2,g3⟩:=PP.env.at_ j u hu;refine⟨v',d',g1,g2,Ow.mv (G:=R2 j) ⟨λa o q z=>keepl a o q λza=>?_,λa z=>.inl z⟩ u (λ_ z=>z) g3⟩;subst za;rcases z with z|z
     .exact z (.inr lO)
     .exact nl2 j z
    .by_cases ha:a=l
     .subst ha;exact⟨_,ao⟩
     .obtain⟨o,q⟩:=PP.env.dom a z;exact⟨o,keepl a o q ha⟩
    .refine keepl a o (PP.keep a o q n) λza=>?_;subst za;rw[hl0]at q;cases q
    .obtain⟨o',q'⟩:=PP.dom a o q;by_cases ha:a=l
     .subst ha;exact⟨_,ao⟩
     .exact⟨o',keepl a o' q' ha⟩
    .obtain⟨b1,b2,b3⟩:=PP.pure hp;refine⟨b1,b2,λa o q=>keepl a o (b3 a o q) λza=>?_⟩;subst za;rw[hl0]at q;cases q
   refine k (.ref l) _ R2 _ PF ⟨l,[],rfl,.inr (.inr (.inr ⟨rfl,rfl,[(kk,t2)],_,(by rw[List.all_cons,hsc];rfl),(by rw[uQ hk];rfl),ao,λb' z=>?_⟩))⟩;have z:=z.resolve_left id;subst z;have nq:b'≠l:=λz=>by
    subst z;cases hl2.symm.trans fz.1
   exact⟨fz.2,_,keepl b' _ fz.1 nq⟩
 |_=>cases hf
def mz(hu:X.A.units+64<cLine)(hk:QE X k (tF K p ds ds 0 fk))(hv:QE X v (tF K p ds ds 3 fv)):QE X (.Dict [some k] [v] pos) (tF K p ds ds 4 (ii fk fv)):=⟨(wn (by lia) hk.h hv.h).imp λ_ _ _=>BZ⟩
end
def qpt{t:TT}(h:QW X e t):QT X e t:=⟨h.h.pt⟩
section
variable{m:MT}    
def i9(B:BlkOkC X scope ns js)(hc:X.calm=true)(hi:QI X tg iter (tFI K p ds ds1 fi))(hg:∀C cl s₀ H₀ fp,QG (aF X scope ns C cl s₀ H₀ fp) tg (tFG K lk dsi dsi g))(ht:∀C cl s₀ H₀ fp,QTs (aF X scope ns C cl s₀ H₀ fp) ifs (tFT K true dsi dsi c1))(he:∀C cl s₀ H₀ fp,QE (aF X scope ns C cl s₀ H₀ fp) elt (tF K true dsi dsi cd f))(hcap:fE ds1 js dsi=true)(hd:dn d=cd)(hz:d≠0)(hlk:lk=ge js 0)(hs:∀x,foldedSetIterable iter X.env x=pure x):QE X (.ListComp elt [⟨tg,iter,ifs,0⟩] scope pos) (tF K p ds ds1 d (eLC true fi g c1 f js)):=⟨GU B hc hi.h (λC cl s₀ H₀ fp=>(hg C cl s₀ H₀ fp).h) (λC cl s₀ H₀ fp=>(ht C cl s₀ H₀ fp).h) (λC cl s₀ H₀ fp=>(he C cl s₀ H₀ fp).h) hcap hd hz hlk hs⟩
def qb(B:BlkOkC X scope ns js)(hc:X.calm=true)(hi:QI X tg iter (tFI K false ds ds1 fi))(hg:∀C cl s₀ H₀ fp,QG (aF X scope ns C cl s₀ H₀ fp) tg (tFG K lk dsi dsi g))(ht:∀C cl s₀ H₀ fp,QTs (aF X scope ns C cl s₀ H₀ fp) ifs (tFT K false dsi dsi c1))(he:∀C cl s₀ H₀ fp,QE (aF X scope ns C cl s₀ H₀ fp) elt (tF K false dsi dsi cd f))(hcap:fE ds1 js dsi=true)(hd:dn d=cd)(hz:d≠0)(hlk:lk=ge js 0)(hs:∀x,foldedSetIterable iter X.env x=pure x):QE X (.ListComp elt [⟨tg,iter,ifs,0⟩] scope pos) (tF K false ds ds1 d (eLC false fi g c1 f js)):=⟨Fz B hc hi.h (λC cl s₀ H₀ fp=>(hg C cl s₀ H₀ fp).h) (λC cl s₀ H₀ fp=>(ht C cl s₀ H₀ fp).h) (λC cl s₀ H₀ fp=>(he C cl s₀ H₀ fp).h) hcap hd hz hlk hs⟩
end
section
variable{rest body bodyB:List Stmt}{px:Pos}{m:MS}{gs:List D->En->Option En} 
def qH{pos':Pos}(hN:X.N.Nodup)(hi':X.N[i]?=some x)(hx:X.env.scope.names.lookup x=some .local)(B:BlkOkC X scope ns js)(hc:X.calm=true)(hi:QI X tg iter (tFI K false ds ds1 fi))(hg:∀C cl s₀ H₀ fp,QG (aF X scope ns C cl s₀ H₀ fp) tg (tFG K lk dsi dsi g))(ht:∀C cl s₀ H₀ fp,QTs (aF X scope ns C cl s₀ H₀ fp) ifs (tFT K q dsi dsi c1))(he:∀C cl s₀ H₀ fp,QE (aF X scope ns C cl s₀ H₀ fp) elt (tF K q dsi dsi cd f))(hds:ds1.set i d=ds')(hcap:fE ds1 js dsi=true)(hd:dn d=cd)(hz:d≠0)(hlk:lk=ge js 0)(hl:i<ds1.length)(hk:i∉J.lk)(hsw:swapsWith (.ListComp elt [⟨tg,iter,ifs,0⟩] scope pos) (some (.Name x pos')) ζ.line X.env=pure true)(hs:∀x,foldedSetIterable iter X.env x=pure x):QS X (.Assign [.Name x pos'] (.ListComp elt [⟨tg,iter,ifs,0⟩] scope pos) ζ) (tFS K J ds ds' (aw i (eLC q fi g c1 f js))):=⟨vq hN hi' hx B hc hi.h (λC cl s₀ H₀ fp=>(hg C cl s₀ H₀ fp).h) (λC cl s₀ H₀ fp=>(ht C cl s₀ H₀ fp).h) (λC cl s₀ H₀ fp=>(he C cl s₀ H₀ fp).h) hds hcap hd hz hlk hl hk hsw hs⟩
def gU{c:Nat}{k:Expr}(hN:X.N[i]?=some x)(hv:Vis X.env.scope x)(he:QE X e (tF K false ds ds1 c fe))(hk:QE X k (tF K false ds1 ds2 d2 fk))(h1:ds2[i]?=some d)(hz:d≠0)(hc:dn d=c)(hdb:(x==("__debug__":Str))=false)(hcd:(x==("__classdict__":Str))=false)(ha:∀v,assign (.Subscript (.Name x px) k ζ) X.env v=(do
   let ov <-holding [v] (eval (.Name x px) X.env)
   let iv <-holding [v,ov] (eval k X.env)
   standAt ζ
   holding [v,ov,iv] (setItem ov iv v)
   release [v,ov,iv] []))(hs:swapsWithSole [.Subscript (.Name x px) k ζ] e pos.line X.env=pure false)(hw:swappedStores [.Subscript (.Name x px) k ζ] e X.env=pure none)(h2:(assignEach [.Subscript (.Name x px) k ζ] X.env).map (·.2)=[assign (.Subscript (.Name x px) k ζ) X.env]):QS X (.Assign [.Subscript (.Name x px) k ζ] e pos) (tFS K J ds ds2 (eK i fk fe)):=⟨xh hN hv he.h hk.h h1 hz hc hdb hcd ha hs hw h2⟩
end
section
variable{m:Nat}{mp:MP}{o:Expr} 
def tz{c:Nat}{k:Expr}(hd:ds2[i]?=some d)(he:QE X e (tF K p ds ds0 c fe))(ho:QE X o (tP K p1 ds0 ds1 i m mp))(hk:QE X k (tF K p2 ds1 ds2 d2 fk))(hz:dns m d≠0)(hc:dn (dns m d)=c)(hpu:p2=true\/m=0)(ha:∀v,assign (.Subscript o k ζ) X.env v=(do
   let ov <-holding [v] (eval o X.env)
   let iv <-holding [v,ov] (eval k X.env)
   standAt ζ
   holding [v,ov,iv] (setItem ov iv v)
   release [v,ov,iv] []))(hs:swapsWithSole [.Subscript o k ζ] e pos.line X.env=pure false)(hw:swappedStores [.Subscript o k ζ] e X.env=pure none)(h2:(assignEach [.Subscript o k ζ] X.env).map (·.2)=[assign (.Subscript o k ζ) X.env]):QS X (.Assign [.Subscript o k ζ] e pos) (tFS K J ds ds2 (jp i mp fk fe)):=⟨xg hd he.h ho.h hk.h hz hc hpu ha hs hw h2⟩
end
def Fun.okQ{P:Program}{w:World}{mg:Str->Option Value}{base:Heap}{qual:Str}{f:Addr}{fd:FuncData}{N ps:List Str}{k:Nat}{b:MS}
  (F:Fun K x qual st f fd) (S:FnScope N ps (ak st)) (hl:dps.length=ps.length) (hn:N.length-dps.length=n) (hJ:J=⟨lQ dps,dps++List.replicate n 0,dr,[]⟩) (hd:ds0=dps++List.replicate n 0)
  (hb:∀(cdv:Value) (A:Around) (outer:List Env) (s:Shared) (H:Hp) (E:XK),Room k (A.deeper (envOfC qual (ak st) s.heap.objs.size f cdv)) ->
   QSs (iV CX0 P w K mg base N qual (ak st) f cdv A outer s H E).nox (be st) (tFS K J ds0 ds0 b)):FnOk P w K mg base CX0 (k+1) f fd ps (spF K dps dr (fnF n dps b)):=by
 subst hJ hd;exact F.ok S (λvs H Q E h=>mY hl h) λcdv A outer s H vs Q E hr h=>⟨_,(hb cdv A outer s H E hr).h,nj hn h⟩
def EN(F:List D->Option (D×En)):Prop:=∀ns:List Int,ns.length<=63->∃ψ,F [.list (ns.map .int)]=some (.bool true,ψ)
noncomputable def lZ(K:zbV):Sp:=λvs H Q _=>∃(a:Addr) (ns:List Int),vs=[.ref a]/\SqL K H a (ns.map V.int)/\ns.length<=63/\∀H':Hp,Q (.bl true) H'
theorem lw{K:zbV}{O:AS}{H:Hp}:∀ns:List Int,Ows K O H (ns.map .int) 0 (ns.map V.int) NoA
 |[]=>rfl
 |n::r=>⟨.int n,r.map V.int,NoA,NoA,rfl,λ_ z=>z,λ_ z=>z,λ_ z=>z.elim,rfl,lw r⟩
def EM(h:EN F){E:XK}(q:lZ K vs H Q E):spF K [0] dr F vs H Q E:=by
 obtain⟨a,ns,rfl,hs,hl,q⟩:=q;obtain⟨ψ,e⟩:=h ns hl;have fz:FzL K (λ_=>False) H a (ns.map V.int):=by
  rcases hs with hs|hs
  .exact .inl ⟨hs,λz=>z⟩
  .exact .inr λH'=>.inr hs
 have eO:Own (λ_=>NoA) NoA=(λ_=>False):=dv λb=>⟨λz=>z.elim (λ⟨_,z⟩=>z) λz=>z,λz=>z.elim⟩;refine⟨NoA,[.list (ns.map .int)],λ_=>NoA,.bool true,ψ,⟨λi t hi=>?_,λ_ _ _ z=>z.elim,λ_ _ z=>z.elim,λb z=>?_,rfl,rfl⟩,e,λv H' R' Fr _ o=>?_⟩
 .cases i with
  |zero=>
   have:t=.list (ns.map .int):=by
    have h2:some (some (PyData.list (ns.map .int)))=some (some t):=hi;injection h2 with h3
    injection h3 with h4
    exact h4.symm
   subst this;refine⟨.ref a,0,rfl,rfl,?_⟩;rw[eO];exact⟨a,ns.map V.int,rfl,.inl ⟨rfl,fz,lw ns⟩⟩
  |succ i=>simp at hi
 .rw[eO]at z;exact z.elim
 .rw[show v=.bl true from o];exact q H'
section
variable{c:MT}{b:MS}  
theorem jk:∀{n m:Nat} {en:En} {fl:Fl},whN c b n en=some fl->n<=m->whN c b m en=some fl
 |0,_,_,_,h,_=>by cases h
 |n+1,0,_,_,_,h=>by lia
 |n+1,m+1,en,fl,h,hm=>by
  unfold whN at h ⊢;obtain⟨r,h1,h⟩:=zaa.mp h;rw[h1];show(if r.1=true then _ else _)=_;by_cases hr:r.1=true
  .rw[if_pos hr]at h ⊢;obtain⟨f1,h2,h⟩:=zaa.mp h;rw[h2];cases f1 with
   |nx e=>exact jk (n:=n) (m:=m) h (by lia)
   |ct e=>exact jk (n:=n) (m:=m) h (by lia)
   |rt t e=>exact h
  .rw[if_neg hr]at h ⊢;exact h
def iw(h:whN c b n en=some fl):cw c b en=some fl:=by
 have q:∃n fl,whN c b n en=some fl:=⟨n,fl,h⟩;unfold cw;rw[dif_pos q];have h2:=q.choose_spec.choose_spec;have h3:=jk h (Nat.le_max_left n q.choose);have h4:=jk h2 (Nat.le_max_right n q.choose);rw[h3]at h4;exact h4.symm
def qv(h:c en=some (false,en1)):cw c b en=some (.nx en1):=by
 refine iw (n:=1) ?_;unfold whN;rw[h];rfl
def qw(h:c en=some (true,en1))(h1:b en1=some (.nx en2))(h2:cw c b en2=some fl):cw c b en=some fl:=by
 obtain⟨n,h3⟩:=iP h2;refine iw (n:=n+1) ?_;unfold whN;rw[h];show(b en1).bind _=_;rw[h1];exact h3
theorem jy{c:MT}{f:ME}{p:D->Bool}{F:D->D}{rest:En}:∀(ts acc:List D) (o:Option D),(∀t∈ts,c (some t::rest)=some (p t,some t::rest))->(∀t∈ts,p t=true->f (some t::rest)=some (F t,some t::rest))->acc.length+ts.length<=sizeLine ->
  ∃o',lcF (gN 0) c f ts acc (o::rest)=some (acc++(ts.filter p).map F,o'::rest)
 |[],acc,o,_,_,_=>⟨o,by simp[lcF]⟩
 |t::ts,acc,o,hc,hf,hl=>by
  have hl':acc.length+(ts.length+1)<=sizeLine:=hl;cases hp:p t with
  |true=>
   obtain⟨o',h⟩:=jy (c:=c) (f:=f) (p:=p) (F:=F) ts (acc++[F t]) (some t) (λx hx=>hc x (zaj _ hx)) (λx hx=>hf x (zaj _ hx)) (by rw[zae];show acc.length+1+_<=_;lia);refine⟨o',?_⟩;unfold lcF;show((c (some t::rest)).bind _)=_;rw[hc t zaq,hp];show((f (some t::rest)).bind _)=_;rw[hf t zaq hp];show(if acc.length<sizeLine then _ else _)=_;rw[if_pos (by lia)]
   dsimp only
   rw[h,zbu hp];simp
  |false=>
   obtain⟨o',h⟩:=jy (c:=c) (f:=f) (p:=p) (F:=F) ts acc (some t) (λx hx=>hc x (zaj _ hx)) (λx hx=>hf x (zaj _ hx)) (by lia);refine⟨o',?_⟩;unfold lcF;show((c (some t::rest)).bind _)=_;rw[hc t zaq,hp];show lcF (gN 0) c f ts acc (some t::rest)=_;rw[h,List.filter_cons_of_neg (by rw[hp];decide)]
def Br{F:D->D}{rest:En}(ts acc:List D)(o:Option D)(hf:∀t∈ts,f (some t::rest)=some (F t,some t::rest))(hl:acc.length+ts.length<=sizeLine):
  ∃o',lcF (gN 0) cY f ts acc (o::rest)=some (acc++ts.map F,o'::rest):=by
 obtain⟨o',h⟩:=jy (c:=cY) (f:=f) (p:=λ_=>true) (F:=F) ts acc o (λ_ _=>rfl) (λt ht _=>hf t ht) hl;rw[List.filter_eq_self.mpr (λ_ _=>rfl)]at h;exact⟨o',h⟩
end
section
variable{c:MT}{b:MS}{t1 t2 u:D}{g:D->D->Option D}{x y:Bool}{as:List (D ⊕ Nat)}{ψ:En} 
def kY:100<=sizeLine:=by rw[sizeLine_eq];decide
end
namespace Pen2
def dI:MS:=(az (k8 [((eC (.str "script")),(ac 0)),((eC (.str "at")),(ac 1)),((eC (.str "left")),(eC (.int 0)))]))
def cP:List D->Option (D×En):=fnF 0 [0,0] dI
def qO:MS:=(aj (aw 2 (e2 bO (e2 cy (e2 br (e2 br (e2 bO (ac 0) (eC (.int 2147483629))) (e2 cy (eC (.int 40503)) (ac 1))) (eC (.int 24691))) (eC (.int 48271))) (eC (.int 2147483647))))
 (aj (aw 3 (e2 bO (e2 br (e2 br (e2 cy (ac 2) (ac 2)) (e2 cy (eC (.int 69621)) (ac 2))) (ac 1)) (eC (.int 2147483629))))
 (az (e2 iA (e2 bO (e2 br (e2 br (e2 cy (ac 3) (ac 3)) (e2 cy (eC (.int 16807)) (ac 3))) (e2 cy (eC (.int 31)) (ac 1))) (eC (.int 1073741789))) (eC (.int 64))))))
def qN:List D->Option (D×En):=fnF 2 [0,0] qO
def uc:MS:=(aj (aw 2 (ko 0 (eC (.str "at"))))
 (aj (aw 3 (ko 0 (eC (.str "script"))))
 (aj (sIf (tV (e2 eqD (ko 0 (eC (.str "left"))) (eC (.int 0)))) (aj (gQ 0 (eC (.str "at")) (e2 br (ac 2) (eC (.int 1))))
 (aj (aw 4 (eC (.int 0)))
 (aj (sIf (tV (e2 gtI (eN bf (ab (ac 3) ai)) (eC (.int 0)))) (aw 4 (e2 ixA (ac 3) (e2 bO (ac 2) (eN bf (ab (ac 3) ai))))) aQ)
 (aj (sIf (bOr (tV (e2 geI (ac 2) (eN bf (ab (ac 3) ai)))) (tV (e2 ltI (eN tT (ab (ac 4) ai)) (e2 mZ (eC (.int 10)) (eC (.int 18)))))) (az (e2 bO (am qN (ab (ac 4) (ab (ac 2) ai))) (ac 1))) aQ)
 (gQ 0 (eC (.str "left")) (eN tT (ab (ac 4) ai))))))) aQ)
 (aj (aw 5 (e2 bO (ko 0 (eC (.str "left"))) (ac 1)))
 (aj (gQ 0 (eC (.str "left")) (e2 iA (ko 0 (eC (.str "left"))) (ac 1)))
 (az (ac 5)))))))
def fK:List D->Option (D×En):=fnF 4 [1,0] uc
end Pen2
end L2
namespace L2
variable{K:zbV}{k dr:Nat}{x:Str}{ps:List Str}{dps:List Nat}
open PySem PySem.Spec PyProof.Rows
def FG(a b:Int):eqD (.int a) (.int b)=some (.bool (a==b)):=by
 show grd _ _=_;unfold grd;rw[if_pos ⟨rfl,rfl,zbj _⟩];simp only[peq]
def EC(a b:Int):neD (.int a) (.int b)=some (.bool (!(a==b))):=by
 show grd _ _=_;unfold grd;rw[if_pos ⟨rfl,rfl,zbj _⟩];simp only[peq]
structure Df(K:zbV)(x:Str)(st:Stmt)(f:Addr):Prop where
 a:PySem.W.nsIn K mainGlobals x=some (some (.ref f))
 l:∃oc od kV dc pm an cd ct sl,K.lookup f=some ⟨oc,od,.func (PySem.W.fnOf x x (b6 st) (be st) (ak st) .none kV dc pm an cd ct),sl⟩/\PySem.W.codeIn K cd x=true
 k:PySem.W.keepIn K (.ref f)=true
section
variable{P:Program}{w:World}{mg:Str->Option Value}{base h:Heap}{f:Addr}{st:Stmt}{sp:Sp}
def Df.mk'{oc:Value}{od an:Option Addr}{sl:Array (Option Value)}{kV dc pm cd ct:Value}(a:PySem.W.nsIn K mainGlobals x=some (some (.ref f)))(l:K.lookup f=some ⟨oc,od,.func (PySem.W.fnOf x x (b6 st) (be st) (ak st) .none kV dc pm an cd ct),sl⟩)(c:PySem.W.codeIn K cd x=true)(k:PySem.W.keepIn K (.ref f)=true):Df K x st f:=
 ⟨a,⟨oc,od,kV,dc,pm,an,cd,ct,sl,l,c⟩,k⟩
def Df.kn(d:Df K x st f)(X:K.In h)(G:h.Ns mainGlobals mg)(b:∀(kV doc pm:Value) (an:Option Addr) (cdv ct:Value) (us:List Value),us.length=ps.length->bindArgs (PySem.W.fnOf x x (b6 st) (be st) (ak st) .none kV doc pm an cdv ct) ⟨us,[]⟩=pure (ps.zip us))
  (ok:∀fd,Fun K x x st f fd->FnOk P w K mg base CX0 k f fd ps sp):Kn P w K mg base k x ps sp:=by
 obtain⟨_,_,_,_,_,_,_,_,_,l,c⟩:=d.l;have F:=pX (st:=st) l c d.k;exact⟨_,_,ok _ F,za8 X G d.a,d.k,F.binds b⟩
end
section
variable{X:Cx}{p:Bool}{ds ds1 ds2 ds':List Nat}{d d1 d2:Nat}{a b e:Expr}{es:List Expr}{f f1 f2:ME}{fa:MA}{sh:Sh}{pos px:Pos}{J:Jd}{F:List D->Option (D×En)}{g:List D->Option D}
abbrev vck(X:Cx)(x:Str)(i:Nat)(n:NameKind):Prop:=(X.N[i]?,X.env.scope.names.lookup x,x==("__debug__":Str),x==("__classdict__":Str))=(some x,some n,false,false)
def fv(i:Nat)(h:vck X x i .local:=by rfl)(h0:ds[i]?=some 0:=by rfl):QE X (.Name x pos) (tF K p ds ds 0 (ac i)):=by
 simp only[vck,za1]at h;exact eZ h.1 (.inl h.2.1) h0 h.2.2.1 h.2.2.2
def fvc(i:Nat)(h:vck X x i .cell:=by rfl)(h0:ds[i]?=some 0:=by rfl):QE X (.Name x pos) (tF K p ds ds 0 (ac i)):=by
 simp only[vck,za1]at h;exact eZ h.1 (.inr (.inl h.2.1)) h0 h.2.2.1 h.2.2.2
def fsl(i:Nat)(hr:QA X es (tFA K p ds ds2 sh fa))(h:vck X x i .local:=by rfl):QA X (.Name x pos::es) (tFA K p ds ds2 (.inr i::sh) (aX i fa)):=by
 simp only[vck,za1]at h;exact mB h.1 (.inl h.2.1) hr h.2.2.1 h.2.2.2
def ig(i:Nat)(hr:QA X es (tFA K p ds ds2 sh fa))(h:vck X x i .cell:=by rfl):QA X (.Name x pos::es) (tFA K p ds ds2 (.inr i::sh) (aX i fa)):=by
 simp only[vck,za1]at h;exact mB h.1 (.inr (.inl h.2.1)) hr h.2.2.1 h.2.2.2
def fs0(h:QE X e (tF K p ds ds' d f)):QE X e (tF K p ds ds' 0 f):=cC h (.zero _)
def frt(he:QE X e (tF K false ds ds1 J.dr f))(hd:leD J.dsr ds1=true:=by rfl):QSs X [.Return (some e) pos] (tFS K J ds ds' (az f)):=aB (vt he hd)
abbrev cck(X:Cx)(x:Str)(e:Expr)(es:List Expr):Prop:=(X.env.kindOf x,x==("__debug__":Str),bg e,es.all bg)=(some .globalImplicit,false,true,true)
def fnn(G:Kn X.prog X.w X.K X.mg X.base k x ps (spF K dps dr F))(hr:Room k X.A)(ha:QA X (e::es) (tFA K p ds ds1 sh fa))(h:cck X x e es:=by rfl)(h2:(cG sh,bL ds1 sh dps)=(true,true):=by rfl):QE X (.Call (.Name x px) (e::es) [] pos) (tF K p ds ds1 dr (am F fa)):=by
 simp only[cck,za1]at h h2;exact BW G hr h.1 ha h2.1 h2.2 h.2.1 h.2.2.1 h.2.2.2
def fns(G:Kn X.prog X.w X.K X.mg X.base k x ps (spF K dps dr F))(hr:Room k X.A)(ha:QA X (e::es) (tFA K false ds ds1 sh fa))(h:cck X x e es:=by rfl)(h2:bL ds1 sh dps=true:=by rfl):QE X (.Call (.Name x px) (e::es) [] pos) (tF K false ds ds1 dr (am F fa)):=by
 simp only[cck,za1]at h;exact xu G hr h.1 ha h2 h.2.1 h.2.2.1 h.2.2.2
def fct{id:String}(hc:CallR X (.type id) (rFn K g d))(hm:X.mg x=none)(hv:bootBuiltins x=some (.type id))(ha:QA X (e::es) (tFA K p ds ds1 sh fa))(h:cck X x e es:=by rfl)(h2:(dq 0 sh,x==("__name__":Str))=(true,false):=by rfl):QE X (.Call (.Name x px) (e::es) [] pos) (tF K p ds ds1 d (eN g fa)):=by
 simp only[cck,za1]at h h2;exact qJ hc h.1 hm hv ha h2.1 (by simpa using h2.2) h.2.1 h.2.2.1 h.2.2.2
def fln(hK:X.K=K)(hm:X.mg "len"=none)(ha:QA X (e::es) (tFA K p ds ds1 sh fa))(h:cck X "len" e es:=by rfl)(h2:dq 0 sh=true:=by rfl):QE X (.Call (.Name "len" px) (e::es) [] pos) (tF K p ds ds1 3 (eN bf fa)):=by
 simp only[cck,za1]at h;exact tK (Fv hK) h.1 hm (by decide +kernel) ha h2 (by decide) h.2.1 h.2.2.1 h.2.2.2
def fte(hK:X.K=K)(hu:X.A.units+64<cLine)(ha:QE X a (tF K p ds ds1 d1 f1))(hb:QE X b (tF K p ds1 ds2 d2 f2)):QT X (.Compare a [.Eq] [b] pos) (tFT K p ds ds2 (tV (e2 eqD f1 f2))):=aI (mx hK hu) ha hb (aM _)
def ftn(hK:X.K=K)(hu:X.A.units+64<cLine)(ha:QE X a (tF K p ds ds1 d1 f1))(hb:QE X b (tF K p ds1 ds2 d2 f2)):QT X (.Compare a [.NotEq] [b] pos) (tFT K p ds ds2 (tV (e2 neD f1 f2))):=aI (GR hK hu) ha hb (aM _)
def fxi{n:Int}{j:Nat}{q:Pos}(hK:X.K=K)(ha:QE X a (tF K p ds ds1 d1 f1)):QE X (.Subscript a (.Constant (.int n) j q) pos) (tF K p ds ds1 0 (e2 ixA f1 (eC (.int n)))):=bd (ck hK) ha ah λ_ _=>rfl
def aN(i:Nat)(ds':List Nat){pos':Pos}(hN:X.N.Nodup)(he:QE X e (tF K false ds ds1 d f))(h:(X.N[i]?,X.env.scope.names.lookup x,X.fn x)=(some x,some .local,true):=by rfl)(h2:(ds1.set i d,decide (i<ds1.length),J.lk.contains i)=(ds',true,false):=by rfl)(hs:swapsWith e (some (.Name x pos')) pos.line X.env=pure false:=by rfl):QS X (.Assign [.Name x pos'] e pos) (tFS K J ds ds' (aw i f)):=by
 simp only[za1,decide_eq_true_eq]at h h2;exact iy hN h.1 (.inl h.2.1) he h2.1 h2.2.1 (by simpa using h2.2.2) hs (.inl h.2.2)
end
abbrev MX:=En->Option Unit
abbrev MN:=En->Option Str
end L2
namespace L2
open PySem PySem.Spec PyProof.Rows Builtin Builtin.ObjectAttr Builtin.Getset_descriptor
end L2
namespace L2
open PySem PySem.Spec PyProof.Rows
def ER{P:Program}{w:World}{k:Key}{v:Value}(h:(bh P w).is k v=true):RelV (kV k) v:=by
 rcases aY h with⟨i,t,e1,e2⟩|⟨x,t,e1,e2⟩
 .have e:k=Sum.inl i:=e1;rw[e,e2];exact⟨t,rfl⟩
 .have e:k=Sum.inr x:=e1;rw[e,e2];exact⟨t,rfl⟩
end L2
namespace L2
open PySem PySem.Spec PyProof.Rows Builtin
noncomputable def Hn:List Int->Bool
 |[]=>true
 |x::r=>go x r true || go x r false
where go (x:Int):List Int->Bool->Bool
 |[],_=>true
 |y::r,true=>decide (x<=y)&&go y r true
 |y::r,false=>decide (y<x)&&go y r false
def AR(ns:List Int):Prop:=ns.length<64\/(Hn ns=true/\ns.length<=5000)
instance (ns:List Int):Decidable (AR ns):=by unfold AR;exact inferInstance
end L2
namespace PySem
end PySem
namespace L2
open PySem PySem.Spec PyProof.Rows
end L2
namespace L2
open PySem PySem.Spec PyProof.Rows Builtin
end L2
namespace L2
open PySem PySem.Spec PyProof.Rows PySem.Calls
def uV:typeLookup (.type "list_reverseiterator") "__len__"=pure none:=by rw[typeLookup_type,builtinLookup_eq_fast];kernel_rfl
def wG:typeLookup (.type "list_reverseiterator") "__length_hint__"=pure (some (.builtin "list_reverseiterator.__length_hint__")):=by rw[typeLookup_type,builtinLookup_eq_fast];kernel_rfl
section
variable{prog:Program}{w:World}{A:Around}{E:Value->Shared->Prop}{s:Shared}
def wY{r:Addr}{Q:Bool->Shared->Prop}(hT:s.TypeIs (.ref r) "list_reverseiterator")(h:Q false s):wpAny (model prog w) A (Builtin.List.listLengthHint (.ref r)) Q E s:=by
 unfold Builtin.List.listLengthHint;refine zam (wpAny_specialOf hT uV ?_);show wpAny _ A (specialOf (Value.ref r) (Str.ofString "__length_hint__") >>= _) _ _ _;refine zam (wpAny_specialOf hT wG ?_);generalize hid:("list_reverseiterator.__length_hint__":String)=id0
 wp_delta
 rw[show splitId id0=some ("list_reverseiterator","__length_hint__")from by subst hid;decide +kernel];subst hid;refine zam (wpAny_isInstance (b:=true) hT (by rw[isSubtype_type];kernel_rfl) ?_);exact zaT h
def wI{I l:Addr}{items:Array Value}{Q:Value->Shared->Prop}(hh:A.handled=none)(hne:l≠I)(h0:s.heap.IsRevIter I l ((items.size:Int)-1))(hl:s.heap.IsList l items)(hn:items.size<=sizeLine)
  (hQ:∀h' tk acc c',(∀b o,b≠I->s.heap.get? b=some o->h'.get? b=some o)->h'.get? s.heap.objs.size=some { cls:=.type "list",dict:=none,data:=.seq acc c',slots:=#[] }->ItemsOf (λi v=>items[items.size-1-i]?=some v) acc items.size->Q (.ref s.heap.objs.size) { s with heap:=h',toks:=tk }):
  wpAny (model prog w) A (call (.type "list") [.ref I]) Q E s:=by
 refine callType_codes (Q₁:=λobj s₁=>obj=.ref s.heap.objs.size/\s₁={ s with heap:=s.heap.push { cls:=.type "list",data:=.seq #[] } }) PySem.F.called_list (PySem.F.typeCall_list_1 _) PySem.F.entry_list_init
  (code_list_new _ ⟨rfl,rfl⟩) λobj s₁ h₁=>?_
 obtain⟨rfl,rfl⟩:=h₁;obtain⟨S,eS⟩:∃S,S=s.heap.objs.size:=⟨_,rfl⟩;rw[<-eS]at hQ ⊢;have hS:(s.heap.push { cls:=.type "list",data:=.seq #[] }).get? S=some { cls:=.type "list",data:=.seq #[] }:=by rw[eS];exact zan _ rfl
 have lI:S≠I:=by
  obtain⟨o,ho,_⟩:=id h0;rw[eS];exact Nat.ne_of_gt (zal ho)
 have lL:S≠l:=by
  obtain⟨o,ho,_⟩:=id hl;rw[eS];exact Nat.ne_of_gt (zal ho)
 have hSf:S∉[I,l]:=by simp only[zay,zap,or_false,not_or];exact⟨lI,lL⟩
 refine⟨⟨_,hS,rfl⟩,PySem.F.args_list_init_2 _ _,?_⟩;have h0':=h0.at (h':=s.heap.push { cls:=.type "list",data:=.seq #[] }) λo e=>zaf _ e;have hl':=hl.at (h':=s.heap.push { cls:=.type "list",data:=.seq #[] }) λo e=>zaf _ e;show wpAny _ _ (Builtin.List.listItems (.ref S) >>= λold=>Builtin.List.listUpdate (.ref S) (λ_=>#[]) >>= λ_=>letGo old.toList.reverse >>= λ_=>Builtin.List.listExtendWith (.ref S) (.ref I) .none) _ _ _;refine zam (listItems_at hS rfl (zam (listUpdate_at hS rfl (zam (wpAny_letGo ?_)))));have hS₂:=Heap.get?_update_self (Obj.mapSeq (λ_=>(#[]:Array Value))) hS rfl;have oth:∀b o,b≠S->s.heap.get? b=some o->((s.heap.push { cls:=.type "list",data:=.seq #[] }).update S (Obj.mapSeq λ_=>(#[]:Array Value))).get? b=some o:=λb o hb e=>(zbz _ _ (Ne.symm hb)).trans (zaf _ e);have hI2:=h0.at (h':=(s.heap.push { cls:=.type "list",data:=.seq #[] }).update S (Obj.mapSeq λ_=>(#[]:Array Value))) λo e=>oth I o (Ne.symm lI) e;have hl2:=hl.at (h':=(s.heap.push { cls:=.type "list",data:=.seq #[] }).update S (Obj.mapSeq λ_=>(#[]:Array Value))) λo e=>oth l o (Ne.symm lL) e;have W:=Walks.listRev (prog:=prog) (w:=w) (A:=A.in1.in1) hh I l hne items;unfold Builtin.List.listExtendWith;refine zam (wpAny_typeOf hI2.typeIs ?_);have q1:Builtin.List.listSameRef (.ref S) (.ref I)=false:=by simp[Builtin.List.listSameRef,lI]
 have q2:(Value.type "list_reverseiterator"==Value.type "list")=false:=by decide
 have q3:(Value.type "list_reverseiterator"==Value.type "tuple")=false:=by decide
 simp only[q1,q2,q3,Bool.or_false,Bool.false_eq_true,if_false];refine zam (wpAny_pyIter_revIter hI2 (zam (zbR (wY hI2.typeIs ?_))));rw[if_neg (by decide)];refine zaT ⟨plainId_quiet PySem.F.plain_extend_loop _,codeAny_extend_loopS W.toS hn S hSf .none items.size 0 _ #[] _ rfl (zbj _) ⟨zbj _,by simpa using hI2,hl2⟩ hS₂ (ItemsOf.nil _) λs' acc c' hm hS' hacc=>?_⟩;rw[Moved.eq_with hm];refine⟨rfl,hQ s'.heap s'.toks acc c' (λb o hb e=>?_) hS' hacc⟩;have bS:b≠S:=by
  rw[eS];exact zaw (zal e)
 exact hm.heap b o (λz=>by
  rcases zay.mp z with z|z
  .exact bS z
  .exact hb (zaH.mp z)) (oth b o bS e)
end
end L2
namespace L2
variable{X:Cx}{e tg:Expr}{p1 p2 q1 pos:Pos}{K:zbV}{p:Bool}{ds ds1:List Nat}{σ:St}{H H':Hp}{Q:VK}{O O' F:AS}{t:D}{d d' ep i:Nat}{v:V}{f:ME}{a:Addr}{u:HO}{ks:List (D×D)}{vs:List (Key×V)}
open PySem PySem.Spec PyProof.Rows
def D2(K:zbV)(ta:TA):TE:=λσ H Q=>ta σ H λvs H1=>∃a xs,vs=[.ref a]/\SqL K H1 a xs/\∀l,H1 l=none->Q (.ref l) (upd H1 l (.lst xs.reverse))
def A8{ta:TA}(hc:X.calm=true)(hgl:Gl X "list")(hml:X.mg "list"=none)(hg:Gl X "reversed")(hm:X.mg "reversed"=none)(ha:PA X [e] ta)(hs:starEach [e] X.env=[(false,eval e X.env)]:=by rfl):
  PE X (.Call (.Name "list" p1) [.Call (.Name "reversed" p2) [e] [] q1] [] pos) (D2 X.K ta):=by
 intro ρ s σ H Q I h;refine wpAny_Call_Name_kw (ie I hgl hml (show bootBuiltins "list"=some (.type "list")by decide +kernel) (PyProof.Rows.callWith_type1 ?_ rfl rfl) (by decide) (by decide));show wpAny _ _ (spliced ((false,eval (.Call (.Name "reversed" p2) [e] [] q1) X.env)::backTo pos (starEach [] X.env))) _ _ s;refine Calls.spliced_cons (Call_ (ie I hg hm (show bootBuiltins "reversed"=some (.type "reversed")by decide +kernel) (PyProof.Rows.callWith_type1 (thn (ha q1 ρ s σ H _ I h) λus s1 ⟨vs,H1,I1,r1,q1⟩=>?_) hs rfl)));obtain⟨a,xs,e,sq,q⟩:=q1;subst e;cases r1 with
 |cons r rr=>
  cases rr;cases r;obtain⟨its,rv,pl,hz⟩:=I1.list sq;refine call_reversed_list pl.isList (Calls.spliced_nil ?_);have la:a<s1.heap.objs.size:=by
   obtain⟨o,ho,_⟩:=pl.isList;exact zal ho
  have hl:its.length=xs.length:=rv.length.symm;refine wI (I:=s1.heap.objs.size) (l:=a) (items:=its.toArray) (I1.ok.hd hc) (zaw la) ⟨_,zan _ rfl,rfl,rfl⟩ (pl.isList.at λo e=>zaf _ e) (by rw[zai,hl];exact hz) λh' tk acc c' hk ho hi=>?_;have rv':Vals xs.reverse acc.toList:=iL (by
   have h1:=hi.1;have h2:its.toArray.size=its.length:=zai ..;have h3:acc.toList.length=acc.size:=zaY;rw[List.length_reverse]
   lia) λi x v e1 e2=>by
   have hv:=hi.2 i v (by simpa using e2);rw[zai,List.getElem?_toArray]at hv;have hix:i<xs.length:=by
    have:=(zah.mp e1).1
    rwa[List.length_reverse]at this
   rw[List.getElem?_reverse hix]at e1;rw[hl]at hv;obtain⟨u,hu,ru⟩:=rv.get e1;rw[hu]at hv;cases hv;exact ru
  have hk':∀b o,s1.heap.get? b=some o->h'.get? b=some o:=λb o e=>hk b o (zaw (zal e)) (zaf _ e);have ea:(s1.heap.push (revObj a ((its.toArray.size:Int)-1))).objs.size=s1.heap.objs.size+1:=size_push' ..;have hp:H1 (s1.heap.objs.size+1)=none:=I1.hok.fresh (Nat.le_succ _);rw[ea]at ho ⊢;exact⟨.ref _,_,I1.laid (a:=s1.heap.objs.size+1) (o:=.lst xs.reverse) (t':=tk) hk' (Nat.le_succ _) ⟨by rw[List.length_reverse];exact hz,acc.toList,c',rv',by simpa using ho⟩,rfl,q _ hp⟩
noncomputable def oI:List D->Option D
 |[.list ts]=>some (.list ts.reverse)
 |_=>none
section
variable{sh:List (Nat ⊕ Nat)}{fa:MA}  
def FB(hs:dq 0 sh=true)(h:tF K p ds ds1 1 (eN oI fa) σ H Q):D2 K (tFA K p ds ds1 sh fa) σ H Q:=by
 obtain⟨Ox,en,R,as,en1,e,h1,k⟩:=qf hs h;refine⟨Ox,en,R,as,en1,e,h1,λvs H1 R1 F P o=>?_⟩;obtain⟨O,ts,t,oa,hd,hg,k2⟩:=k vs H1 R1 F P o
 match ts,hg with
 |[.list ts],hg=>
  cases hg;obtain⟨v,rfl,ov⟩:=oa.one;obtain⟨a,vs,rfl,fz,w⟩:=ov.lst0;refine⟨a,vs,rfl,fz.sq,λl hl=>?_⟩;exact k2 _ _ _ (db hl hd w.rev).1 (db hl hd w.rev).2
def vB(hK:X.K=K)(hc:X.calm=true)(hgl:Gl X "list")(hml:X.mg "list"=none)(hg:Gl X "reversed")(hm:X.mg "reversed"=none)(ha:QA X [e] (tFA K p ds ds1 sh fa))(hsh:dq 0 sh=true)(hs:bg e=true):
  QE X (.Call (.Name "list" p1) [.Call (.Name "reversed" p2) [e] [] q1] [] pos) (tF K p ds ds1 1 (eN oI fa)):=by
 subst hK;exact⟨(A8 hc hgl hml hg hm ha.h (a5 hs)).imp λ_ _ _=>FB hsh⟩
end
def eS3(f:ME):ME:=λen=>(f en).bind λr=>if scaD r.1=true then some r else none
def Ow.scaD{F':AS}(hs:L2.scaD t=true)(h:Ow K O H t d v F):Ow K O' H' t d' v F':=by
 cases t<;>first|exact h|cases hs
def HB(h:tF K p ds ds1 3 (eS3 f) σ H Q):tF K p ds ds1 d f σ H Q:=by
 obtain⟨Ox,en,R,t,en',e,hf,k⟩:=h;unfold eS3 at hf;obtain⟨⟨t1,en1⟩,h1,hf⟩:=zaa.mp hf;by_cases hs:scaD t1=true
 .dsimp only at hf
  rw[if_pos hs]at hf;cases hf;exact⟨Ox,en,R,_,_,e,h1,λv H' R' F P o=>k v H' R' F P (o.scaD hs)⟩
 .dsimp only at hf
  rw[if_neg hs]at hf;cases hf
def BU(h:QE X e (tF K p ds ds1 d f)):QE X e (tF K p ds ds1 3 (eS3 f)):=⟨h.h.imp λ_ _ _=>HB⟩
def Gh(o:Obj)(ep:Nat):Prop:=∃es,o.data=.dict es ep
def FzD(H:Hp)(d:Addr)(kvs:List (Key×V))(ep:Nat):Prop:=∃o,H d=some (.frz o (.dK kvs))/\Gh o ep
def Itk(d:Addr)(kvs:List (Key×V))(ep:Nat):It:=
 ⟨λi H=>FzD H d kvs ep/\i<kvs.length,λi H x H'=>H'=H/\∃kv,kvs[i]?=some kv/\x=kV kv.1,λi H=>FzD H d kvs ep/\kvs.length<=i⟩
section
variable{ρ:List (Addr×Obj)}{s:Shared}{kvs:List (Key×V)} 
def pY(I:Inv X ρ σ H s)(h:FzD H a kvs ep):(a==sysModules)=false/\∃vs,KV kvs vs/\s.heap.DictAt (bh X.prog X.w) a vs ep:=by
 obtain⟨o,h1,es0,h2⟩:=h;obtain⟨g1,_,hd,vs,rel,o',es,ep',g2,g3,g4,g5⟩:=(show ObjOk X.prog X.w H s.heap a (.frz o (.dK kvs))from I.hok a _ h1);rw[g1]at g2;cases g2;have e:=g4.symm.trans h2;injection e with e1 e2
 subst e2;exact⟨hd,vs,rel,o,es,g1,g3,g4,g5⟩
def Inv.freeze(I:Inv X ρ σ H s)(e:H a=some (.dK kvs)):∃o ep,Gh o ep/\Inv X ρ σ (upd H a (.frz o (.dK kvs))) s:=by
 obtain⟨z,hd,vs,rel,o,es,ep,g1,g2,g3,g4⟩:=tO I.hok e;refine⟨o,ep,⟨es,g3⟩,?_⟩;exact I.write (x:=a) (e:=a) (h':=s.heap) (t':=s.toks) (by rw[e];exact True.intro) (.inl rfl) (λb u _ q=>q) ⟨o,g1⟩ ⟨g1,z,hd,vs,rel,o,es,ep,g1,g2,g3,g4⟩
def GK{vs:List (Key×Value)}(rel:KV kvs vs)(hi:i<kvs.length):∃kv v,kvs[i]?=some kv/\vs[i]?=some (kv.1,v)/\RelV kv.2 v:=by
 induction rel generalizing i with
 |nil=>simp at hi
 |@cons p q r t hpq hr ih=>
  cases i with
  |zero=>exact⟨p,q.2,rfl,by rw[hpq.1];rfl,hpq.2⟩
  |succ j=>exact ih (by simpa using hi)
def ur{P:Program}{w:World}(d it:Addr)(kvs:List (Key×V))(ep:Nat):Turn P w K tg (Itk d kvs ep) [it] it (λi h=>h.IsKeyIter it d i kvs.length ep) where
 mem:=by simp
 obj:=λi h st b hb=>by
  have e:b=it:=by simpa using hb
  subst e;obtain⟨o,e,c,d⟩:=st;exact⟨o,e,λv z=>by rw[d]at z;cases z⟩
 keep:=λi h h' st k=>st.at λo e=>k it (by simp) o e
 item:=by
  intro X hP hw hK hc i ρ s σ H E I hf st hg;subst hP hw hK;obtain⟨fz,hi⟩:=hg;obtain⟨hd,vs,rel,dd⟩:=pY I fz;obtain⟨f0,f1,f2,f3,f4,f5⟩:=hf it (by simp);have hl:kvs.length=vs.length:=rel.length;obtain⟨kv,x,hkv,hx,_⟩:=GK rel hi;rw[hl]at st;refine wpAny_pyNext_dict_item st dd hx λkey h' hkey hit' hs'=>?_;have I1:Inv X ρ σ H { s with heap:=h' }:=I.turned (t':=s.toks) (λb o hb e=>hs'.extBut b o hb e) f0 f1 f3 f4 f5;obtain⟨o',e',c',d'⟩:=id hit';exact⟨key,rfl,mq (s:={ s with heap:=h' }) e' c' d' (by decide) ⟨kV kv.1,H,I1,ER hkey,⟨rfl,kv,hkv,rfl⟩,(by rw[hl];exact hit'),λb hb=>(hf b hb).1⟩⟩
 done:=by
  intro X hP hw hK hc i ρ s σ H E I hf st hg;subst hP hw hK;obtain⟨fz,hi⟩:=hg;obtain⟨hd,vs,rel,dd⟩:=pY I fz;obtain⟨f0,f1,f2,f3,f4,f5⟩:=hf it (by simp);have hl:kvs.length=vs.length:=rel.length;rw[hl]at st;exact wpAny_pyNext_dict_end (I.ok.hd hc) st dd (zbl (by lia)) λh' eb=>⟨rfl,I.turned (t':=s.toks) (λb o hb e=>eb b o hb e) f0 f1 f3 f4 f5⟩
 self:=λ_ _ _ _ _ st h=>wpAny_pyIter_keyiter st h
end
section
variable{l:Addr}{w0:HO}{ob:Obj}
def Dty:HO->Prop
 |.dK _=>True
 |.dT _ _=>True
 |_=>False
def Dty.ne{w:HO}(hw:Dty w)(hu:¬Dty u):u≠w:=λz=>hu (z▸hw)
def pi(hl:H l=some w0)(hw:Dty w0)(h:Rd H a u):Rd (upd H l (.frz ob w0)) a u:=by
 by_cases e:a=l
 .subst e;rcases h with h|⟨o,h⟩
  .rw[hl]at h;cases h;exact .inr ⟨ob,ao⟩
  .rw[hl]at h;cases h;exact hw.elim
 .exact h.mv λo q=>by rw[au e];exact q
def ia(hl:H l=some w0)(h:H a=some u)(n:u≠w0):upd H l (.frz ob w0) a=some u:=by
 rw[au λe=>?_]
 .exact h
 .subst e;rw[hl]at h;cases h;exact n rfl
mutual
theorem Ow.frzd(hl:H l=some w0)(hw:Dty w0):∀(t:D) {d:Nat} {v:V} {F:AS},¬F l->Ow K O H t d v F->Ow K O (upd H l (.frz ob w0)) t d v F
 |.none,_,_,_,_,h=>h
 |.bool _,_,_,_,_,h=>h
 |.int _,_,_,_,_,h=>h
 |.str _,_,_,_,_,h=>h
 |.tuple ts,_,_,_,g,h=>by
  obtain⟨a,vs,e,⟨h0,h1,h2⟩|⟨h0,h1,h2,F',hf,h3⟩⟩:=h
  .exact⟨a,vs,e,.inl ⟨h0,⟨ia hl h1.1 (hw.ne id),h1.2⟩,Ows.frzd hl hw ts g h2⟩⟩
  .exact⟨a,vs,e,.inr ⟨h0,ia hl h1 (hw.ne id),h2,F',hf,Ows.frzd hl hw ts (λz=>g (hf _ z).1) h3⟩⟩
 |.list ts,_,_,_,g,h=>by
  obtain⟨a,vs,e,⟨h0,h1,h2⟩|⟨h0,h1,h2,F',hf,h3⟩⟩:=h
  .exact⟨a,vs,e,.inl ⟨h0,h1.imp (λh=>⟨pi hl hw h.1,h.2⟩) id,Ows.frzd hl hw ts g h2⟩⟩
  .exact⟨a,vs,e,.inr ⟨h0,ia hl h1 (hw.ne id),h2,F',hf,Ows.frzd hl hw ts (λz=>g (hf _ z).1) h3⟩⟩
 |.dict ks,_,_,_,g,h=>by
  obtain⟨a,vs,e,⟨h0,h1,hn,h2⟩|⟨h0,h1,h2,F',hf,h3⟩|⟨h0,ht⟩|⟨h0,h1,hp⟩⟩:=h
  .exact⟨a,vs,e,.inl ⟨h0,pi hl hw h1,hn,Owd.frzd hl hw ks g h2⟩⟩
  .refine⟨a,vs,e,.inr (.inl ⟨h0,?_,h2,F',hf,Owd.frzd hl hw ks (λz=>g (hf _ z).1) h3⟩)⟩;have na:a≠l:=λz=>g (by rw[<-z];exact h2);rw[au na];exact h1
  .refine⟨a,vs,e,.inr (.inr (.inl ⟨h0,?_⟩))⟩;rcases ht with⟨hp,h3⟩|⟨x,C,h1,h0',h2,h3⟩|⟨h1,⟨fo,fd,h2,h0'⟩,h3⟩
   .exact .inl ⟨hp.toT (λ_ _ r=>pi hl hw r) λ_ _ r=>ia hl r (hw.ne id),h3⟩
   .exact .inr (.inl ⟨x,C,h1,h0',ia hl h2 (hw.ne id),h3⟩)
   .exact .inr (.inr ⟨h1,⟨fo,fd,ia hl h2 (hw.ne id),h0'⟩,h3⟩)
  .exact⟨a,vs,e,.inr (.inr (.inr ⟨h0,h1,hp.toT (λ_ _ r=>by rw[au λz=>g (by rw[<-z];exact h1)];exact r) λ_ _ r=>ia hl r (hw.ne id)⟩))⟩
theorem Ows.frzd(hl:H l=some w0)(hw:Dty w0):∀(ts:List D) {d:Nat} {vs:List V} {F:AS},¬F l->Ows K O H ts d vs F->Ows K O (upd H l (.frz ob w0)) ts d vs F
 |[],_,_,_,_,h=>h
 |t::ts,_,_,_,g,h=>by
  obtain⟨v,r,F1,F2,e,h1,h2,h3,h4,h5⟩:=h;exact⟨v,r,F1,F2,e,h1,h2,h3,Ow.frzd hl hw t (λz=>g (h1 _ z)) h4,Ows.frzd hl hw ts (λz=>g (h2 _ z)) h5⟩
theorem Owd.frzd(hl:H l=some w0)(hw:Dty w0):∀(ts:List (D×D)) {d:Nat} {vs:List (Key×V)} {F:AS},¬F l->Owd K O H ts d vs F->Owd K O (upd H l (.frz ob w0)) ts d vs F
 |[],_,_,_,_,h=>h
 | (k,t)::ts,_,_,_,g,h=>by
  obtain⟨q,v,r,F1,F2,e,e2,h1,h2,h3,h4,h5⟩:=h;exact⟨q,v,r,F1,F2,e,e2,h1,h2,h3,Ow.frzd hl hw t (λz=>g (h1 _ z)) h4,Owd.frzd hl hw ts (λz=>g (h2 _ z)) h5⟩
end
def Owd.get{k:D}(h:Owd K O H ks 0 vs NoA)(hi:ks[i]?=some (k,t)):∃q v,vs[i]?=some (q,v)/\k=kD q/\Ow K O H t 0 v NoA:=by
 induction ks generalizing vs i with
 |nil=>simp at hi
 |cons p ks ih=>
  obtain⟨k',t'⟩:=p;obtain⟨q,v,r,F1,F2,e,e2,h1,h2,h3,h4,h5⟩:=h;subst e;cases i with
  |zero=>
   cases hi;exact⟨q,v,rfl,e2,Ow.any0 _ h4⟩
  |succ j=>
   obtain⟨q',v',g1,g2,g3⟩:=ih (vs:=r) (i:=j) (Owd.any0 ks h5) (by simpa using hi);exact⟨q',v',by simpa using g1,g2,g3⟩
end
noncomputable def kys(ks:List (D×D)):List D:=ks.map λq=>q.1
theorem l8{K:zbV}{O:AS}{H:Hp}:∀{ks:List (D×D)} {vs:List (Key×V)} {d:Nat} {F:AS},Owd K O H ks d vs F->vs.length=ks.length
 |[],_,_,_,h=>by rw[show _=[]from h];rfl
 | (k,t)::ks,_,_,_,h=>by
  obtain⟨q,v,r,F1,F2,e,_,_,_,_,_,h5⟩:=h;rw[e,zac,zac,l8 h5]
def ui(hf:FzD H a vs ep)(hn:¬O a)(ow:Owd K O H ks 0 vs NoA):jN K O H (Itk a vs ep) (kys ks):=λi H1 O1 h1 h2 h3=>by
 have fz:FzD H1 a vs ep:=let⟨o,e,q⟩:=hf;⟨o,h1 a _ e hn,q⟩;have hl:=l8 ow;refine⟨λt ht=>?_,λhl2=>⟨fz,by unfold kys at hl2;rw[zad]at hl2;lia⟩⟩;unfold kys at ht;rw[zao]at ht;obtain⟨⟨k,u⟩,h4,rfl⟩:=zab.mp ht;obtain⟨q,v,h5,rfl,_⟩:=ow.get h4;refine⟨⟨fz,(zah.mp h5).1⟩,λx H2 ⟨e,kv,h6,h7⟩=>?_⟩;rw[h5]at h6;cases h6;subst e h7;refine⟨λ_ _ q=>q,?_⟩;cases q<;>exact rfl
def iDk(kp:Bool)(i:Nat):MI:=λen=>match (en[i]?).join with
 |some (.dict ks)=>some (kys ks,if kp then en else en.set i none)
 |_=>none
section
variable{Ox:AS}{en:En}{R:Nat->AS} 
def wg(e:EnvOk K ds Ox H σ en R)(g0:en[i]?=some (some (.dict ks)))(hi:ds[i]?=some d)(hd:d≠0/\d≠4)(kp:Bool)(h1:(if kp then ds.set i 0 else ds)=ds1):
  ∃a vs,σ[i]?=some (some (.ref a))/\H a=some (.dK vs)/\∀ob,Post K false ds1 Ox σ H en R (if kp then en else en.set i none) (upd H a (.frz ob (.dK vs))) (λs b=>s≠i/\R s b) NoA/\¬Own (λs b=>s≠i/\R s b) Ox a/\Owd K (Own (λs b=>s≠i/\R s b) Ox) (upd H a (.frz ob (.dK vs))) ks 0 vs NoA:=by
 obtain⟨v,d0,a1,a2,a3⟩:=e.at_ i _ g0;rw[hi]at a2;cases a2;obtain⟨a,vs,rfl,ha,Fa,F',hF,ow⟩:=a3.dict1 hd;have sub:∀b,Own (λs b=>s≠i/\R s b) Ox b->Own R Ox b:=λb z=>z.imp (λ⟨s,z⟩=>⟨s,z.2⟩) id;have nR:∀b,R i b->¬Own (λs b=>s≠i/\R s b) Ox b:=λb z z2=>by
  rcases z2 with⟨s,z2⟩|z2
  .exact z2.1 (e.dj s i b z2.2 z)
  .exact e.dx i b z z2
 refine⟨a,vs,a1,ha,λob=>?_⟩;have dm:∀b o,H b=some o->∃o',upd H a (.frz ob (.dK vs)) b=some o':=λb o q=>by
  by_cases z:b=a
  .subst z;exact⟨_,ao⟩
  .exact⟨o,by rw[au z];exact q⟩
 have oi:Ow K (Own (λs b=>s≠i/\R s b) Ox) H (.dict ks) 0 (.ref a) NoA:=Ow.fz sub nR a3;have oi2:=Ow.frzd (ob:=ob) ha trivial (.dict ks) (λz=>z) oi;have ow2:Owd K (Own (λs b=>s≠i/\R s b) Ox) (upd H a (.frz ob (.dK vs))) ks 0 vs NoA:=by
  obtain⟨p,ws,ep,⟨_,q1,_,q2⟩|⟨z,_⟩|⟨_,⟨⟨_,_,_,_,q1,_⟩,_⟩|⟨_,_,_,_,q1,_⟩|⟨_,⟨_,_,q1,_⟩,_⟩⟩|⟨z,_⟩⟩:=oi2
  .cases ep;rcases q1 with q1|⟨o,q1⟩
   .rw[ao]at q1;cases q1
   .rw[ao]at q1;cases q1;exact q2
  .exact absurd rfl z
  .cases ep;rcases q1 with q1|⟨_,q1⟩<;>rw[ao]at q1<;>cases q1
  .cases ep;rw[ao]at q1;cases q1
  .cases ep;rw[ao]at q1;cases q1
  .cases z
 have il:i<ds.length:=(zah.mp hi).1;have env:EnvOk K ds1 (U NoA Ox) (upd H a (.frz ob (.dK vs))) σ (if kp then en else en.set i none) (λs b=>s≠i/\R s b):=by
  rw[ij];refine⟨λs t h=>?_,λs s' b z z'=>e.dj s s' b z.2 z'.2,λs b z=>e.dx s b z.2,λb z=>?_,?_,?_⟩
  .by_cases hs:s=i
   .subst hs;cases kp with
    |true=>
     have h':en[s]?=some (some t):=h;rw[g0]at h';cases h';refine⟨.ref a,0,a1,?_,?_⟩
     .rw[<-h1];exact zaP il
     .exact Ow.any0 _ oi2
    |false=>
     have h':(en.set s none)[s]?=some (some t):=h;by_cases hl:s<en.length
     .rw[zaP hl]at h';cases h'
     .rw[zbl (by rw[zaV];lia)]at h';cases h'
   .have h':en[s]?=some (some t):=by
     cases kp with
     |true=>exact h
     |false=>
      have h2:(en.set i none)[s]?=some (some t):=h;rw[zaO (Ne.symm hs)]at h2;exact h2
    obtain⟨v,d',g1,g2,g3⟩:=e.at_ s t h';refine⟨v,d',g1,?_,Ow.frzd ha trivial t (λz=>hs (e.dj s i a z.2 Fa)) (Ow.grow sub t (λb z=>⟨hs,z⟩) g3)⟩;rw[<-h1];cases kp with
    |true=>
     show(ds.set i 0)[s]?=_;rw[zaO (Ne.symm hs)];exact g2
    |false=>exact g2
  .obtain⟨o,q⟩:=e.dom b (sub b z);exact dm b o q
  .cases kp with
   |true=>exact e.l1
   |false=>show(en.set i none).length=_;rw[zaV];exact e.l1
  .rw[<-h1];cases kp with
   |true=>show(ds.set i 0).length=_;rw[zaV];exact e.l2
   |false=>exact e.l2
 refine⟨⟨env,λ_ z=>z.elim,λb o q n=>?_,λb z=>?_,dm,λz=>nomatch z⟩,nR a Fa,ow2⟩
 .have na:b≠a:=λz=>n i (by rw[z];exact Fa);rw[au na];exact q
 .rcases z with z|⟨s,z⟩
  .exact z.elim
  .exact .inl ⟨s,z.2⟩
end
section
variable{px μ ω:Pos}
def BQ{x:Str}(kp:Bool)(hK:X.K=K)(hN:X.N[i]?=some x)(hv:Vis X.env.scope x)(hi:ds[i]?=some d)(hd:d≠0/\d≠4)(h1:(if kp then ds.set i 0 else ds)=ds1)(hdb:(x==("__debug__":Str))=false)(hcd:(x==("__classdict__":Str))=false):
  QI X tg (.Name x px) (tFI K false ds ds1 (iDk kp i)):=by
 subst hK;refine⟨?_⟩;intro ρ s σ H R I h;obtain⟨Ox,en,Rg,ts,en',e,hf,k⟩:=h;unfold iDk at hf;split at hf
 case h_2=>cases hf
 next ks g0=>
 cases hf;obtain⟨a,vs,a1,ha,kk⟩:=wg e (aR g0) hi hd kp h1;refine thn (cF hN hv hdb hcd ρ s σ H (λv H1=>v=.ref a/\H1=H) I ⟨.ref a,a1,rfl,rfl⟩) ?_;rintro v s1 ⟨y,H1,I1,r1,ey,eH⟩;subst ey eH;cases r1;obtain⟨o,ep,he,I2⟩:=I1.freeze ha;obtain⟨P,nO,ow⟩:=kk o;have fz:FzD (upd H1 a (.frz o (.dK vs))) a vs ep:=⟨o,ao,he⟩;obtain⟨hds,us,rel,dd⟩:=pY I2 fz;refine wpAny_pyIter_dict hds dd ?_;refine⟨s1.heap.objs.size,[s1.heap.objs.size],_,_,_,rfl,I2.kept (t':=s1.toks) λb o e=>zaf _ e,ur a _ vs ep,⟨_,zan _ rfl,rfl,by rw[rel.length];rfl⟩,λb hb=>?_,k _ _ _ P (ui fz nO ow)⟩;have e:b=s1.heap.objs.size:=by simpa using hb
 subst e;exact I2.fpOk (zav _) (I2.hok.fresh (zav _))
end
def Im(fa:MA):MI:=λen=>(fa en).bind λr=>match r.1 with
 |[.inl (.list ts),.inl (.list us)]=>some (oO ts us,r.2)
 |[.inl (.tuple ts),.inl (.tuple us)]=>some (oO ts us,r.2)
 |_=>none
def my:D->Bool
 |.list ts=>ts.all scaD
 |_=>false
def eUp(f:ME):ME:=λen=>(f en).bind λr=>if my r.1=true then some r else none
theorem qZ{d d':Nat}:∀{ts:List D} {vs:List V} {F F':AS},ts.all scaD=true->Ows K O H ts d vs F->Ows K O' H' ts d' vs F'
 |[],_,_,_,_,h=>h
 |t::ts,_,_,_,hs,h=>by
  obtain⟨v,r,F1,F2,e,h1,h2,h3,h4,h5⟩:=h;rw[List.all_cons,zbm]at hs;exact⟨v,r,NoA,NoA,e,λ_ z=>z.elim,λ_ z=>z.elim,λ_ z=>z.elim,h4.scaD hs.1,qZ hs.2 h5⟩
def Bf(g:∀b o,H b=some o->H' b=some o)(hf:my t=true)(hd:d≠0)(hd':d'≠0)(h:Ow K O H t d v F):Ow K O' H' t d' v F:=by
 cases t with
 |list ts=>
  obtain⟨a,vs,e,⟨z,_⟩|⟨_,h1,h2,F',hF,h3⟩⟩:=h
  .exact absurd z hd
  .exact⟨a,vs,e,.inr ⟨hd',g _ _ h1,h2,NoA,λ_ z=>z.elim,qZ hf h3⟩⟩
 |_=>cases hf
section
variable{ds0:List Nat}{j:Nat}{fk:ME}{sx:Str}
def Hz(h:tF K p ds ds1 3 (eUp f) σ H Q):tF K p ds ds1 1 f σ H Q:=by
 obtain⟨Ox,en,R,t,en',e,hf,k⟩:=h;unfold eUp at hf;obtain⟨⟨t1,en1⟩,h1,hf⟩:=zaa.mp hf;by_cases hs:my t1=true
 .dsimp only at hf
  rw[if_pos hs]at hf;cases hf;exact⟨Ox,en,R,_,_,e,h1,λv H' R' F P o=>k v H' R' F P (Bf (λ_ _ q=>q) hs (by decide) (by decide) o)⟩
 .dsimp only at hf
  rw[if_neg hs]at hf;cases hf
def BT(h:QE X e (tF K p ds ds1 1 f)):QE X e (tF K p ds ds1 3 (eUp f)):=⟨h.h.imp λ_ _ _=>Hz⟩
end
noncomputable def bs(val:Nat->Int):Nat->Int
 |0=>0
 |k+1=>if k=0\/val k>bs val k then val k else bs val k
end L2
namespace PySem
end PySem
namespace PySem
open PySem.SeqAt
end PySem
namespace L2
open PySem PySem.Spec PyProof.Rows
end L2
namespace L2
open PySem PySem.Spec PyProof.Rows Builtin
end L2
namespace L2
variable{w:World}{A:Around}{E Q:Value->Shared->Prop}{s:Shared}{a b f c T:Addr}{X:Cx}{K:zbV}{p:Bool}{ds ds1 ds2 ds0 ds' js dps:List Nat}{d1 d2 d i m k n dr M pt ep:Nat}{f1 f2 g:ME}{pos px lpos:Pos}{σ:St}{H:Hp}{kvs:TKs}{O:AS}{v:V}{F:Nat->List D->Option (D×En)}{J:Jd}{st:Stmt}{t t':SetTable}{e:Expr}{x qual name:Str}{us:List Value}{P:Program}{mg:Str->Option Value}{ps xs N:List Str}{scope sc:Scope}{cl:List (Str×Addr)}{outer:List Env}{vs:List V}{params:Arguments}{pm ct oc:Value}{R:Result->Shared->Prop}{es:Array (Int×Value)}{ρ:List (Addr×Obj)}{CX:CXT}{fd:FuncData}{te:TE}{an od:Option Addr}{sp:Sp}{sh:Sh}{fa:MA}{sl:Array (Option Value)}{h:Heap}{its:Array Value}{o:Obj}{ks:List (Option Key)}{hs:List Int}
open PySem PySem.Spec PyProof.Rows
section
variable{prog:Program}   
def wB{vs:List (Key×Value)}(hd:(a==sysModules)=false)(dd:s.heap.DictOf (bh prog w) a vs)(h:Q (.bool true) { s with toks:=s.toks+1 }):wpAny (model prog w) A (compareOp .NotIn .none (.ref a)) Q E s:=by
 obtain⟨o,es,ep,ho,hc,hdat,hk,hp,_⟩:=dd;refine wpAny_notIn_of (knd:=bx prog w) (k:=none) (f:=λk=>findBy l9 es k) rfl hd ⟨o,es,ep,ho,hc,hdat,λe he=>?_,λk=>rfl⟩ ?_
 .obtain⟨k,h1,h2⟩:=hk e he;exact⟨some k,h1,h2⟩
 .have e:findBy l9 es none=none:=by
   unfold findBy;rw[Array.find?_eq_none.mpr]
   .rfl
   .intro x hx z;obtain⟨k,h1,_⟩:=hk x hx;rw[bU z]at h1;cases k<;>cases h1
  rw[e];exact h
end
noncomputable def uz(ty td:TE):TE:=λσ H Q=>ty σ H λy H1=>td σ H1 λx H2=>∃a,x=.ref a/\((y=.non/\∃kvs,Rd H2 a (.dK kvs)/\Q (.bl true) H2)\/∃o,DGet H2 a y o/\Q (.bl (!o.isSome)) H2)
section
variable{a b i o:Expr}{Q:VK}{ty td:TE}
def wt(hu:X.A.units+1<cLine)(hi:PE X i ty)(ho:PE X o td):PC X .NotIn i o (uz ty td):=by
 intro ρ s σ H Q I h;refine thn (hi ρ s σ H _ I h) λiv s1 ⟨y,H1,I1,ry,q1⟩=>thn (ho ρ s1 σ H1 _ I1 q1) λu s2 ⟨x,H2,I2,rx,a,ex,q2⟩=>?_;subst ex;obtain rfl:u=Value.ref a:=rx;rcases q2 with⟨rfl,kvs,e,q2⟩|⟨ov,g,q2⟩
 .obtain rfl:iv=Value.none:=ry;obtain⟨z,hd,vs,rel,dd⟩:=lb I2.hok e;exact wB hd dd ⟨.bl true,H2,I2.tok _,rfl,q2⟩
 .exact rU hu I2 g ry λs3 I3=>⟨.bl (!ov.isSome),H2,I3,rfl,q2⟩
end
def sr:List (D×D)->Option TKs
 |[]=>some []
 | (.tuple ts,t)::r=>(bK ts).bind λk=>if scaD t=true then(sr r).map ((k,t)::·)else none
 |_=>none
def dJ:List (D×D)->Option TKs
 | (.none,.none)::r=>sr r
 |_=>none
theorem gq:∀kk:List (Option Key),bK (kk.map oD)=some kk
 |[]=>rfl
 |k::kk=>by
  have e:oOf (oD k)=some k:=by rcases k with _ | (_|_)<;>rfl
  show(oOf (oD k)).bind (λk=>(bK (kk.map oD)).map (k::·))=_;rw[e,gq kk];rfl
theorem uu:∀kvs:TKs,(kvs.all λq=>scaD q.2)=true->sr (kvs.map tkD)=some kvs
 |[],_=>rfl
 | (k,t)::r,h=>by
  rw[List.all_cons,zbm]at h;show(bK (k.map oD)).bind (λk=>if scaD t=true then(sr (r.map tkD)).map ((k,t)::·)else none)=_;rw[gq k,uu r h.2];exact if_pos h.1
def lC(hs:(kvs.all λq=>scaD q.2)=true):dJ (tkL kvs)=some kvs:=uu kvs hs
def Ow.tks{ks:List (D×D)}{F:AS}(h:dJ ks=some kvs)(o:Ow K O H (.dict ks) d v F):(kvs.all λq=>L2.scaD q.2)=true/\∃a ad,v=.ref a/\Rd H a (.dT (kvs.map tkV) ad)/\(d=0->¬O a)/\(d=4->F a/\H a=some (.dT (kvs.map tkV) ad))/\∀b,ad b->¬O b/\∃vs,H b=some (.tup vs):=by
 have fin:∀{rd:HO->Prop},PrD O H rd ks->(kvs.all λq=>L2.scaD q.2)=true/\∃ad,rd (.dT (kvs.map tkV) ad)/\∀b,ad b->¬O b/\∃vs,H b=some (.tup vs):=λ{rd} ⟨l,ad,h2,h3,h4,h5⟩=>by
  subst h3;rw[lC h2]at h;cases h;exact⟨h2,ad,h4,h5⟩
 have owd:∀{d:Nat} {vs:List (Key×V)} {F:AS},Owd K O H ks d vs F->False:=λ{d vs F} w=>by
  cases ks with
  |nil=>cases h
  |cons q r=>
   obtain⟨k,t⟩:=q;obtain⟨q,v,r',F1,F2,_,e2,_⟩:=w;subst e2;cases q<;>cases h
 obtain⟨a,vs,e,⟨_,_,_,w⟩|⟨_,_,_,F',_,w⟩|⟨z,⟨p,n⟩|⟨cn,C,h1,_⟩|⟨h1,_⟩⟩|⟨z,g,p⟩⟩:=o
 .exact(owd w).elim
 .exact(owd w).elim
 .obtain⟨a2,ad,a3,a4⟩:=fin p;exact⟨a2,a,ad,e,a3,λ_=>n,(λy=>by rw[z]at y;cases y),a4⟩
 .subst h1;cases h
 .subst h1;cases h
 .obtain⟨a2,ad,a3,a4⟩:=fin p;exact⟨a2,a,ad,e,.inl a3,(λy=>by rw[z]at y;cases y),λ_=>⟨g,a3⟩,a4⟩
mutual
def dM:Nat->D->Bool
 |_,.none=>true
 |_,.bool _=>true
 |_,.int _=>true
 |_,.str _=>true
 |d,.tuple ts=>d != 0&&hW (dn d) ts
 |d,.list ts=>d != 0&&hW (dn d) ts
 |d,.dict ks=>(d != 0&&d != 4)&&l6 (dn d) ks
def hW:Nat->List D->Bool
 |_,[]=>true
 |d,t::ts=>dM d t&&hW d ts
def l6:Nat->List (D×D)->Bool
 |_,[]=>true
 |d,(_,t)::ts=>dM d t&&l6 d ts
end
section
variable{O':AS} 
mutual
theorem Ow.self:∀(t:D) {d:Nat} {v:V} {F:AS},dM d t=true->Ow K O H t d v F->Ow K O' H t d v F
 |.none,_,_,_,_,h=>h
 |.bool _,_,_,_,_,h=>h
 |.int _,_,_,_,_,h=>h
 |.str _,_,_,_,_,h=>h
 |.tuple ts,d,_,_,g,h=>by
  unfold dM at g;rw[zbm]at g;have hd:d≠0:=by simpa using g.1
  obtain⟨a,vs,e,⟨h0,_⟩|⟨h0,h1,h2,F',hf,h3⟩⟩:=h
  .exact absurd h0 hd
  .exact⟨a,vs,e,.inr ⟨h0,h1,h2,F',hf,Ows.self ts g.2 h3⟩⟩
 |.list ts,d,_,_,g,h=>by
  unfold dM at g;rw[zbm]at g;have hd:d≠0:=by simpa using g.1
  obtain⟨a,vs,e,⟨h0,_⟩|⟨h0,h1,h2,F',hf,h3⟩⟩:=h
  .exact absurd h0 hd
  .exact⟨a,vs,e,.inr ⟨h0,h1,h2,F',hf,Ows.self ts g.2 h3⟩⟩
 |.dict ks,d,_,_,g,h=>by
  unfold dM at g;rw[zbm]at g;have hd:d≠0/\d≠4:=by simpa using g.1
  obtain⟨a,vs,e,⟨h0,_⟩|⟨h0,h1,h2,F',hf,h3⟩|⟨h0,_⟩|⟨h0,hp⟩⟩:=h
  .exact absurd h0 hd.1
  .exact⟨a,vs,e,.inr (.inl ⟨h0,h1,h2,F',hf,Owd.self ks g.2 h3⟩)⟩
  .exact absurd h0 hd.1
  .exact absurd h0 hd.2
theorem Ows.self:∀(ts:List D) {d:Nat} {vs:List V} {F:AS},hW d ts=true->Ows K O H ts d vs F->Ows K O' H ts d vs F
 |[],_,_,_,_,h=>h
 |t::ts,_,_,_,g,h=>by
  unfold hW at g;rw[zbm]at g;obtain⟨v,r,F1,F2,e,h1,h2,h3,h4,h5⟩:=h;exact⟨v,r,F1,F2,e,h1,h2,h3,Ow.self t g.1 h4,Ows.self ts g.2 h5⟩
theorem Owd.self:∀(ts:List (D×D)) {d:Nat} {vs:List (Key×V)} {F:AS},l6 d ts=true->Owd K O H ts d vs F->Owd K O' H ts d vs F
 |[],_,_,_,_,h=>h
 | (k,t)::ts,_,_,_,g,h=>by
  unfold l6 at g;rw[zbm]at g;obtain⟨q,v,r,F1,F2,e,e2,h1,h2,h3,h4,h5⟩:=h;exact⟨q,v,r,F1,F2,e,e2,h1,h2,h3,Ow.self t g.1 h4,Owd.self ts g.2 h5⟩
end
end
def oG(d:Nat):Option D->Option D
 |some t=>if dM d t=true then some t else none
 |none=>none
def cS:List Bool->List Nat->En->En->En
 |b::bs,d::ds,x::en,y::en'=>(if b then x else oG d y)::cS bs ds en en'
 |_,_,_,_=>[]
theorem nN:∀{bs:List Bool} {ds:List Nat} {en en':En} {s:Nat} {t:D},(cS bs ds en en')[s]?=some (some t)->(bs[s]?=some true/\en[s]?=some (some t))\/(bs[s]?=some false/\en'[s]?=some (some t)/\∃d,ds[s]?=some d/\dM d t=true)
 |[],_,_,_,_,_,h=>by simp[cS]at h
 |_::_,[],_,_,_,_,h=>by simp[cS]at h
 |_::_,_::_,[],_,_,_,h=>by simp[cS]at h
 |_::_,_::_,_::_,[],_,_,h=>by simp[cS]at h
 |b::bs,d::ds,x::en,y::en',0,t,h=>by
  have h':(if b then x else oG d y)=some t:=by simpa[cS]using h
  cases b with
  |true=>exact .inl ⟨rfl,congrArg some h'⟩
  |false=>
   cases y with
   |none=>cases h'
   |some u=>
    have h2:(if dM d u=true then some u else none)=some t:=h';by_cases hs:dM d u=true
    .rw[if_pos hs]at h2;cases h2;exact .inr ⟨rfl,rfl,d,rfl,hs⟩
    .rw[if_neg hs]at h2;cases h2
 |b::bs,d::ds,x::en,y::en',s+1,t,h=>by
  have h':(cS bs ds en en')[s]?=some (some t):=by simpa[cS]using h
  simpa using nN h'
theorem nM:∀{bs:List Bool} {ds:List Nat} {en en':En},bs.length=ds.length->en.length=ds.length->en'.length=ds.length->(cS bs ds en en').length=ds.length
 |[],[],_,_,_,_,_=>rfl
 |_::_,_::ds,[],_,_,h,_=>by cases h
 |_::_,_::ds,_::_,[],_,_,h=>by cases h
 |b::bs,d::ds,x::en,y::en',h1,h2,h3=>by
  show(cS bs ds en en').length+1=ds.length+1;rw[nM (Nat.succ.inj h1) (Nat.succ.inj h2) (Nat.succ.inj h3)]
 |[],_::_,_,_,h,_,_=>by cases h
 |_::_,[],_,_,h,_,_=>by cases h
def kZ(bs:List Bool)(ds':List Nat)(m:MS):MS:=λen=>(m en).bind λfl=>match fl with
 |.nx en'=>some (.nx (cS bs ds' en en'))
 |_=>none
def me(i:Nat)(bs:List Bool)(ds:List Nat)(lk:List Nat):Bool:=bs[i]?==some true&&bs.length==ds.length&&(List.range bs.length).all λs=>!(bs[s]?==some true) || (lk.contains s&&(s==i || ds[s]?==some 0))
section
variable{J':Jd}{bs:List Bool}{m:MS}{D:Ends}  
def BI(hi:ds[i]?=some d)(h0:ds.set i 0=ds0)(h1:ds1.set i d=ds')(hb:me i bs ds J'.lk=true)(hlk:∀j∈J.lk,j∈J'.lk)(hk:∀s:Nat,bs[s]?=some true->ds'[s]?=ds[s]?)(hl:ds'.length=ds.length)
  (h:tFS K J ds ds' (kZ bs ds' m) D σ H):tFS K J' ds0 ds1 m D σ H:=by
 obtain⟨Ox,en,R,fl,e,hf,k⟩:=h;unfold kZ at hf;obtain⟨fl0,hm,hf⟩:=zaa.mp hf;cases fl0 with
 |ct _=>cases hf
 |rt _ _=>cases hf
 |nx en'=>
  cases hf;unfold me at hb;rw[zbm,zbm,List.all_eq_true]at hb;obtain⟨⟨b1,b2⟩,b3⟩:=hb;have bi:bs[i]?=some true:=by simpa using b1
  have bl:bs.length=ds.length:=by simpa using b2
  have bz:∀s:Nat,bs[s]?=some true->s∈J'.lk/\(s=i\/ds[s]?=some 0):=λs q=>by
   have hs:s<bs.length:=(zah.mp q).1
   have:=b3 s (zbr.mpr hs);rw[q]at this;simpa using this
  have il:i<ds.length:=(zah.mp hi).1;have sub:∀b,Own (λs b=>s≠i/\R s b) Ox b->Own R Ox b:=λb z=>z.imp (λ⟨s,z⟩=>⟨s,z.2⟩) id;have nR:∀b,R i b->¬Own (λs b=>s≠i/\R s b) Ox b:=λb z z2=>by
   rcases z2 with⟨s,z2⟩|z2
   .exact z2.1 (e.dj s i b z2.2 z)
   .exact e.dx i b z z2
  have E0:EnvOk K ds0 Ox H σ en (λs b=>s≠i/\R s b):=by
   refine⟨λs t h=>?_,λs s' b z z'=>e.dj s s' b z.2 z'.2,λs b z=>e.dx s b z.2,λb z=>e.dom b (sub b z),e.l1,by rw[<-h0,zaV];exact e.l2⟩;obtain⟨v,d',g1,g2,g3⟩:=e.at_ s t h;by_cases hs:s=i
   .subst hs;refine⟨v,0,g1,?_,Ow.fz sub nR g3⟩;rw[<-h0];exact zaP il
   .refine⟨v,d',g1,?_,Ow.grow sub t (λb z=>⟨hs,z⟩) g3⟩;rw[<-h0,zaO (Ne.symm hs)];exact g2
  refine⟨Ox,en,_,.nx en',E0,hm,λσ' H' R' P=>?_⟩;have kp:∀a o,H a=some o->(¬Own R Ox a\/R i a)->H' a=some o:=λa o q z=>by
   refine P.keep a o q λs zs=>?_;rcases z with z|z
   .exact z (.inl ⟨s,zs.2⟩)
   .exact zs.1 (e.dj s i a zs.2 z)
  have ow':∀s b,R' s b->(∃j,R j b/\j≠i)\/H b=none:=λs b z=>(P.own b (.inr ⟨s,z⟩)).imp (λ⟨j,z⟩=>⟨j,z.2,z.1⟩) id;have nRi:∀s b,R' s b->¬R i b:=λs b z z2=>by
   rcases ow' s b z with⟨j,z3,z4⟩|z3
   .exact z4 (e.dj j i b z3 z2)
   .obtain⟨o,q⟩:=e.dom b (.inl ⟨i,z2⟩);rw[z3]at q;cases q
  have oo:∀a,Own (λs b=>(s=i/\R i b)\/(bs[s]?=some false/\R' s b)) (U NoA Ox) a->Own R Ox a\/H a=none:=λa z=>by
   rcases z with⟨s,⟨_,z⟩|⟨_,z⟩⟩|z|z
   .exact .inl (.inl ⟨i,z⟩)
   .exact(ow' s a z).imp (λ⟨j,z,_⟩=>.inl ⟨j,z⟩) id
   .exact z.elim
   .exact .inl (.inr z)
  refine k σ' H' (λs b=>(s=i/\R i b)\/(bs[s]?=some false/\R' s b)) ⟨⟨λs t h=>?_,λs s' b z z'=>?_,λs b z=>?_,λb z=>?_,?_,?_⟩,λ_ z=>z.elim,λa o q n=>P.keep a o q λs z=>n s z.2,λa z=>?_,P.dom,λj hj=>P.lk j (hlk j hj)⟩
  .rcases nN h with⟨c1,c2⟩|⟨c1,c2,dd,c3,c4⟩
   .obtain⟨l1,l2⟩:=bz s c1;obtain⟨v,d',g1,g2,g3⟩:=e.at_ s t c2;refine⟨v,d',(P.lk s l1).trans g1,(hk s c1).trans g2,?_⟩;rcases l2 with l2|l2
    .subst l2;exact Ow.grow (λ_ z=>z) t (λb z=>.inl ⟨rfl,z⟩) (Ow.mv (G:=R s) ⟨kp,oo⟩ t (λ_ z=>z) g3)
    .rw[g2]at l2;cases l2;exact Ow.any0 t (Ow.mv (G:=NoA) ⟨λa o q z=>kp a o q (.inl (z.elim id λz=>z.elim)),oo⟩ t (λ_ z=>z) (Ow.any0 (F':=NoA) t g3))
   .obtain⟨v,d',g1,g2,g3⟩:=P.env.at_ s t c2;have si:s≠i:=λz=>by
     subst z;rw[bi]at c1;cases c1
    have ed:ds'[s]?=ds1[s]?:=by rw[<-h1,zaO (Ne.symm si)]
    have e2:d'=dd:=by
     rw[ed,g2]at c3;cases c3;rfl
    subst e2;exact⟨v,d',g1,c3,Ow.grow (λ_ z=>z) t (λb z=>.inr ⟨c1,z⟩) (Ow.self t c4 g3)⟩
  .rcases z with⟨z1,z⟩|⟨z1,z⟩<;>rcases z' with⟨z2,z'⟩|⟨z2,z'⟩
   .rw[z1,z2]
   .exact absurd z (nRi s' b z')
   .exact absurd z' (nRi s b z)
   .exact P.env.dj s s' b z z'
  .rcases z with⟨z1,z⟩|⟨z1,z⟩
   .exact λz2=>e.dx i b z (z2.elim (λz=>z.elim) id)
   .exact P.env.dx s b z
  .rcases z with⟨s,⟨z1,z⟩|⟨z1,z⟩⟩|z
   .obtain⟨o,q⟩:=e.dom b (.inl ⟨i,z⟩);exact P.dom b o q
   .exact P.env.dom b (.inl ⟨s,z⟩)
   .exact P.env.dom b (.inr z)
  .have q1:=P.env.l1;have q2:=P.env.l2;have q3:=e.l1;have q4:=e.l2;have l':ds'.length=ds1.length:=by rw[<-h1,zaV]
   have hσ:σ'.length=σ.length:=by
    omega
   rw[nM (by omega) (by omega) (by omega)];omega
  .rw[<-h1,zaV];exact P.env.l2
  .rcases z with z|⟨s,⟨z1,z⟩|⟨z1,z⟩⟩
   .exact z.elim
   .exact .inl ⟨i,z⟩
   .exact(ow' s a z).imp (λ⟨j,z,_⟩=>⟨j,z⟩) id
end
def sP(bs:List Bool)(ds ds':List Nat):Bool:=ds'.length==ds.length&&(List.range bs.length).all λs=>!(bs[s]?==some true) || ds'[s]?==ds[s]?
def u3{bs:List Bool}(h:sP bs ds ds'=true):ds'.length=ds.length/\∀s:Nat,bs[s]?=some true->ds'[s]?=ds[s]?:=by
 unfold sP at h;rw[zbm,List.all_eq_true]at h;refine⟨by simpa using h.1,λs q=>?_⟩
 have:=h.2 s (zbr.mpr (zah.mp q).1);rw[q]at this;simpa using this
def tD{lk:List Nat}{bs:List Bool}{m:MS}(hs:QS X st (tFS K { J with lk:=lk++J.lk } ds0 ds1 m))(hi:ds[i]?=some d)(h0:ds.set i 0=ds0)(h1:ds1.set i d=ds')(hb:me i bs ds lk=true)(hd:sP bs ds ds'=true):
  QS X st (tFS K J ds ds' (kZ bs ds' m)):=by
 obtain⟨hl,hk⟩:=u3 hd;refine⟨PS.imp hs.h λ_ _ _=>BI hi h0 h1 ?_ (λj z=>zbg _ z) hk hl⟩;unfold me at hb ⊢;rw[zbm,List.all_eq_true]at hb ⊢;refine⟨hb.1,λs hs=>?_⟩
 have:=hb.2 s hs;rw[Bool.or_eq_true,zbm]at this ⊢;refine this.imp id λz=>⟨?_,z.2⟩;rw[List.contains_iff_mem]at z ⊢;exact zbf _ z.1
theorem uk(k:List (Option Key)):∀kvs:TKs,(cE (kvs.map tkV) k).isSome=kvs.any λq=>decide (q.1=k)
 |[]=>rfl
 |q::r=>by
  have ih:=uk k r;unfold cE at ih ⊢;rw[zar,zbo,List.any_cons];by_cases c:q.1=k
  .simp[tkV,c]
  .have:decide ((tkV q).1=k)=false:=zaA c;rw[this,zaA c,Bool.false_or];exact ih
def jL:D->D->Option D
 |.tuple ts,.dict ks=>(bK ts).bind λk=>(dJ ks).map λkvs=>.bool (!kvs.any λq=>decide (q.1=k))
 |_,_=>none
noncomputable def eX(kvs:TKs)(k:List (Option Key))(t:D):TKs:=if(kvs.any λq=>decide (q.1=k))=true then kvs.map (λq=>if q.1=k then(q.1,t)else q)else kvs++[(k,t)]
def eF(i:Nat)(fk fe:ME):MS:=λen=>(fe en).bind λr=>match (r.2[i]?).join with
 |some _=>(fk r.2).bind λq=>match q.1,(q.2[i]?).join with
  |.tuple ts,some (.dict ks)=>(bK ts).bind λk=>(dJ ks).bind λkvs=>if kvs.length<sizeLine/\scaD r.1=true then some (.nx (q.2.set i (some (.dict (tkL (eX kvs k r.1))))))else none
  |_,_=>none
 |none=>none
def A0(kvs:TKs)(k:List (Option Key))(t:D):(eX kvs k t).map tkV=b9 (kvs.map tkV) k (dV t):=by
 have e:((kvs.map tkV).any λq=>decide (q.1=k))=kvs.any λq=>decide (q.1=k):=by
  rw[List.any_map];rfl
 unfold eX b9;rw[e];by_cases c:(kvs.any λq=>decide (q.1=k))=true
 .rw[if_pos c,if_pos c,zaR,zaR];apply zbw;intro q _;show tkV (if q.1=k then _ else _)=if(tkV q).1=k then _ else _
  by_cases d:q.1=k
  .rw[if_pos d,if_pos (show(tkV q).1=k from d)];rfl
  .rw[if_neg d,if_neg (show ¬(tkV q).1=k from d)]
 .rw[if_neg c,if_neg c,zaC];rfl
def A1{k:List (Option Key)}{t:D}(h:(kvs.all λq=>scaD q.2)=true)(ht:scaD t=true):((eX kvs k t).all λq=>scaD q.2)=true:=by
 unfold eX;by_cases c:(kvs.any λq=>decide (q.1=k))=true
 .rw[if_pos c,List.all_map,List.all_eq_true];intro q hq;show scaD (if q.1=k then(q.1,t)else q).2=true;split
  .exact ht
  .exact List.all_eq_true.mp h q hq
 .rw[if_neg c,List.all_append,h,List.all_cons,ht];rfl
section
variable{a b k:Expr}{fk fe:ME}{ζ:Pos}{Q:VK}{Dn:Ends}
def BY(h:tF K p ds ds2 3 (e2 jL f1 f2) σ H Q):uz (tF K p ds ds1 d1 f1) (tF K p ds1 ds2 d2 f2) σ H Q:=by
 obtain⟨Ox,en,R,t,en',e,hf,k⟩:=h;unfold e2 at hf;obtain⟨⟨t1,en1⟩,h1,hf⟩:=zaa.mp hf;obtain⟨⟨t2,en2⟩,h2,hf⟩:=zaa.mp hf;obtain⟨t',h3,hf⟩:=zab.mp hf;cases hf;refine two (p1:=p) (p2:=p) e h1 h2 λx y H2 R2 F1 F2 P o1 o2=>?_;rw[zbk]at P;have w1:=Ow.letgo P (λ_=>.inl) o1;have w2:=Ow.letgo P (λ_=>.inr) o2;cases t1 with
 |tuple ts=>
  cases t2 with
  |dict ks=>
   obtain⟨kk,hk,h3⟩:=zaa.mp (show(bK ts).bind (λk=>(dJ ks).map λkvs=>PyData.bool (!kvs.any λq=>decide (q.1=k)))=some t from h3);obtain⟨kvs,hv,rfl⟩:=zab.mp h3;obtain⟨_,a,ad,ea,ha,_⟩:=w2.tks hv;obtain⟨b,vs,eb,fz,ow⟩:=w1.tup0;rw[fW hk ow]at fz;refine⟨a,ea,.inr ⟨_,by rw[eb];exact DGet.t ha fz.1,?_⟩⟩;rw[uk];exact k _ H2 R2 NoA (P.less λ_ z=>z.elim) rfl
  |_=>cases h3
 |_=>cases h3
def tM:ME:=eC (.dict (tkL []))
def vA:QE X (.Dict [] [] pos) (tF K p ds ds 4 tM):=⟨pe_dnewT.imp λσ H Q ⟨Ox,en,R,t,en',e,hf,k⟩=>by
 cases hf;intro l hl;have n:NewTo H (upd H l (.dT [] λ_=>False)) (λb=>b=l):=bC hl;exact k (.ref l) _ R _ (Post.new e n.1 n.2) ⟨l,[],rfl,.inr (.inr (.inr ⟨rfl,rfl,[],_,rfl,rfl,ao,λ_ z=>z.elim⟩))⟩⟩
def jD(hu:X.A.units+1<cLine)(ha:QE X a (tF K p ds ds1 d1 f1))(hb:QE X b (tF K p ds1 ds2 d2 f2))(h1:behindInMarks .NotIn b=false):QT X (.Compare a [.NotIn] [b] pos) (tFT K p ds ds2 (tV (e2 jL f1 f2))):=⟨(uH ((wt hu ha.h hb.h).imp λ_ _ _=>BY) h1).imp λ_ _ _=>ms⟩
def xf(hd:ds2[i]?=some 4)(h:tFS K J ds ds2 (eF i fk fe) Dn σ H):sw (fT i) (tF K false ds1 ds2 d2 fk) (tF K false ds ds1 0 fe) Dn σ H:=by
 obtain⟨Ox,en,R,fl,e,hf,k⟩:=h;unfold eF at hf;obtain⟨⟨t1,en1⟩,h1,hf⟩:=zaa.mp hf
 dsimp only at hf
 split at hf
 case h_2=>cases hf
 next tt h0=>
 obtain⟨⟨t2,en2⟩,h2,hf⟩:=zaa.mp hf
 dsimp only at hf
 split at hf
 case h_2=>cases hf
 next ts ks h4 h3=>
 obtain⟨kk,hk,hf⟩:=zaa.mp hf;obtain⟨kvs,hv,hf⟩:=zaa.mp hf;by_cases ξ:kvs.length<sizeLine/\scaD t1=true
 case neg=>rw[if_neg ξ]at hf;cases hf
 rw[if_pos ξ]at hf;cases hf;refine⟨Ox,en,R,t1,en1,e,h1,λx H1 R1 F1 P1 o1=>?_⟩;obtain⟨v0,d0,a1,_,_⟩:=P1.env.at_ i tt (aR h0);refine⟨v0,a1,?_⟩;refine⟨U F1 Ox,en1,R1,_,en2,P1.env,h2,λy H2 R2 F2 P2 o2=>?_⟩;have P:=P1.trans P2;have w2:=Ow.letgo P2 (λ_ z=>z) o2;obtain⟨v',d',b1,b2,b3⟩:=P.env.at_ i _ (aR h3);rw[a1]at b1;cases b1;rw[hd]at b2;cases b2;obtain⟨k2,l,ad,el,_,_,hr,ha⟩:=b3.tks hv;obtain⟨hr,hl⟩:=hr rfl;obtain⟨b,vs,eb,fz,ow⟩:=w2.tup0;rw[fW hk ow]at fz;have ex:=uO ξ.2 o1;subst ex eb;refine⟨l,_,el,DPut.t hl fz.1 (by rw[zad];exact ξ.1),?_⟩;have hi:i<en2.length:=(zah.mp (aR h3)).1;have gG:∀a,(λa=>R2 i a) a->R2 i a\/U F1 F2 a:=λa z=>.inl z;have PS:=P.slot (G:=λa=>R2 i a) (F':=NoA) (o2:=.dT (b9 (kvs.map tkV) kk (dV t1)) λx=>ad x\/x=b) (t:=.dict (tkL (eX kvs kk t1))) hr hi a1 hd gG (λ_ z=>z.elim) (λ_ _ z=>z) ?_
 .exact k σ _ _ PS.s
 refine⟨l,[],el,.inr (.inr (.inr ⟨rfl,hr,eX kvs kk t1,_,A1 k2 ξ.2,rfl,by rw[A0];exact ao,λx z=>?_⟩))⟩;have key:¬Own R2 Ox x/\∃vs,H2 x=some (.tup vs):=by
  rcases z with z|rfl
  .exact⟨λy=>(ha x z).1 (y.imp id .inr),(ha x z).2⟩
  .exact⟨λy=>fz.2 (y.imp id .inr),_,fz.1⟩
 obtain⟨n,us,hu⟩:=key;refine⟨λy=>n ?_,us,?_⟩
 .rcases y with⟨j,y⟩|y|y
  .by_cases hj:j=i
   .rw[if_pos hj]at y;exact .inl ⟨i,y⟩
   .rw[if_neg hj]at y;exact .inl ⟨j,y⟩
  .exact y.elim
  .exact .inr y
 .rw[au (sL hu hl (λz=>nomatch z))];exact hu
def iT(hu:X.A.units+1<cLine)(hN:X.N[i]?=some x)(hv:Vis X.env.scope x)(he:QE X e (tF K false ds ds1 0 fe))(hk:QE X k (tF K false ds1 ds2 d2 fk))(h1:ds2[i]?=some 4)
  (hdb:(x==("__debug__":Str))=false) (hcd:(x==("__classdict__":Str))=false) (hs:swapsWith e (some (.Subscript (.Name x px) k ζ)) pos.line X.env=pure false):
  QS X (.Assign [.Subscript (.Name x px) k ζ] e pos) (tFS K J ds ds2 (eF i fk fe)):=⟨(qV hu (cF hN hv hdb hcd) hk.h he.h hs).imp λ_ _ _=>xf h1⟩
end
def eSk(f:ME):ME:=λen=>(f en).bind λr=>if scaD r.1=true then some r else none
section
variable{f:ME}{Q:VK}
def HA(h:tF K p ds ds1 3 (eSk f) σ H Q):tF K p ds ds1 d f σ H Q:=by
 obtain⟨Ox,en,R,t,en',e,hf,k⟩:=h;unfold eSk at hf;obtain⟨⟨t1,en1⟩,h1,hf⟩:=zaa.mp hf
 dsimp only at hf
 by_cases hs:scaD t1=true
 .rw[if_pos hs]at hf;cases hf;exact⟨Ox,en,R,_,_,e,h1,λv H' R' F P o=>k v H' R' F P (o.scaD hs)⟩
 .rw[if_neg hs]at hf;cases hf
def rR(h:QE X e (tF K p ds ds1 d f)):QE X e (tF K p ds ds1 3 (eSk f)):=⟨h.h.imp λ_ _ _=>HA⟩
end
def cxL(P:Program)(w:World)(K:zbV)(mg:Str->Option Value)(base:Heap)(N:List Str)(qual:Str)(scope:Scope)(f:Addr)(cd:Value)(cl:List (Str×Addr))(A:Around)(outer:List Env)(s:Shared)(H:Hp)(xe:Value->Shared->Prop):Cx where
 prog:=P
 w:=w
 K:=K
 mg:=mg
 base:=base
 A:=A.deeper (PySem.W.envX qual scope s.heap.objs.size f cd cl)
 N:=N
 s₀:=s
 H₀:=H
 env:=PySem.W.envX qual scope s.heap.objs.size f cd cl
 outer:=outer
 stack:=PySem.W.envX qual scope s.heap.objs.size f cd cl::outer
 ex:=[]
 calm:=true
 fn:=λ_=>false
 pn:=[]
 xe:=xe
structure LamScope(ps xs:List Str)(sc:Scope)(cl:List (Str×Addr)):Prop where
 kind:sc.kind=.function
 co:sc.isCoroutine=false
 gen:sc.isGenerator=false
 nd:(ps++xs).Nodup
 par:∀x∈ps,sc.names.lookup x=some .local
 fr:∀x∈xs,sc.names.lookup x=some .free
 nocell:∀y∈sc.names,y.2≠.cell
 free:∀x,sc.names.lookup x=some .free->∃c,cl.lookup x=some c
 inj:∀x y c,cl.lookup x=some c->cl.lookup y=some c->x=y
structure CellsL(xs:List Str)(cl:List (Str×Addr))(H:Hp)(h:Heap)(ws:List V):Prop where
 no:∀x c,cl.lookup x=some c->H c=none/\∃v,h.IsCell c v
 at_:∀(i:Nat) (x:Str),xs[i]?=some x->∃v c u,ws[i]?=some v/\cl.lookup x=some c/\RelV v u/\h.IsCell c (some u)
 len:ws.length=xs.length
def wH{P:List Str}(nd:P.Nodup)(hl:us.length=P.length){u:Value}(h1:P[i]?=some x)(h2:us[i]?=some u):(P.zip us).reverse.lookup x=some u:=by
 have key:∀(l:List (Str×Value)),(l.map (·.1)).Nodup->(x,u)∈l->l.lookup x=some u:=by
  intro l
  induction l with
  |nil=>intro _ h;cases h
  |cons p r ih=>
   obtain⟨y,v⟩:=p;intro n h;rw[zar,zbb]at n;rw[zas];rcases zay.mp h with e|h
   .cases e;simp
   .have ne:x≠y:=λe=>n.1 (e▸zaz.mpr ⟨_,h,rfl⟩)
    have:(x==y)=false:=by simp[ne]
    rw[this];exact ih n.2 h
 refine key _ ?_ (List.mem_reverse.mpr ?_)
 .rw[List.map_reverse];refine(List.reverse_perm _).nodup_iff.mpr ?_;rw[List.map_fst_zip (by lia)];exact nd
 .refine zaX (i:=i) ?_;rw[List.getElem?_zip_eq_some];exact⟨h1,h2⟩
def u5{base:Heap}{cd:Value}{s1:Shared}{ws:List V}{xe:Value->Shared->Prop}
  (S:LamScope ps xs scope cl) (hd:A.handled=none) (e0:Env0 P w K mg base A outer s H) (hl:us.length=ps.length) (r:Vals vs us) (C:CellsL xs cl H s.heap ws) (eo:s1.os=s.os) (eg:s1.gens=s.gens)
  (hns:s1.heap.Ns s.heap.objs.size λx=>(ps.zip us).reverse.lookup x) (hk:∀b o,s.heap.get? b=some o->s1.heap.get? b=some o):
  Inv (cxL P w K mg base (ps++xs) qual scope f cd cl A outer s H xe) [] ((vs++ws).map some) H s1:=by
 have rl:=r.length;have fresh:H s.heap.objs.size=none:=e0.hok.fresh (zav _);have noA:∀b:Addr,b∉(cxL P w K mg base (ps++xs) qual scope f cd cl A outer s H xe).ex:=λb z=>absurd (show b∈([]:List Addr)from z) (by simp);have ndP:ps.Nodup:=S.nd.sublist (List.sublist_append_left _ _);have old:∀{x:Str} {c:Addr},cl.lookup x=some c->c<s.heap.objs.size:=λ{x c} h=>by
  obtain⟨_,v,o,e,_⟩:=C.no x c h;exact zal e
 refine⟨⟨e0.mod,S.kind,rfl,rfl,zav _,λy z c h1 h2=>S.inj y z c h1 h2,λy hy=>?_,λy c h _=>absurd (show false=true from h) zbn,λ_=>hd,Around.frames_deeper e0.frames,.inr ⟨rfl,rfl⟩,λb z=>absurd z (noA b),e0.bs,e0.bsz,λb _ _=>noA b,λb z=>absurd z (noA b),e0.funs,e0.frf,e0.reg⟩,
  eo,?_,Un.kept hk,⟨_,hns,λi y v h1 h2 h3=>?_⟩,λy c h=>?_,fresh,λy c h=>(C.no y c h).1,λp hp=>absurd (show p∈([]:List (Addr×Obj))from hp) (by simp),e0.hok.kept hk,?_,λi u e=>nomatch e⟩
 .rcases hy with hy|hy
  .exact absurd rfl (S.nocell _ (zaU hy))
  .exact S.free y hy
 .rw[eg];exact e0.bare
 .have h1:(ps++xs)[i]?=some y:=h1;rw[zao]at h2;obtain⟨v',hv,e⟩:=zab.mp h2;cases e;rcases Nat.lt_or_ge i ps.length with c|c
  .rw[zaS c]at h1;rw[zaS (by lia)]at hv;obtain⟨u,hu,rv⟩:=r.get hv;exact⟨u,rv,.inl ⟨S.par y (zaX h1),wH ndP hl h1 hu⟩⟩
  .rw[zbH c]at h1;rw[zbH (by lia),show i-vs.length=i-ps.length by lia]at hv;obtain⟨v2,c2,u,e1,e2,rv,ic⟩:=C.at_ _ y h1;rw[hv]at e1;cases e1;obtain⟨o,q1,q2⟩:=ic;exact⟨u,rv,.inr ⟨.inr (S.fr y (zaX h1)),c2,e2,o,hk _ _ q1,q2⟩⟩
 .obtain⟨_,v,o,q1,q2⟩:=C.no y c h;exact⟨v,o,hk _ _ q1,q2⟩
 .show((vs++ws).map some).length=(ps++xs).length;rw[zad,zae,zae,C.len]
  lia
def Bt{base:Heap}{body:Expr}{c':Addr}{ctv:Value}{ws:List V}{args:Args}{t:TE}{Q:VK} 
  (S:LamScope ps xs scope cl) (hr:Room 1 A) (e0:Env0 P w K mg base A outer s H) (ho:s.heap.get? f=some (PySem.W.kla_obj name qual params body scope cl pm c' ctv)) (hcd:s.heap.CodeRec (.ref c') qual)
  (hl:us.length=ps.length) (r:Vals vs us) (C:CellsL xs cl H s.heap ws) (hb:bindArgs (PySem.W.kla_fn name qual params body scope cl pm (.ref c') ctv) args=pure (ps.zip us))
  (hbody:PE (cxL P w K mg base (ps++xs) qual scope f (.ref c') cl A outer s H λe s'=>wpAny (model P w) (A.deeper (PySem.W.envX qual scope s.heap.objs.size f (.ref c') cl)) (leaving (PySem.W.envX qual scope s.heap.objs.size f (.ref c') cl) e) (λ_ s''=>R (.error e) s'') (λe' s''=>R (.error e') s'') s') body t) (q:t ((vs++ws).map some) H Q)
  (hR:∀u s',CE outer P w H s Q u s'->R (.ok (.ret u)) s'):
  codeAny (model P w) A (.call (.ref f) args) R s:=by
 have lim:s.heap.NoLimit:=e0.mod.nolimit.keeps λb o e=>(e0.bs b o e).1;refine PySem.W.kla_callFunE hr.depth ho rfl S.co S.gen rfl hcd ?_;rw[hb];have hloc:∀y∈ps.zip us,scope.names.lookup y.1=some .local:=λ⟨n,v⟩ hy=>S.par n (List.of_mem_zip hy).1;refine zaT (wpAny_newFunctionEnv S.nocell hloc (λh₁ hns hsb=>⟨lim.fresh _ hsb,?_⟩) S.kind);have hk₁:∀b o,s.heap.get? b=some o->h₁.get? b=some o:=λb o e=>hsb.extBut b o (zaw (zal e)) (zaf _ e);refine PySem.W.kla_codeExpr ?_;have I:=u5 (xe:=λe s'=>wpAny (model P w) (A.deeper (PySem.W.envX qual scope s.heap.objs.size f (.ref c') cl)) (leaving (PySem.W.envX qual scope s.heap.objs.size f (.ref c') cl) e) (λ_ s''=>R (.error e) s'') (λe' s''=>R (.error e') s'') s') (f:=f) (cd:=.ref c') (qual:=qual) (s1:={ s with heap:=h₁,toks:=s.toks+(ps.zip us).length }) S hr.hd e0 hl r C rfl rfl hns hk₁;refine wpAny_mono (hbody [] _ _ H Q I q) (λv s' ⟨x,H',J,rv,qq⟩=>hR v s' ⟨x,H',J.os,J.bare,J.base,J.hok,rv,qq⟩) λe s' h=>h
structure Lam where
 name:Str
 qual:Str
 params:Arguments
 body:Expr
 scope:Scope
 ps:List Str
 xs:List Str
variable{l:Lam}
inductive LamAt(l:Lam)(outer:List Env)(H:Hp)(h:Heap)(a:Addr)(ws:List V):Prop
 |mk (cl:List (Str×Addr)) (pm ctv:Value) (c':Addr) (oc:Obj) (vs:Array Value) (tk:Tok) (u:HO) (S:LamScope l.ps l.xs l.scope cl) (ho:h.get? a=some (PySem.W.kla_obj l.name l.qual l.params l.body l.scope cl pm c' ctv)) (na:H a=some (.frz (PySem.W.kla_obj l.name l.qual l.params l.body l.scope cl pm c' ctv) (.own a)))
   (hc:H c'=some (.frz oc u)) (hd:oc.data=.fields vs) (hq:vs[1]?=some (.str l.qual tk)) (C:CellsL l.xs cl H h ws) (fc:∀x c,cl.lookup x=some c->c∉frs outer)
def LamAt.keep{P:Program}{w:World}{l:Lam}{outer:List Env}{H H':Hp}{h h':Heap}{a:Addr}{ws:List V}(L:LamAt l outer H h a ws)(u:Un (frs outer) [] H H' h h')(hok:HOk P w H' h'):LamAt l outer H' h' a ws:=by
 obtain⟨cl,pm,ctv,c',oc,vs,tk,w,S,ho,na,hc,hd,hq,C,fc⟩:=L;have no:∀b:Addr,b∉([]:List Addr):=λb z=>by cases z
 have cell:∀{x:Str} {c:Addr} {v:Option Value},cl.lookup x=some c->h.IsCell c v->h'.IsCell c v:=λ{x c v} e ⟨o,q1,q2⟩=>⟨o,u.keep c o q1 (C.no x c e).1 (fc x c e) (no c),q2⟩;refine⟨cl,pm,ctv,c',oc,vs,tk,w,S,(hok a _ (u.frzs _ _ _ na)).1,u.frzs _ _ _ na,u.frzs _ _ _ hc,hd,hq,⟨λx c e=>?_,λi x hx=>?_,C.len⟩,fc⟩
 .obtain⟨n,v,ic⟩:=C.no x c e;have ic':=cell e ic;obtain⟨o,q1,_⟩:=ic;exact⟨u.free c o q1 n (no _),v,ic'⟩
 .obtain⟨v,c,w,e1,e2,e3,e4⟩:=C.at_ i x hx;exact⟨v,c,w,e1,e2,e3,cell e2 e4⟩
section
variable{ws:List V}{p:Pos}{es:List Expr}{t:TA}{tl:TE}
def Bx{M:Model}{ws:List V}(h:Heap)(L:LamAt l outer H h a ws):∃k,(k=Keeper.frame\/k=Keeper.machine\/k=Keeper.boundFrame)/\PySem.W.Looks M h (keeperOf (.ref a)) k:=by
 obtain⟨cl,pm,ctv,c',oc,vs,tk,u,S,ho,_⟩:=L;exact⟨.frame,.inl rfl,(PySem.W.Looks.ld (part:=none) ho).andThen .now⟩
def Inv.lam(I:Inv X ρ σ H s)(hx:X.ex=[])(L:LamAt l X.outer X.H₀ X.s₀.heap a ws):LamAt l X.outer H s.heap a ws:=
 L.keep (by have:=I.base;rw[hx]at this;exact this) I.hok
end
def CdK(K:zbV)(c P:Addr):Prop:=∃(o:Obj) (vs:Array Value) (file:Str) (tf:Tok) (flags:Int) (tg:Tok) (inF:Bool) (text:Int) (tt:Tok),
 K.lookup c=some o/\o.cls=.type "code"/\o.data=.fields vs/\vs[11]?=some (.ref P)/\vs.getD 11 .none=.ref P/\vs.getD 18 .none=.str file tf/\vs.getD 7 .none=.int flags tg/\vs.getD 9 .none=.bool inF/\vs.getD 10 .none=.int text tt/\c≠P
theorem gb{pos:Pos}{a b:Int}{c cv:Value}:∀l:List Value,TriplesOk l->codeAmong pos (l++[rawInt a,rawInt b,c])=some cv->codeAmong pos l=some cv\/cv=c
 |[],_,h=>by
  unfold rawInt at h;simp only[List.nil_append]at h;unfold codeAmong at h;split at h
  .cases h;exact .inr rfl
  .unfold codeAmong at h;cases h
 |[x],t,_=>by cases x<;>exact False.elim t
 |[x,y],t,_=>by cases x<;>cases y<;>exact False.elim t
 |.int n1 t1::.int n2 t2::v::r,t,h=>by
  have t':TriplesOk r:=t;rw[zaZ,zaZ,zaZ]at h;unfold codeAmong at h ⊢;by_cases hc:(n1==(pos.line:Int)&&n2==(pos.col:Int))=true
  .rw[if_pos hc]at h ⊢;exact .inl h
  .rw[if_neg hc]at h ⊢;exact gb r t' h
 |x::y::v::r,t,h=>by
  cases x<;>cases y<;>first|exact False.elim t|skip
  have t':TriplesOk r:=t;rw[zaZ,zaZ,zaZ]at h;unfold codeAmong at h ⊢;split at h
  .next hc=>rw[if_pos hc];exact .inl h
  .next hc=>rw[if_neg hc];exact gb r t' h
structure LamSc(ps xs:List Str)(sc:Scope):Prop where
 kind:sc.kind=.function
 co:sc.isCoroutine=false
 gen:sc.isGenerator=false
 nd:(ps++xs).Nodup
 par:∀x∈ps,sc.names.lookup x=some .local
 fr:∀x∈xs,sc.names.lookup x=some .free
 nocell:∀y∈sc.names,y.2≠.cell
structure LamHere(X:Cx)(l:Lam)(lpos:Pos)(c P:Addr):Prop where
 code:X.env.code=.ref c
 hd:CdK X.K c P
 rg:Rg X.K P l.qual
 fn:∀x,X.fn x=true
 name:l.name="<lambda>"
 qual:X.env.qual++"<lambda>"=l.qual
 dfl:defaultsOf l.params X.env=([],[])
 free:∀y∈l.scope.names,y.2=.free->X.env.kindOf y.1=some .cell\/X.env.kindOf y.1=some .free
 S:LamSc l.ps l.xs l.scope
 kind:∀x∈l.xs,X.env.kindOf x=some .cell\/X.env.kindOf x=some .free
structure GrowL(a:Addr)(H H':Hp):Prop where
 keep:∀b u,H b=some u->H' b=some u
 new:H a=none
 fn:Gg H' a
noncomputable def a6(σ:St):List Nat->Option (List V)
 |[]=>some []
 |j::js=>match σ[j]? with
  |some (some v)=>(a6 σ js).map (v::·)
  |_=>none
theorem oY{σ:St}{N:List Str}:∀{js:List Nat} {ws:List V} {xs:List Str},a6 σ js=some ws->js.map (N[·]?)=xs.map some ->
  ws.length=xs.length/\∀(i:Nat) (x:Str),xs[i]?=some x->∃(j:Nat) (v:V),N[j]?=some x/\σ[j]?=some (some v)/\ws[i]?=some v
 |[],ws,xs,h,e=>by
  cases h;cases xs with
  |nil=>exact⟨rfl,λi x z=>by simp at z⟩
  |cons y r=>cases e
 |j::js,ws,xs,h,e=>by
  unfold a6 at h;split at h
  next v hv=>
   cases xs with
   |nil=>cases e
   |cons y r=>
    rw[zar,zar]at e;obtain⟨e1,e2⟩:=List.cons.inj e;cases q:a6 σ js with
    |none=>rw[q]at h;cases h
    |some us=>
     rw[q]at h;cases h;obtain⟨hl,hk⟩:=oY q e2;refine⟨by simp[hl],λi x z=>?_⟩;cases i with
     |zero=>simp at z;subst z;exact⟨j,v,e1,hv,rfl⟩
     |succ i=>simp at z;obtain⟨j',v',q1,q2,q3⟩:=hk i x z;exact⟨j',v',q1,q2,by simpa using q3⟩
  next=>cases h
section
variable{P:Addr}{ws:List V}{p:Pos} 
def wO(I:Inv X ρ σ H s)(L:LamHere X l lpos c P)(hw:a6 σ js=some ws)(hj:js.map (X.N[·]?)=l.xs.map some):
  wpAny (model X.prog X.w) X.A (eval (.Lambda l.params l.body l.scope lpos) X.env) (λu s'=>∃a H',u=.ref a/\Inv X ρ σ H' s'/\GrowL a H H'/\LamAt l X.stack H' s'.heap a ws) X.xe s:=by
 have LF:∀y∈l.scope.names,y.2=.free->∃c,X.env.cells.lookup y.1=some c:=λy hy hk=>I.ok.has y.1 (L.free y hy hk);have LS:LamScope l.ps l.xs l.scope (bV X.env l.scope.names):=⟨L.S.kind,L.S.co,L.S.gen,L.S.nd,L.S.par,L.S.fr,L.S.nocell,λx h=>lU (zaU h),λx y c h1 h2=>I.ok.inj x y c (gB LF h1) (gB LF h2)⟩;have tab:H P=some (.tbl l.qual):=I.base.tbls P _ (I.ok.reg P _ L.rg);obtain⟨ps,ep,tr,hk⟩:∃ps:Array Value,s.heap.get? P=some (PySem.W.tabObj ps)/\TriplesOk ps.toList/\∀pos cv,codeAmong pos ps.toList=some cv->∃(c:Addr) (oc:Obj) (vs:Array Value) (t:Tok),cv=.ref c/\H c=some (.frz oc (.own P))/\oc.data=.fields vs/\vs[1]?=some (Value.str l.qual t):=I.hok P _ tab;have hh:PySem.W.CodeHd s.heap c P:=by
  obtain⟨o,vs,file,tf,flags,tg,inF,text,tt,e,r⟩:=L.hd;exact⟨o,vs,file,tf,flags,tg,inF,text,tt,I.bk _ _ (I.ok.mod.kin _ _ e),r⟩
 have hb:s.heap.BuiltinsAt X.mg P:=by
  obtain⟨bm,o,q1,q2,q5,r⟩:=I.ok.mod.bm;refine⟨bm,o,q1,q2,λz=>?_,λz=>?_,I.bk _ _ q5,r⟩
  .obtain⟨og,es,n,e1,e2,_⟩:=I.ok.mod.glob;rw[<-z,q5]at e1;cases e1;rw[r.2.2]at e2;cases e2
  .have:=(I.bs _ _ q5).2;rw[z,tab]at this;cases this
 have hg:s.heap.Ns mainGlobals X.mg:=I.ok.mod.glob.keeps I.bk;obtain⟨wl,wat⟩:=oY hw hj;have own:∀{x c},(bV X.env l.scope.names).lookup x=some c->X.env.cells.lookup x=some c:=λe=>gB LF e;have C:CellsL l.xs (bV X.env l.scope.names) H s.heap ws:=by
  refine⟨λx c e=>⟨I.freeC x c (own e),I.cell x c (own e)⟩,λi x hx=>?_,wl⟩;obtain⟨j,v,h1,h2,h3⟩:=wat i x hx;have hm:=zaX hx;obtain⟨c,hc⟩:=LS.free x (LS.fr x hm);obtain⟨m,hn,hv⟩:=I.loc;have hkd:=L.kind x hm;obtain⟨u,r,lo⟩:=hv j x v h1 h2 (by rcases hkd with q|q;exact .inr (.inl q);exact .inr (.inr q));rcases lo with⟨q,_⟩|⟨_,c2,q2,q3⟩
  .rcases hkd with z|z<;>(rw[z]at q;cases q)
  .have:=own hc;rw[this]at q2;cases q2;exact⟨v,c,u,h3,hc,r,q3⟩
 have fc:∀x c,(bV X.env l.scope.names).lookup x=some c->c∉frs X.stack:=λx c e z=>by
  have e':=own e;rcases zay.mp (I.stkSub c z)with q|q
  .exact I.cne x c e' q
  .obtain⟨_,o,ho,_⟩:=I.ok.funs.mem q;exact absurd (zag (zal ho) (I.ok.cab x c (L.fn x) e')) (zaI _)
 have nP:∀{b:Addr},H b=none->b≠P:=λn z=>by rw[z,tab]at n;cases n
 refine PySem.W.kla_eval L.dfl ?_;have eq:X.env.qual++Str.ofString "<lambda>"=l.qual:=L.qual;rw[eq];have en:Str.ofString "<lambda>"=l.name:=L.name.symm;rw[en];cases e:codeAmong lpos ps.toList with
 |some cv=>
  obtain⟨c',oc,vs,t,rfl,hc,hd,hq⟩:=hk _ cv e;refine PySem.W.kla_makeFunctionHit (gW LF) I.ok.glob hg L.code hh ep tr e hb λctv h' tk kp sz=>?_;have k2:∀{o:Obj} b u,s.heap.get? b=some u->(h'.push o).get? b=some u:=λb u q=>zaf _ (kp b u q);have hf:H h'.objs.size=none:=I.hok.fresh sz;have ol:∀{b u},H b=some u->∀w,(upd H h'.objs.size w) b=some u:=λ{b u} q w=>by rw[au (a8 q hf)];exact q
  refine⟨h'.objs.size,upd H h'.objs.size (.frz _ (.own h'.objs.size)),rfl,I.laid (t':=tk) k2 sz ⟨zan _ rfl,_,zan _ rfl⟩,⟨λb u q=>ol q _,hf,_,_,ao,rfl⟩,⟨bV X.env l.scope.names,_,ctv,c',oc,vs,t,.own P,LS,zan _ rfl,ao,ol hc _,hd,hq,⟨λx c e=>?_,λi x hx=>?_,C.len⟩,fc⟩⟩
  .obtain⟨n,v,o,q1,q2⟩:=C.no x c e;exact⟨by rw[au (zaw (zag (zal q1) sz))];exact n,v,o,k2 _ _ q1,q2⟩
  .obtain⟨v,c,w,e1,e2,e3,o,q1,q2⟩:=C.at_ i x hx;exact⟨v,c,w,e1,e2,e3,o,k2 _ _ q1,q2⟩
 |none=>
  have hnp:mainGlobals≠P:=λz=>by
   obtain⟨o,es,q,qe,_⟩:=I.ok.mod.glob;exact nP (I.bs _ _ qe).2 z
  refine PySem.W.kla_makeFunction (gW LF) I.ok.glob hg L.code hh ep tr e hnp hb λc' ctv h' tk xb sz lt cr et=>?_;obtain⟨_,oc,vs,t,er,ec,hd,hq⟩:=cr;cases er;have hfr:H c'=none:=I.hok.fresh sz;have k2:∀{o:Obj} b u,b≠P->s.heap.get? b=some u->(h'.push o).get? b=some u:=λb u hb q=>zaf _ (xb b u hb q);have up:∀{b u},H b=some u->(upd H c' (.frz oc (.own P))) b=some u:=λ{b u} q=>by rw[au (a8 q hfr)];exact q
  have old:∀{b:Addr} {o:Obj},s.heap.get? b=some o->b≠c':=λq z=>by
   subst z;exact absurd (zag (zal q) sz) (zaI _)
  have thr:∀(b:Addr) (ob:Obj),s.heap.get? b=some ob->∃o',h'.get? b=some o':=λb ob q=>by
   by_cases z:b=P
   .subst z;exact⟨_,et⟩
   .exact⟨ob,xb b ob z q⟩
  have un:Un (frs X.stack) [] H (upd H c' (.frz oc (.own P))) s.heap h':=
   ⟨λb ob q n _ _=>xb b ob (nP n) q,λb ob q n _ _=>⟨ob.slots,xb b ob (nP n) q⟩,λb ob q n _=>by rw[au (old q)];exact n,λb ob q _=>thr b ob q,λb xs q=>up q,λb ob u q=>up q,λb q' q=>up q⟩
  have hok:HOk X.prog X.w (upd H c' (.frz oc (.own P))) h':=λb u q=>by
   by_cases hb:b=c'
   .subst hb;rw[ao]at q;cases q;exact⟨ec,_,ec⟩
   .rw[au hb]at q;by_cases hp:b=P
    .subst hp;rw[tab]at q;cases q;refine⟨_,et,by simpa using TriplesOk_snoc _ _ _ _ tr,λpos' cv e'=>?_⟩;have e2:codeAmong pos' (ps++#[rawInt ↑lpos.line,rawInt ↑lpos.col,Value.ref c']).toList=some cv:=e';rw[Array.toList_append]at e2;rcases gb ps.toList tr e2 with e3|e3
     .obtain⟨c2,oc2,vs2,t2,z1,z2,z3⟩:=hk _ cv e3;exact⟨c2,oc2,vs2,t2,z1,up z2,z3⟩
     .exact⟨c',oc,vs,t,e3,ao,hd,hq⟩
    .refine(I.hok b u q).stay (λb' u' hb' q'=>xb b' u' (λz=>?_) q') (λb' q'=>up q') λb' u' _ q'=>up q';rcases hb' with z'|z'
     .exact hp (z'.symm.trans z)
     .rw[z,tab]at z';cases z'
  have I2:Inv X ρ σ (upd H c' (.frz oc (.own P))) { s with heap:=h',toks:=tk }:=I.call (h':=h') (g':=s.gens) (d':=s.drawn) (t':=tk) (ch:=[]) un hok I.bare λb z=>by cases z
  have hf:(upd H c' (.frz oc (.own P))) h'.objs.size=none:=I2.hok.fresh (zav _);have hf0:H h'.objs.size=none:=I.hok.fresh (zaW (zbJ sz lt));have ol:∀{b u},(upd H c' (.frz oc (.own P))) b=some u->∀w,(upd (upd H c' (.frz oc (.own P))) h'.objs.size w) b=some u:=λ{b u} q w=>by rw[au (a8 q hf)];exact q
  refine⟨h'.objs.size,upd (upd H c' (.frz oc (.own P))) h'.objs.size (.frz _ (.own h'.objs.size)),rfl,I2.laid (t':=tk) (λb u q=>zaf _ q) (zav _) ⟨zan _ rfl,_,zan _ rfl⟩,⟨λb u q=>ol (up q) _,hf0,_,_,ao,rfl⟩,?_⟩;refine⟨bV X.env l.scope.names,_,ctv,c',oc,vs,t,.own P,LS,zan _ rfl,ao,ol ao _,hd,hq,⟨λx c e=>?_,λi x hx=>?_,C.len⟩,fc⟩
  .obtain⟨n,v,o,q1,q2⟩:=C.no x c e;exact⟨by rw[au (zaw (zag (zal q1) (zaW (zbJ sz lt)))),au (old q1)];exact n,v,o,k2 _ _ (nP n) q1,q2⟩
  .obtain⟨v,c,w,e1,e2,e3,o,q1,q2⟩:=C.at_ i x hx;exact⟨v,c,w,e1,e2,e3,o,k2 _ _ (nP (C.no x c e2).1) q1,q2⟩
end
structure FnOkL(P:Program)(w:World)(K:zbV)(mg:Str->Option Value)(base:Heap)(CX:CXT)(k:Nat)(f:Addr)(fd:FuncData)(ps:List Str)(l:Lam)(sp:Addr->List V->Sp):Prop where
 len:∀a ws vs H Q E,sp a ws vs H Q E->vs.length=ps.length
 run:∀(A:Around) (outer:List Env) (s:Shared) (H:Hp) (args:Args) (us:List Value) (a:Addr) (ws vs:List V) (Q:VK) (E:XK),Room k A->Env0 P w K mg base A outer s H->BindsTo s fd args (ps.zip us)->Vals vs us->LamAt l outer H s.heap a ws->sp a ws vs H Q E ->
  codeAny (model P w) A (.call (.ref f) args) (CR CX outer P w H s Q E) s
section
variable{P:Addr}{sp:Addr->List V->Sp}{E:XK}{p:Pos}  
def oT(sp:Addr->List V->Sp)(js:List Nat)(E:XK)(te:TE):TE:=λσ H Q=>te σ H λv H1=>∃ws,a6 σ js=some ws/\∀a H2,GrowL a H1 H2->sp a ws [v,.ref a] H2 Q E
def sD(F:FnOkL X.prog X.w X.K X.mg X.base CX k f fd ps l sp)(hr:Room k X.A)(hg:Gl X x)(hm:X.mg x=some (.ref f))(hk:PySem.W.keepIn X.K (.ref f)=true)(hb:Binds X.K fd ps [])(hx:mK CX X E)
  (L:LamHere X l lpos c P) (hj:js.map (X.N[·]?)=l.xs.map some) (he:PE X e te) (hdb:(x==("__debug__":Str))=false:=by decide)
  (h1:starEach [e,.Lambda l.params l.body l.scope lpos] X.env=(false,eval e X.env)::starEach [.Lambda l.params l.body l.scope lpos] X.env:=by rfl) (h2:starEach [.Lambda l.params l.body l.scope lpos] X.env=[(false,eval (.Lambda l.params l.body l.scope lpos) X.env)]:=by rfl)
  (hpl:(backTo pos (starEach [.Lambda l.params l.body l.scope lpos] X.env)).any (·.1)=false:=by rfl):
  PE X (.Call (.Name x p) [e,.Lambda l.params l.body l.scope lpos] [] pos) (oT sp js E te):=by
 intro ρ s σ H Q I h;refine wpAny_Call_Name_kw (nc I hg hm ?_ hdb);have args:wpAny (model X.prog X.w) X.A (spliced (backTo pos (starEach [e,.Lambda l.params l.body l.scope lpos] X.env))) (λus s1=>∃v a ws H2,Inv X ρ σ H2 s1/\Vals [v,.ref a] us/\LamAt l X.stack H2 s1.heap a ws/\sp a ws [v,.ref a] H2 Q E) X.xe s:=by
  rw[h1,h2];show wpAny _ _ (spliced [(false,eval e X.env),(false,eval (.Lambda l.params l.body l.scope lpos) X.env)]) _ _ s;refine Calls.spliced_cons (thn (he ρ s σ H _ I h) λu s1 ⟨v,H1,I1,r1,ws,hw,q⟩=>?_);refine Calls.spliced_cons (thn (wO I1 L hw hj) λu2 s2 ⟨a,H2,e2,I2,g,la⟩=>?_);subst e2;exact Calls.spliced_nil ⟨v,a,ws,H2,I2,.cons r1 (.cons rfl .nil),la,q a H2 g⟩
 refine PySem.W.callWith_K (h₀:=X.base) I.ok.mod.kin hk (thn args λus s1 ⟨v,a,ws,H2,I1,r,la,q⟩=>⟨I1.kIn,?_⟩) h1 hpl;have hl:(us++[]).length=ps.length:=by rw[zbs,<-r.length];exact F.len _ _ _ _ _ _ q
 refine wpAny_call (codeAny_mono (F.run X.A X.stack s1 H2 ⟨us,[]⟩ us a ws _ Q E hr I1.env0 (by have:=hb s1 us I1.kIn hl;rwa[zbs]at this) r la q) λr s' hq=>?_);cases r with
 |error e=>exact hx ρ σ H2 s1 e s' I1 hq
 |ok fl=>
  cases fl with
  |ret u=>exact I1.after hq
  |next=>exact False.elim hq
  |brk=>exact False.elim hq
  |cont=>exact False.elim hq
end
section
variable{σ':St} 
def Inv.hidden(I:Inv X ρ σ H s)(h:Nat->Option V)(hl:σ'.length=σ.length)(hv:∀i u,h i=some u->∀x,X.N[i]?=some x->¬Vis X.env.scope x)
  (hs:∀(i:Nat) (v:V),σ'[i]?=some (some v)->h i=some v\/(h i=none/\σ[i]?=some (some v))):Inv { X with hide:=h } ρ σ' H s:=
 ⟨⟨I.ok.mod,I.ok.kind,I.ok.glob,I.ok.blt,I.ok.above,I.ok.inj,I.ok.has,I.ok.cab,I.ok.hd,I.ok.frames,I.ok.stk,I.ok.exf,I.ok.bs,I.ok.bsz,I.ok.noex,I.ok.exfs,I.ok.funs,I.ok.frf,I.ok.reg⟩,I.os,I.bare,I.base,
  let⟨m,hn,hl'⟩:=I.loc;⟨m,hn,λi x v e1 e2 e3=>(hs i v e2).elim (λz=>absurd e3 (hv i v z x e1)) λz=>hl' i x v e1 z.2 e3⟩,I.cell,I.free,I.freeC,I.pin,I.hok,hl.trans I.len,
  λi u e=>⟨λv q=>(hs i v q).elim (λz=>by rw[show h i=some u from e]at z;cases z;rfl) (λz=>by rw[show h i=some u from e]at z;cases z.1),hv i u e⟩⟩
end
noncomputable def jB(n:Nat)(ws:List V):Nat->Option V:=λi=>if n<=i then ws[i-n]? else none
def cxH(CX:CXT)(P:Program)(w:World)(K:zbV)(mg:Str->Option Value)(base:Heap)(N:List Str)(qual:Str)(scope:Scope)(f:Addr)(cd:Value)(A:Around)(outer:List Env)(s:Shared)(H:Hp)(E:XK)(n:Nat)(ws:List V):Cx:=
 { iV CX P w K mg base N qual scope f cd A outer s H E with hide:=jB n ws }
def Fw{base:Heap}{body:List Stmt}{dV kV doc cdv:Value} 
  {osl:Array (Option Value)}  {sp:Addr->Sp} (lk:K.lookup f=some ⟨oc,od,.func (PySem.W.fnOf name qual params body scope dV kV doc pm an cdv ct),osl⟩) (hcd:PySem.W.codeIn K cdv qual=true) (S:FnScope N ps scope)
  (len:∀a vs H Q E,sp a vs H Q E->vs.length=ps.length+m) (hm:l.xs.length=m) (hN:ps.length+m<=N.length) (hv:∀(i:Nat) (x:Str),N[i]?=some x->ps.length<=i->i<ps.length+m->¬Vis scope x)
  (hbody:∀(A:Around) (outer:List Env) (s:Shared) (H:Hp) (a:Addr) (ws vs:List V) (Q:VK) (E:XK),Room k (A.deeper (envOfC qual scope s.heap.objs.size f cdv))->LamAt l outer H s.heap a ws->ws.length=m->sp a (vs++ws) H Q E ->
   ∃t,PSs (cxH CX P w K mg base N qual scope f cdv A outer s H E ps.length ws) body t/\t { nx:=λ_ H'=>Q .non H',rt:=Q } (bD N (vs++ws)) H):
  FnOkL P w K mg base CX (k+1) f (PySem.W.fnOf name qual params body scope dV kV doc pm an cdv ct) ps l (λa ws vs H Q E=>vs.length=ps.length/\ws.length=m/\sp a (vs++ws) H Q E):=by
 refine⟨λa ws vs H Q E z=>z.1,λA outer s H args us a ws vs Q E hr e0 hb r hL ⟨hl,hw,hsp⟩=>?_⟩;have KX:K.In s.heap:=e0.mod.kin.keeps λb o e=>(e0.bs b o e).1;have lim:s.heap.NoLimit:=e0.mod.nolimit.keeps λb o e=>(e0.bs b o e).1;have hkind:∀y∈ps.zip us,scope.names.lookup y.1=some .local\/(scope.names.lookup y.1=some .cell/\((cellsFrom (s.heap.objs.size+1) scope.names []).lookup y.1).isSome=true):=λ⟨n,v⟩ hy=>by
  rcases S.par n (List.of_mem_zip hy).1 with q|q
  .exact .inl q
  .exact .inr ⟨q,PySem.W.cellsFrom_some _ _ _ (.inl q)⟩
 refine codeAny_call_function hr.depth (KX _ _ lk) rfl S.co S.gen rfl (PySem.W.codeRec_of KX hcd) (hb _ _ _ _ ?_);refine wpAny_newFunctionEnv_cells S.kind hkind λenv he s1 x=>?_;subst he;refine⟨lim.keeps x.toInCall.keep,codeAny_func ?_⟩;obtain⟨t,ht,hq⟩:=hbody A outer s H a ws vs Q E (hr.deeper _) hL hw hsp;have key:∀(ρ:List (Addr×Obj)) (s2:Shared) (H2:Hp),Inv (iV CX P w K mg base N qual scope f cdv A outer s H E) ρ (bD N vs) H2 s2->Inv (cxH CX P w K mg base N qual scope f cdv A outer s H E ps.length ws) ρ (bD N (vs++ws)) H2 s2:=λρ s2 H2 I=>by
  refine I.hidden (jB ps.length ws) ?_ (λi u e x hx=>?_) λi v q=>?_
  .unfold bD;simp only[zae,zad,zaN]
   lia
  .unfold jB at e;split at e
   .next hi=>
    have:=(zah.mp e).1;exact hv i x hx hi (by lia)
   .cases e
  .unfold jB;by_cases h1:i<vs.length
   .rw[if_neg (by lia)];refine .inr ⟨rfl,?_⟩;unfold bD at q ⊢;rw[zaS (by simp only[zad,zae];lia),zao,zaS h1]at q;rw[zaS (by simp only[zad];lia),zao];exact q
   .rw[if_pos (by lia)];by_cases h2:i<vs.length+ws.length
    .unfold bD at q;rw[zaS (by simp only[zad,zae];lia),zao,zbH (by lia),hl]at q;cases e:ws[i-ps.length]? with
     |none=>rw[e]at q;cases q
     |some y=>rw[e]at q;cases q;exact .inl rfl
    .unfold bD at q;rw[zbH (by simp only[zad,zae];lia),List.getElem?_replicate]at q;split at q<;>cases q
 have I:=key [] s1 H (nQ S hr.hd e0 hl r x);refine wpAny_mono (ht [] s1 (bD N (vs++ws)) H _ I hq) (λfl s' hs=>?_) λe s' hs=>hs;have fin:∀{σ':St} {H':Hp} {v:V} {u:Value},Inv (cxH CX P w K mg base N qual scope f cdv A outer s H E ps.length ws) [] σ' H' s'->RelV v u->Q v H'->CE outer P w H s Q u s':=
  λ{σ' H' v u} J rv q=>⟨v,H',J.os,J.bare,J.base,J.hok,rv,q⟩
 cases fl with
 |ret u=>
  obtain⟨v,σ',H',J,rv,q⟩:=hs;exact fin J rv q
 |next=>
  obtain⟨σ',H',J,q⟩:=hs;exact fin (v:=V.non) (u:=Value.none) J rfl q
 |brk=>
  obtain⟨_,_,_,q⟩:=hs;exact False.elim q
 |cont=>
  obtain⟨_,_,_,q⟩:=hs;exact False.elim q
def LamSp(P:Program)(w:World)(K:zbV)(mg:Str->Option Value)(base:Heap)(k:Nat)(l:Lam)(sp:Sp):Prop:=
 (∀(us:List Value) (cl:List (Str×Addr)) (pm ctv:Value) (c':Addr),us.length=l.ps.length->bindArgs (PySem.W.kla_fn l.name l.qual l.params l.body l.scope cl pm (.ref c') ctv) ⟨us,[]⟩=pure (l.ps.zip us)) /\
 ∀(A:Around) (outer:List Env) (s:Shared) (H:Hp) (f:Addr) (cd:Value) (cl:List (Str×Addr)) (xe:Value->Shared->Prop) (vs:List V) (Q:VK) (E:XK),LamScope l.ps l.xs l.scope cl->Room k (A.deeper (PySem.W.envX l.qual l.scope s.heap.objs.size f cd cl))->sp vs H Q E ->
  ∃t,PE (cxL P w K mg base (l.ps++l.xs) l.qual l.scope f cd cl A outer s H xe) l.body t/\t (vs.map some) H Q
section
variable{ws:List V}{p:Pos}{es:List Expr}{t:TA}{E:XK}
def D6(i:Nat)(a:Addr)(n:Nat)(js:List Nat)(sp:Sp)(E:XK)(t:TA):TE:=λσ H Q=>σ[i]?=some (some (.ref a))/\t σ H λvs H1=>∃us,a6 σ js=some us/\vs.length=n/\sp (vs++us) H1 Q E
theorem l3{ρ:List (Addr×Obj)}{σ:St}{H:Hp}{s:Shared}(I:Inv X ρ σ H s):∀{js:List Nat} {ws us:List V},js.map X.hide=ws.map some->a6 σ js=some us->us=ws
 |[],[],us,_,h=>by cases h;rfl
 |[],_::_,_,e,_=>by cases e
 |_::_,[],_,e,_=>by cases e
 |j::js,w::ws,us,e,h=>by
  rw[zar,zar]at e;obtain⟨e1,e2⟩:=List.cons.inj e;unfold a6 at h;split at h
  next v hv=>
   cases q:a6 σ js with
   |none=>rw[q]at h;cases h
   |some r=>
    rw[q]at h;cases h;rw[(I.hid j w e1).1 v hv,l3 I e2 q]
  next=>cases h
def wp(hL:LamAt l X.outer X.H₀ X.s₀.heap a ws)(hx:X.ex=[])(hh:js.map X.hide=ws.map some)(ok:LamSp X.prog X.w X.K X.mg X.base k l sp)(hr:Room (k+1) X.A)(h1:Room 1 X.A)(hN:X.N[i]?=some x)(hv:Vis X.env.scope x)(ha:PA X (e::es) t)
  (hd:(x==("__debug__":Str))=false:=by decide) (hcd:(x==("__classdict__":Str))=false:=by decide)
  (he:starEach (e::es) X.env=(false,eval e X.env)::starEach es X.env:=by rfl) (hpl:(backTo pos (starEach es X.env)).any (·.1)=false:=by rfl):
  PE X (.Call (.Name x p) (e::es) [] pos) (D6 i a l.ps.length js sp E t):=by
 intro ρ s σ H Q I ⟨hi,h⟩;refine wpAny_Call_Name_kw (thn (cF hN hv hd hcd ρ s σ H (λv H1=>v=.ref a/\t σ H1 λvs H2=>∃us,a6 σ js=some us/\vs.length=l.ps.length/\sp (vs++us) H2 Q E) I ⟨.ref a,hi,rfl,h⟩) ?_);rintro u s1 ⟨v,H1,I1,r1,rfl,h1'⟩;have eu:u=.ref a:=r1;subst eu;rw[he];refine PySem.W.callWith_of (P:=λh=>∃H2,LamAt l X.outer H2 h a ws) (by show((false || (backTo pos (starEach es X.env)).any (·.1)) || false)=false;rw[hpl];rfl) (λh ⟨H2,L⟩=>Bx h L) (Calls.evalArgs_plain ?_);have q:=ha pos ρ s1 σ H1 _ I1 h1';rw[he]at q;refine thn q λus s2 ⟨vs,H2,I2,rv,zs,hz,hl,hq⟩=>⟨⟨H2,I2.lam hx hL⟩,?_⟩;obtain⟨cl,pm,ctv,c',oc,cs,tk,w,S,ho,na,hc,hcd2,hcq,C,fc⟩:=I2.lam hx hL;have hcr:s2.heap.CodeRec (.ref c') l.qual:=⟨c',oc,cs,tk,rfl,(I2.hok c' _ hc).1,hcd2,hcq⟩;have ul:us.length=l.ps.length:=by rw[<-rv.length];exact hl
 have ez:zs=ws:=l3 I2 hh hz;subst ez;refine wpAny_call ?_;obtain⟨tl,pl,hq⟩:=ok.2 X.A X.stack s2 H2 a (.ref c') cl _ (vs++zs) Q E S (hr.deeper _) hq;exact Bt (R:=λr s'=>match r with|.ok (.ret v)=>EP X ρ σ Q v s'|.ok _=>False|.error e=>X.xe e s') S h1 I2.env0 ho hcr ul rv C (ok.1 us cl pm ctv c' ul) pl hq λu s' ce=>I2.after ce
end
def PAH(X:Cx)(es:List Expr)(js:List Nat)(t:TA):Prop:=
 ∀(pos:Pos) (ρ:List (Addr×Obj)) (s:Shared) (σ:St) (H:Hp) (Q:List V->Hp->Prop),Inv X ρ σ H s->t σ H Q ->
  wpAny (model X.prog X.w) X.A (spliced (backTo pos (starEach es X.env))) (λus s'=>∃vs ws H',Inv X ρ σ H' s'/\Vals vs us/\a6 σ js=some ws/\Q (vs++ws) H') X.xe s
def lY:List Nat->TA
 |[]=>ss
 |j::js=>kU (fT j) (lY js)
theorem nI{σ:St}:∀{js:List Nat} {H:Hp} {Q:List V->Hp->Prop},lY js σ H Q->∃ws,a6 σ js=some ws/\Q ws H
 |[],H,Q,h=>⟨[],rfl,h⟩
 |j::js,H,Q,h=>by
  obtain⟨v,hv,h⟩:=h;obtain⟨ws,hw,q⟩:=nI (js:=js) h;exact⟨v::ws,by unfold a6;rw[hv];simp[hw],q⟩
theorem iN{σ:St}:∀{js:List Nat} {ws:List V},a6 σ js=some ws->ws.length=js.length
 |[],_,h=>by cases h;rfl
 |j::js,ws,h=>by
  unfold a6 at h;split at h
  next v hv=>
   cases q:a6 σ js with
   |none=>rw[q]at h;cases h
   |some r=>rw[q]at h;cases h;simp[iN q]
  next=>cases h
def tPA(js:List Nat)(t:TA):TA:=λσ H Q=>∃Q3,t σ H Q3/\∀vs us H1,a6 σ js=some us->Q3 (vs++us) H1->Q vs H1
section
variable{ws:List V}{p:Pos}{es:List Expr}{t:TA}{E:XK}
def pah_nil:PAH X [] js (lY js):=λ_ _ _ _ H Q I h=>by
 obtain⟨ws,hw,q⟩:=nI h;exact Calls.spliced_nil ⟨[],ws,H,I,.nil,hw,q⟩
def wv(ha:PE X e te)(hr:PAH X es js t)(hs:starEach (e::es) X.env=(false,eval e X.env)::starEach es X.env:=by rfl):PAH X (e::es) js (kU te t):=by
 intro pos ρ s σ H Q I h;rw[hs];show wpAny _ _ (spliced ((false,eval e X.env)::backTo pos (starEach es X.env))) _ _ s;refine Calls.spliced_cons (thn (ha ρ s σ H _ I h) λu s1 ⟨x,H1,I1,r1,q1⟩=>?_);exact thn (hr pos ρ s1 σ H1 _ I1 q1) λus s2 ⟨xs,ws,H2,I2,r2,hw,q2⟩=>⟨x::xs,ws,H2,I2,.cons r1 r2,hw,q2⟩
def PAH.pa(h:PAH X es js t):PA X es (tPA js t):=by
 intro pos ρ s σ H Q I ⟨Q3,h3,hk⟩;exact thn (h pos ρ s σ H Q3 I h3) λus s' ⟨vs,ws,H',I',r,hw,q⟩=>⟨vs,H',I',r,hk vs ws H' hw q⟩
def wq(hL:LamAt l X.outer X.H₀ X.s₀.heap a ws)(hx:X.ex=[])(hh:js.map X.hide=ws.map some)(ok:LamSp X.prog X.w X.K X.mg X.base k l sp)(ξ:∀vs H Q E,sp vs H Q E->vs.length=l.ps.length+js.length)(hr:Room (k+1) X.A)(h1:Room 1 X.A)(hN:X.N[i]?=some x)(hv:Vis X.env.scope x)(ha:PAH X (e::es) js t)
  (hd:(x==("__debug__":Str))=false:=by decide) (hcd:(x==("__classdict__":Str))=false:=by decide)
  (he:starEach (e::es) X.env=(false,eval e X.env)::starEach es X.env:=by rfl) (hpl:(backTo pos (starEach es X.env)).any (·.1)=false:=by rfl):
  PE X (.Call (.Name x p) (e::es) [] pos) (λσ H Q=>σ[i]?=some (some (.ref a))/\kW sp [] E t σ H Q):=by
 intro ρ s σ H Q I ⟨hi,h⟩;refine wp (E:=E) hL hx hh ok hr h1 hN hv ha.pa hd hcd he hpl ρ s σ H Q I ⟨hi,_,h,λvs us H1 hu q=>⟨us,hu,?_,?_⟩⟩
 .have:=ξ _ _ _ _ q;have hl:=iN hu;simp only[zae,zbs]at this
  lia
 .rwa[zbs]at q
end
def Ow.fnK_ref{a:Nat}{F:AS}(h:Ow K O H (.dict (fnK a)) d v F):v=.ref a:=by
 have owd:∀{d:Nat} {vs:List (Key×V)} {F:AS},Owd K O H (fnK a) d vs F->False:=λ{d vs F} w=>by
  obtain⟨q,v,r',F1,F2,_,e2,_⟩:=w;cases q<;>cases e2
 have pr:∀{rd:HO->Prop},PrD O H rd (fnK a)->False:=λ{rd} ⟨kvs,ad,_,z,_⟩=>by cases z
 obtain⟨p,vs,e,⟨_,_,_,w⟩|⟨_,_,_,F',_,w⟩|⟨_,⟨z,_⟩|⟨_,_,z,_⟩|⟨z,_⟩⟩|⟨_,_,z⟩⟩:=h
 .exact(owd w).elim
 .exact(owd w).elim
 .exact(pr z).elim
 .cases z
 .have:(a:Int)=(p:Int):=by
   unfold fnK at z;injection z with z _
   injection z with _ z
   injection z
  rw[e,Int.ofNat.inj this]
 .exact(pr z).elim
def gA(i:Nat)(a:Addr)(F:List D->Option (D×En))(fa:MA):ME:=λen=>match en[i]? with
 |some (some (.dict [(.none,.int b)]))=>if b=(a:Int)then am F fa en else none
 |_=>none
def B1{Q:VK}{E:XK}{F:List D->Option (D×En)}(hc:bL ds1 sh dps=true)(h:tF K (p&&cG sh) ds ds1 dr (gA i a F fa) σ H Q):
  σ[i]?=some (some (.ref a))/\kW (spF K dps dr F) [] E (tFA K p ds ds1 sh fa) σ H Q:=by
 obtain⟨Ox,en,R,t,en',e,hf,k⟩:=h;unfold gA at hf;split at hf
 next b hb=>
  by_cases hba:b=(a:Int)
  case neg=>rw[if_neg hba]at hf;cases hf
  rw[if_pos hba]at hf;subst hba;obtain⟨v,d,h1,_,ow⟩:=e.at_ i _ hb;have hv:=Ow.fnK_ref (a:=a) ow;subst hv;exact⟨h1,xx hc ⟨Ox,en,R,t,en',e,hf,k⟩⟩
 next=>cases hf
def xv{ws:List V}{es:List Expr}{F:List D->Option (D×En)}
  (hL:LamAt l X.outer X.H₀ X.s₀.heap a ws) (hx:X.ex=[]) (hh:js.map X.hide=ws.map some) (ok:LamSp X.prog X.w X.K X.mg X.base k l (spF X.K dps dr F)) (hdl:dps.length=l.ps.length+js.length) (hr:Room (k+1) X.A) (h1:Room 1 X.A) (hN:X.N[i]?=some x) (hv:Vis X.env.scope x)
  (ha:PAH X (e::es) js (tFA X.K p ds ds1 sh fa)) (hc:bL ds1 sh dps=true) (hd:(x==("__debug__":Str))=false:=by decide) (hcd:(x==("__classdict__":Str))=false:=by decide)
  (he:starEach (e::es) X.env=(false,eval e X.env)::starEach es X.env:=by rfl) (hpl:(backTo pos (starEach es X.env)).any (·.1)=false:=by rfl):
  PE X (.Call (.Name x px) (e::es) [] pos) (tF X.K (p&&cG sh) ds ds1 dr (gA i a F fa)):=
 (wq (E:=λ_ _ _=>False) hL hx hh ok (λvs H Q E z=>by obtain⟨Ox,ts,R,r,ψ,e0,_⟩:=z;have l2:=e0.l2;rw[zad]at l2;omega) hr h1 hN hv ha hd hcd he hpl).imp λ_ _ _ h=>B1 hc h
def PAH.imp{es:List Expr}{t t':TA}(h:PAH X es js t)(hi:∀σ H Q,t' σ H Q->t σ H Q):PAH X es js t':=λpos ρ s σ H Q I hw=>h pos ρ s σ H Q I (hi _ _ _ hw)
def xj{p1 p2:Bool}{es:List Expr}{f:ME}(ha:PE X e (tF K p1 ds ds1 d f))(hr:PAH X es js (tFA K p2 ds1 ds2 sh fa))(hs:starEach (e::es) X.env=(false,eval e X.env)::starEach es X.env:=by rfl):
  PAH X (e::es) js (tFA K (p1&&p2) ds ds2 (.inl d::sh) (ab f fa)):=(wv ha hr hs).imp λ_ _ _=>jb
noncomputable def kX(en:En):List Nat->Option (List D)
 |[]=>some []
 |j::js=>(en[j]?).join.bind λt=>(kX en js).map (t::·)
open Classical in
noncomputable def e8(F:Nat->List D->Option (D×En))(js:List Nat)(f:ME):ME:=λen=>(f en).bind λr=>(kX r.2 js).bind λcs=>
 (F 0 (r.1::.dict (fnK 0)::cs)).bind λq=>if ∀a:Nat,∃o,F a (r.1::.dict (fnK a)::cs)=some (q.1,o)then some (q.1,r.2)else none
noncomputable def fu(ds:List Nat)(js:List Nat):Bool:=js.all λj=>decide (ds[j]?=some 0)
section
variable{Ox:AS}{H1 H2:Hp}{en en1:En}{R R1:Nat->AS}{F0:AS}{Q:VK}{E:XK}{f:ME} 
theorem qp:∀(ts:List D) (en:En),dD (ts.map .inl) en=some ts
 |[],_=>rfl
 |t::r,en=>by
  show(dD (r.map .inl) en).map (t::·)=_;rw[qp r en];rfl
theorem ug:∀(ts:List D) (ψ en:En),wb (ts.map .inl) ψ en=en
 |[],_,_=>rfl
 |_::_,[],_=>rfl
 |_::r,_::o,en=>ug r o en
theorem lu(e:EnvOk K ds1 Ox H1 σ en1 R1):∀{js:List Nat} {cs:List D},fu ds1 js=true->kX en1 js=some cs->∃ws,a6 σ js=some ws/\cs.length=js.length/\OwA K (Own R1 Ox) H1 σ (cs.map .inl) (js.map λ_=>.inl 0) ws NoA
 |[],_,_,h=>by cases h;exact⟨[],rfl,rfl,rfl,rfl⟩
 |j::js,cs,z,h=>by
  unfold kX at h;obtain⟨t,h1,h⟩:=zaa.mp h;obtain⟨r,h2,h⟩:=zab.mp h;cases h;have z':decide (ds1[j]?=some 0)=true/\fu ds1 js=true:=by
   have:(decide (ds1[j]?=some 0)&&fu ds1 js)=true:=z;exact zbm _ _▸this
  obtain⟨ws,g1,g2,g3⟩:=lu e z'.2 h2;have q:en1[j]?=some (some t):=by
   cases q:en1[j]? with
   |none=>rw[q]at h1;cases h1
   |some o=>rw[q]at h1;exact congrArg some h1
  obtain⟨v,d,k1,k2,k3⟩:=e.at_ j t q;rw[of_decide_eq_true z'.1]at k2;cases k2;refine⟨v::ws,by unfold a6;rw[k1];simp[g1],by simp[g2],v,ws,0,_,NoA,NoA,rfl,rfl,λ_ z=>z,λ_ z=>z,λ_ z=>z.elim,Ow.any0 t k3,g3⟩
theorem kz{ds:List Nat}:∀(js:List Nat),bL ds (js.map λ_=>.inl 0) (js.map λ_=>0)=true
 |[]=>rfl
 |_::js=>by
  show(decide (0=0)&&bL ds (js.map λ_=>.inl 0) (js.map λ_=>0))=true;rw[kz js];rfl
theorem jv:∀(js:List Nat),cG (js.map λ_=>.inl 0)=true
 |[]=>rfl
 |_::js=>jv js
theorem OwA.mvL:∀{as:List D} {js:List Nat} {vs:List V} {O O':AS},Mv O O' NoA H1 H2->OwA K O H1 σ (as.map .inl) (js.map λ_=>.inl 0) vs NoA->OwA K O' H2 σ (as.map .inl) (js.map λ_=>.inl 0) vs NoA
 |[],_,_,_,_,_,h=>h
 |t::as,[],_,_,_,_,h=>by obtain⟨v,r,d,dr,F1,F2,e1,e2,_⟩:=h;cases e2
 |t::as,j::js,vs,O,O',m,h=>by
  obtain⟨v,r,d,dr,F1,F2,e1,e2,s1,s2,s3,h1,h2⟩:=h;cases e2;exact⟨v,r,0,_,F1,F2,e1,rfl,s1,s2,s3,Ow.mv m t (λb z=>s1 b z) h1,OwA.grow (λ_ z=>z) (λ_ z=>z.elim) (OwA.mvL (as:=as) (js:=js) m (OwA.grow (λ_ z=>z) s2 h2))⟩
def vE(hdp:dps=0::0::js.map λ_=>0)(hz:fu ds1 js=true)(h:tF K p ds ds1 dr (e8 F js f) σ H Q):
  oT (λa ws vs H Q E=>vs.length=2/\ws.length=js.length/\spF K dps dr (F a) (vs++ws) H Q E) js E (tF K p ds ds1 0 f) σ H Q:=by
 subst hdp;obtain⟨Ox,en,R,t,en',e,hf,k⟩:=h;unfold e8 at hf;obtain⟨⟨t1,en1⟩,h1,hf⟩:=zaa.mp hf;obtain⟨cs,h2,hf⟩:=zaa.mp hf;obtain⟨⟨r,o0⟩,h3,hf⟩:=zaa.mp hf;split at hf
 case isFalse=>cases hf
 next hall=>
  cases hf;refine⟨Ox,en,R,t1,en1,e,h1,λv H1 R1 F1 P o=>?_⟩;obtain⟨ws,g1,g2,g3⟩:=lu P.env hz h2;refine⟨ws,g1,λa H2 g=>⟨rfl,iN g1,?_⟩⟩;obtain⟨ψ,ha⟩:=hall a;have P2:Post K p ds1 (U F1 Ox) σ H1 en1 R1 en1 H2 R1 NoA:=Post.new P.env g.keep λb z=>z.elim;have P3:=P.trans P2;have eU:U F1 NoA=F1:=dv λb=>⟨λz=>z.elim id λz=>z.elim,.inl⟩;rw[eU,zbk]at P3;have mv:Mv (Own R1 (U F1 Ox)) (Own R1 (U F1 Ox)) NoA H1 H2:=⟨λb u q _=>g.keep b u q,λb z=>.inl z⟩;have no:¬Own R1 (U F1 Ox) a:=λz=>by
   obtain⟨u,q⟩:=P.env.dom a z;rw[g.new]at q;cases q
  have own:OwA K (Own R1 (U F1 Ox)) H2 σ ((t1::PyData.dict (fnK a)::cs).map .inl) (.inl 0::.inl 0::js.map λ_=>.inl 0) (v::.ref a::ws) F1:=
   ⟨v,_,0,_,F1,NoA,rfl,rfl,λ_ z=>z,λ_ z=>z.elim,λ_ _ z=>z.elim,Ow.mv mv t1 (F:=NoA) (λ_ z=>z) (Ow.any0 t1 o) |> Ow.any0 t1,
    .ref a,_,0,_,NoA,NoA,rfl,rfl,λ_ z=>z,λ_ z=>z,λ_ z=>z.elim,⟨a,[],rfl,.inr (.inr (.inl ⟨rfl,.inr (.inr ⟨rfl,g.fn,no⟩)⟩))⟩,OwA.mvL mv g3⟩
  have hc:bL ds1 (.inl 0::.inl 0::js.map λ_=>.inl 0) (0::0::js.map λ_=>0)=true:=by
   show(decide (0=0)&&(decide (0=0)&&bL ds1 (js.map λ_=>.inl 0) (js.map λ_=>0)))=true;rw[kz js];rfl
  have hns:cG (.inl 0::.inl 0::js.map λ_=>.inl 0)=true:=jv js;refine uB (p:=p) (sh:=.inl 0::.inl 0::js.map λ_=>.inl 0) hc P3 own (qp _ en1) ha λv' H' R' F' P4 _ o4=>?_;rw[ug,hns,zbT]at P4;exact k v' H' R' F' P4 o4
end
def tJ{P:Addr}            
  (fo:FnOkL X.prog X.w X.K X.mg X.base CX0 k f fd ps l (λa ws vs H Q E=>vs.length=ps.length/\ws.length=m/\spF X.K dps dr (F a) (vs++ws) H Q E)) (hp2:ps.length=2) (hm2:m=js.length) (hdp:dps=0::0::js.map λ_=>0) (hz:fu ds1 js=true)
  (hr:Room k X.A) (hg:Gl X x) (hm:X.mg x=some (.ref f)) (hk:PySem.W.keepIn X.K (.ref f)=true) (hb:Binds X.K fd ps []) (L:LamHere X l lpos c P) (hj:js.map (X.N[·]?)=l.xs.map some) (he:PE X e (tF X.K p ds ds1 0 g)) (hdb:(x==("__debug__":Str))=false:=by decide)
  (h1:starEach [e,.Lambda l.params l.body l.scope lpos] X.env=(false,eval e X.env)::starEach [.Lambda l.params l.body l.scope lpos] X.env:=by rfl) (h2:starEach [.Lambda l.params l.body l.scope lpos] X.env=[(false,eval (.Lambda l.params l.body l.scope lpos) X.env)]:=by rfl)
  (hpl:(backTo pos (starEach [.Lambda l.params l.body l.scope lpos] X.env)).any (·.1)=false:=by rfl):
  PE X (.Call (.Name x px) [e,.Lambda l.params l.body l.scope lpos] [] pos) (tF X.K p ds ds1 dr (e8 F js g)):=by
 subst hm2;rw[hp2]at fo;exact(sD (E:=E0) fo hr hg hm hk hb Ap L hj he hdb h1 h2 hpl).imp λ_ _ _ h=>vE hdp hz h
def lj:List Nat->MA
 |[]=>ai
 |j::js=>ab (ac j) (lj js)
theorem rS{K:zbV}{ds:List Nat}{σ:St}:∀{js:List Nat} {H:Hp} {Q:List V->Hp->Prop},fu ds js=true->tFA K true ds ds (js.map λ_=>.inl 0) (lj js) σ H Q->lY js σ H Q
 |[],_,_,_,h=>qc h
 |j::js,_,_,z,h=>by
  have z':decide (ds[j]?=some 0)=true/\fu ds js=true:=by
   have:(decide (ds[j]?=some 0)&&fu ds js)=true:=z;exact zbm _ _▸this
  obtain⟨v,hv,h⟩:=AK (of_decide_eq_true z'.1) (jb (p1:=true) (p2:=true) h);exact⟨v,hv,rS z'.2 h⟩
def xi(z:fu ds js=true):PAH X [] js (tFA K true ds ds (js.map λ_=>.inl 0) (lj js)):=pah_nil.imp λ_ _ _=>rS z
def BD{ws:List V}(h:ws.length=m):(List.range' n m).map (jB n ws)=ws.map some:=by
 subst h;refine List.ext_getElem? λi=>?_;rw[zao,zao];by_cases hi:i<ws.length
 .rw[List.getElem?_range' hi,zak hi];show some (jB n ws (n+1*i))=_;unfold jB;rw[if_pos (by lia),show n+1*i-n=i by lia,zak hi];rfl
 .rw[zbl (by simpa using hi),zbl (by simpa using hi)];rfl
section
variable{ws:List V}{f:ME}{F:List D->Option (D×En)}
def Hy(hL:LamAt l X.outer X.H₀ X.s₀.heap a ws)(hx:X.ex=[])(hh:js.map X.hide=ws.map some)(ok:LamSp X.prog X.w X.K X.mg X.base k l (spF X.K (d::js.map λ_=>0) dr F))(hl:l.ps.length=1)(hr:Room (k+1) X.A)
  (ha:QE X e (tF X.K p ds ds1 d f)) (h:vck X x i .local:=by rfl) (hz:fu ds1 js=true:=by rfl) (hn:bg e=true:=by rfl):QE X (.Call (.Name x px) [e] [] pos) (tF X.K p ds ds1 dr (gA i a F (ab f (lj js)))):=by
 simp only[vck,za1]at h;have hc:bL ds1 (.inl d::js.map λ_=>.inl 0) (d::js.map λ_=>0)=true:=by
  show(decide (d=d)&&bL ds1 (js.map λ_=>.inl 0) (js.map λ_=>0))=true;rw[kz js];simp
 have hns:cG (.inl d::js.map λ_=>.inl 0)=true:=jv js
 have:=xv (pos:=pos) (px:=px) hL hx hh ok (by simp[hl];lia) hr (hr.mono (by lia)) h.1 (.inl h.2.1) (xj ha.h (xi hz) (a5 hn)) hc h.2.2.1 h.2.2.2 (a5 hn);rw[hns,zbT,zbT]at this;exact⟨this⟩
end
def Fun.okH{base:Heap}{b:Nat->MS} 
  (F:Fun K x qual st f fd) (S:FnScope N ps (ak st)) (J:Jd) (ds0:List Nat) (hm:l.xs.length=m)
  (hv:∀(i:Nat) (x:Str),N[i]?=some x->ps.length<=i->i<ps.length+m->¬Vis (ak st) x)
  (hb:N.Nodup->∀(cdv:Value) (A:Around) (outer:List Env) (s:Shared) (H:Hp) (E:XK) (a:Addr) (ws:List V),Room k (A.deeper (envOfC qual (ak st) s.heap.objs.size f cdv))->LamAt l outer H s.heap a ws->ws.length=m ->
   QSs (cxH CX0 P w K mg base N qual (ak st) f cdv A outer s H E ps.length ws).nox (be st) (tFS K J ds0 ds0 (b a)))
  (hl:dps.length=ps.length+m:=by rfl) (hN:ps.length+m<=N.length:=by decide) (hn:N.length-dps.length=n:=by rfl) (hJ:J=⟨lQ dps,dps++List.replicate n 0,dr,[]⟩:=by rfl) (hd:ds0=dps++List.replicate n 0:=by rfl):
  FnOkL P w K mg base CX0 (k+1) f fd ps l (λa ws vs H Q E=>vs.length=ps.length/\ws.length=m/\spF K dps dr (fnF n dps (b a)) (vs++ws) H Q E):=by
 subst hJ hd;obtain⟨oc,od,kV,doc,pm,an,cdv,ct,osl,rfl,lk,hcd⟩:=F.ex;exact Fw (sp:=λa=>spF K dps dr (fnF n dps (b a))) lk hcd S (λa vs H Q E h=>mY hl h) hm hN hv λA outer s H a ws vs Q E hr hL hw h=>⟨_,(hb S.nd cdv A outer s H E a ws hr hL hw).h.nox,nj hn h⟩
def LamSp.of{base:Heap}     
  (hb:∀(us:List Value) (cl:List (Str×Addr)) (pm ctv:Value) (c':Addr),us.length=l.ps.length->bindArgs (PySem.W.kla_fn l.name l.qual l.params l.body l.scope cl pm (.ref c') ctv) ⟨us,[]⟩=pure (l.ps.zip us))
  (h:∀(A:Around) (outer:List Env) (s:Shared) (H:Hp) (f:Addr) (cd:Value) (cl:List (Str×Addr)) (xe:Value->Shared->Prop),Room k (A.deeper (PySem.W.envX l.qual l.scope s.heap.objs.size f cd cl)) ->
   QE (cxL P w K mg base (l.ps++l.xs) l.qual l.scope f cd cl A outer s H xe) l.body (tF K p dps dps dr g)):LamSp P w K mg base k l (spF K dps dr λts=>g (ts.map some)):=by
 refine⟨hb,λA outer s H f cd cl xe vs Q E S hr q=>⟨_,(h A outer s H f cd cl xe hr).h,?_⟩⟩;obtain⟨Ox,ts,R,r,ψ,e,hf,k⟩:=q;exact⟨Ox,_,R,r,ψ,e,hf,λv H' R' F' P o=>k v H' R' F' ⟨P.env,P.fx,P.keep,P.own,P.dom,λz=>nomatch z⟩ o⟩
structure FunL(K:zbV)(x qual:Str)(st:Stmt)(f:Addr)(fd:FuncData)(c P:Addr):Prop where
 ex:∃(oc:Value) (od:Option Addr) (kV doc pm:Value) (an:Option Addr) (ct:Value) (osl:Array (Option Value)),
  fd=PySem.W.fnOf x qual (b6 st) (be st) (ak st) .none kV doc pm an (.ref c) ct/\K.lookup f=some ⟨oc,od,.func fd,osl⟩/\PySem.W.codeIn K (.ref c) qual=true
 kp:PySem.W.keepIn K (.ref f)=true
 cd:CdK K c P
def FunL.to{P:Addr}(F:FunL K x qual st f fd c P):Fun K x qual st f fd:=
 let⟨oc,od,kV,doc,pm,an,ct,osl,h⟩:=F.ex
 ⟨⟨oc,od,kV,doc,pm,an,.ref c,ct,osl,h⟩,F.kp⟩
def FunL.okR{base:Heap}{q:Str}{fa:Addr}{b:MS}
  (F:FunL K x q st fa fd c T) (S:FnScope N ps (ak st)) (J:Jd) (ds0:List Nat)
  (hb:N.Nodup->∀(A:Around) (outer:List Env) (s:Shared) (H:Hp) (E:XK),Room k (A.deeper (envOfC q (ak st) s.heap.objs.size fa (.ref c)))->QSs (iV CX0 P w K mg base N q (ak st) fa (.ref c) A outer s H E).nox (be st) (tFS K J ds0 ds0 b))
  (hl:dps.length=ps.length:=by rfl) (hn:N.length-dps.length=n:=by rfl) (hJ:J=⟨lQ dps,dps++List.replicate n 0,dr,[]⟩:=by rfl) (hd:ds0=dps++List.replicate n 0:=by rfl):FnOk P w K mg base CX0 (k+1) fa fd ps (spF K dps dr (fnF n dps b)):=by
 subst hJ hd;obtain⟨oc,od,kV,doc,pm,an,ct,osl,rfl,lk,hcd⟩:=F.ex;exact AJ lk hcd S (λvs H Q E h=>mY hl h) λA outer s H vs Q E hr h=>⟨_,(hb S.nd A outer s H E hr).h.nox,nj hn h⟩
def KnL(P:Program)(w:World)(K:zbV)(mg:Str->Option Value)(base:Heap)(k:Nat)(x:Str)(ps:List Str)(l:Lam)(sp:Addr->List V->Sp):Prop:=
 ∃f fd,FnOkL P w K mg base CX0 k f fd ps l sp/\mg x=some (.ref f)/\PySem.W.keepIn K (.ref f)=true/\Binds K fd ps []
def FnOkL.mono{P:Program}{w:World}{K:zbV}{mg:Str->Option Value}{base:Heap}{CX:CXT}{j k:Nat}{f:Addr}{fd:FuncData}{ps:List Str}{l:Lam}{sp:Addr->List V->Sp}(F:FnOkL P w K mg base CX j f fd ps l sp)(h:j<=k):
  FnOkL P w K mg base CX k f fd ps l sp:=⟨F.len,λA outer s H args us a ws vs Q E hr=>F.run A outer s H args us a ws vs Q E (hr.mono h)⟩
def KnL.mono{P:Program}{w:World}{K:zbV}{mg:Str->Option Value}{base:Heap}{j k:Nat}{x:Str}{ps:List Str}{l:Lam}{sp:Addr->List V->Sp}(G:KnL P w K mg base j x ps l sp)(h:j<=k):KnL P w K mg base k x ps l sp:=
 let⟨f,fd,a,b,c,d⟩:=G
 ⟨f,fd,a.mono h,b,c,d⟩
noncomputable def Hr:Expr->Arguments
 |.Lambda a _ _ _=>a
 |_=>{ posonlyargs:=[],args:=[],vararg:=none,kwonlyargs:=[],kw_defaults:=[],kwarg:=none,defaults:=[] }
noncomputable def Hs:Expr->Expr
 |.Lambda _ b _ _=>b
 |e=>e
noncomputable def Hq:Expr->Scope
 |.Lambda _ _ s _=>s
 |_=>{ kind:=.function,names:=[],isGenerator:=false,isCoroutine:=false }
noncomputable def GJ:Stmt->Expr
 |.Assign _ (.Call _ [_,e] _ _) _=>e
 |.Return (some (.Call _ [_,e] _ _)) _=>e
 |_=>.Name "" ⟨0,0,0,0⟩
def GI(st:Stmt)(j:Nat)(qual:Str)(ps xs:List Str):Lam:=
 let e:=GJ ((be st).getD j (.Pass ⟨0,0,0,0⟩))
 ⟨"<lambda>",qual,Hr e,Hs e,Hq e,ps,xs⟩
section
variable{f:ME}  
def Hx(G:KnL X.prog X.w X.K X.mg X.base k x ps l (λa ws vs H Q E=>vs.length=ps.length/\ws.length=m/\spF X.K dps dr (F a) (vs++ws) H Q E))(hr:Room k X.A)(L:LamHere X l lpos c T)(he:QE X e (tF X.K p ds ds1 0 f))
  (hj:js.map (X.N[·]?)=l.xs.map some:=by rfl) (h2:(ps.length,js.length,fu ds1 js)=(2,m,true):=by rfl) (hdp:dps=0::0::js.map λ_=>0:=by rfl) (h:cck X x e [.Lambda l.params l.body l.scope lpos]:=by rfl):
  QE X (.Call (.Name x px) [e,.Lambda l.params l.body l.scope lpos] [] pos) (tF X.K p ds ds1 dr (e8 F js f)):=by
 obtain⟨fa,fd,fo,hm,hk,hb⟩:=G;simp only[cck,za1]at h h2;exact⟨tJ fo h2.1 h2.2.1.symm hdp h2.2.2 hr h.1 hm hk hb L hj he.h h.2.1 (a5 h.2.2.1) rfl (fU h.2.2.2)⟩
end
noncomputable def vj(N:List Str)(sc:Scope)(n m:Nat):Bool:=(List.range' n m).all λi=>match N[i]? with
 |some x=>(sc.names.lookup x).isNone
 |none=>true
def Fc(h:vj N sc n m=true):∀(i:Nat) (x:Str),N[i]?=some x->n<=i->i<n+m->¬Vis sc x:=λi x h1 h2 h3 z=>by
 unfold vj at h
 have:=List.all_eq_true.mp h i (List.mem_range'_1.mpr ⟨h2,h3⟩);rw[h1]at this;have e:sc.names.lookup x=none:=Option.isNone_iff_eq_none.mp this;rcases z with z|z|z<;>(rw[e]at z;cases z)
noncomputable def u6(l:Lam)(sc:Scope):Bool:=
 decide (l.scope.kind=.function)&&!l.scope.isCoroutine&&!l.scope.isGenerator&&decide (l.ps++l.xs).Nodup&&l.ps.all (λx=>decide (l.scope.names.lookup x=some .local))&&l.xs.all (λx=>decide (l.scope.names.lookup x=some .free)) &&
 l.scope.names.all (λy=>decide (y.2≠.cell))&&l.scope.names.all (λy=>decide (y.2=.free->sc.names.lookup y.1=some .cell\/sc.names.lookup y.1=some .free))&&l.xs.all (λx=>decide (sc.names.lookup x=some .cell\/sc.names.lookup x=some .free))&&decide (l.name="<lambda>")
def Bu(hd:CdK X.K c T)(hr:Rg X.K T l.qual)(h:u6 l sc=true)(hc:X.env.code=.ref c:=by rfl)(hS:X.env.scope=sc:=by rfl)(hfn:∀x,X.fn x=true:=by exact λ_=>rfl)
  (hq:X.env.qual++"<lambda>"=l.qual:=by rfl) (hdf:defaultsOf l.params X.env=([],[]):=by rfl):LamHere X l lpos c T:=by
 unfold u6 at h;simp only[zbm,List.all_eq_true,decide_eq_true_eq,Bool.not_eq_true']at h;obtain⟨⟨⟨⟨⟨⟨⟨⟨⟨h1,h2⟩,h3⟩,h4⟩,h5⟩,h6⟩,h7⟩,h8⟩,h9⟩,h10⟩:=h;subst hS;exact⟨hc,hd,hr,hfn,h10,hq,hdf,λy hy hk=>h8 y hy hk,⟨h1,h2,h3,h4,h5,h6,h7⟩,λx hx=>h9 x hx⟩
structure DfL(K:zbV)(x:Str)(st:Stmt)(f c P:Addr):Prop where
 a:PySem.W.nsIn K mainGlobals x=some (some (.ref f))
 l:∃oc od kV dc pm an ct sl,K.lookup f=some ⟨oc,od,.func (PySem.W.fnOf x x (b6 st) (be st) (ak st) .none kV dc pm an (.ref c) ct),sl⟩/\PySem.W.codeIn K (.ref c) x=true
 k:PySem.W.keepIn K (.ref f)=true
 cd:CdK K c P
def DfL.mk'{P:Addr}{od':Option Addr}{sl':Array (Option Value)}{kV dc:Value}{vs:Array Value}{file:Str}{tf:Tok}{flags:Int}{tg:Tok}{inF:Bool}{text:Int}{tt:Tok}
  (a:PySem.W.nsIn K mainGlobals x=some (some (.ref f))) (l:K.lookup f=some ⟨oc,od,.func (PySem.W.fnOf x x (b6 st) (be st) (ak st) .none kV dc pm an (.ref c) ct),sl⟩) (h:PySem.W.codeIn K (.ref c) x=true) (k:PySem.W.keepIn K (.ref f)=true)
  (o:K.lookup c=some ⟨.type "code",od',.fields vs,sl'⟩) (q:(vs[11]?,vs.getD 11 .none,vs.getD 18 .none,vs.getD 7 .none,vs.getD 9 .none,vs.getD 10 .none)=(some (.ref P),.ref P,.str file tf,.int flags tg,.bool inF,.int text tt)) (n:c≠P):DfL K x st f c P:=by
 simp only[za1]at q;exact⟨a,⟨oc,od,kV,dc,pm,an,ct,sl,l,h⟩,k,_,vs,file,tf,flags,tg,inF,text,tt,o,rfl,rfl,q.1,q.2.1,q.2.2.1,q.2.2.2.1,q.2.2.2.2.1,q.2.2.2.2.2,n⟩
section
variable{K0:zbV}{base:Heap}{spL:Addr->List V->Sp}
def rn(hlk:∀b,K.lookup b=K0.lookup b)(a:Addr)(x:Str):PySem.W.nsIn K a x=PySem.W.nsIn K0 a x:=by
 unfold PySem.W.nsIn;rw[hlk]
def nW(hlk:∀b,K.lookup b=K0.lookup b)(v:Value)(x:Str):PySem.W.codeIn K v x=PySem.W.codeIn K0 v x:=by
 cases v<;>unfold PySem.W.codeIn<;>first|rfl | (simp only[hlk])
def pL(hlk:∀b,K.lookup b=K0.lookup b)(l:K0.lookup f=some ⟨oc,od,.func fd,sl⟩):PySem.W.keepIn K (.ref f)=true:=by
 unfold PySem.W.keepIn;simp only;rw[hlk,l]
def Df.reg(d:Df K0 x st f)(hlk:∀b,K.lookup b=K0.lookup b):Df K x st f:=by
 obtain⟨oc,od,kV,dc,pm,an,cd,ct,sl,l,h⟩:=d.l;exact⟨(rn hlk _ _).trans d.a,⟨oc,od,kV,dc,pm,an,cd,ct,sl,(hlk f).trans l,(nW hlk _ _).trans h⟩,pL hlk l⟩
def DfL.reg(d:DfL K0 x st f c T)(hlk:∀b,K.lookup b=K0.lookup b):DfL K x st f c T:=by
 obtain⟨oc,od,kV,dc,pm,an,ct,sl,l,h⟩:=d.l;obtain⟨o,vs,file,tf,flags,tg,inF,text,tt,e,r⟩:=d.cd;exact⟨(rn hlk _ _).trans d.a,⟨oc,od,kV,dc,pm,an,ct,sl,(hlk f).trans l,(nW hlk _ _).trans h⟩,pL hlk l,o,vs,file,tf,flags,tg,inF,text,tt,(hlk c).trans e,r⟩
def DfL.kn(d:DfL K x st f c T)(X:K.In h)(G:h.Ns mainGlobals mg)(b:∀(kV doc pm:Value) (an:Option Addr) (cdv ct:Value) (us:List Value),us.length=ps.length->bindArgs (PySem.W.fnOf x x (b6 st) (be st) (ak st) .none kV doc pm an cdv ct) ⟨us,[]⟩=pure (ps.zip us))
  (ok:∀fd,FunL K x x st f fd c T->FnOk P w K mg base CX0 k f fd ps sp):Kn P w K mg base k x ps sp:=by
 obtain⟨oc,od,kV,dc,pm,an,ct,sl,l,e⟩:=d.l;have F:FunL K x x st f _ c T:=⟨⟨oc,od,kV,dc,pm,an,ct,sl,rfl,l,e⟩,d.k,d.cd⟩;exact⟨_,_,ok _ F,za8 X G d.a,d.k,F.to.binds b⟩
def Df.knL(d:Df K x st f)(X:K.In h)(G:h.Ns mainGlobals mg)(b:∀(kV doc pm:Value) (an:Option Addr) (cdv ct:Value) (us:List Value),us.length=ps.length->bindArgs (PySem.W.fnOf x x (b6 st) (be st) (ak st) .none kV doc pm an cdv ct) ⟨us,[]⟩=pure (ps.zip us))
  (ok:∀fd,Fun K x x st f fd->FnOkL P w K mg base CX0 k f fd ps l spL):KnL P w K mg base k x ps l spL:=by
 obtain⟨_,_,_,_,_,_,_,_,_,l,c⟩:=d.l;have F:=pX (st:=st) l c d.k;exact⟨_,_,ok _ F,za8 X G d.a,d.k,F.binds b⟩
def CdK.tab(d:CdK K c T)(X:K.In h):isCodeTable h T:=by
 obtain⟨o,vs,file,tf,flags,tg,inF,text,tt,e,e1,e2,e3,_⟩:=d;exact⟨c,o,vs,X _ _ e,e1,e2,e3⟩
def tw{y:Option Value}(z:PySem.W.nsIn K0 mainGlobals x=some y)(ts:List (Addr×Str)):∀b,(bu K0 ts).lookup b=K0.lookup b:=by
 unfold PySem.W.nsIn at z;split at z
 .next h=>exact qx h rfl
 .cases z
end
def DT{l:PySem.W.OpenLaw}{q:Program}{gV:List Str}{XP:(Str->Option Value)->Heap->Prop}{YP:World->Heap->Prop}{d:DefRec}{K:Params->zbV}{ts:List (Addr×Str)}
  (hn:l.most=some n) (hn2:n<=63) (hdf:d.params.defaults=[]) (hr:Room k callerA)
  (hq:importsNone q=true) (hY:∀(w:World) (h:Heap),YP w h->(K w.params).In h) (hT:∀(w:World) (h:Heap),YP w h->∀q∈ts,h.get? q.1=some (PySem.W.tabObj #[]))
  (F:∀(w:World) (mg:Str->Option Value) (fa:Addr) (h:Heap),(K w.params).In h->h.Ns mainGlobals mg->mg d.name=some (.ref fa) ->
   ((∀b,(bu (K w.params) ts).lookup b=(K w.params).lookup b)/\(∀q∈ts,(K w.params).lookup q.1=none/\isCodeTable h q.1)/\(ts.map (·.1)).Nodup)/\∃fd:FuncData,(∀(s:Shared) (u:Value),BindsTo s fd ⟨[u],[]⟩ [(x,u)]) /\
    ∀base:Heap,(bu (K w.params) ts).In base->base.Ns mainGlobals mg->FnOk l.prog w (bu (K w.params) ts) mg base CX0 k fa fd [x] (lZ (bu (K w.params) ts))):
  PySem.W.WalkO q gV XP YP l.row.toRowW d [] (λf vs=>PySem.call f vs):=by
 refine Att.attach_call hn hdf λw s₀ s₁ mg mb fa o pm cd doc a vs ns G Y ho hd hcd hmg hobj hints ξ hg=>?_;have KX:=hY w _ Y;obtain⟨⟨h1,h2,h3⟩,fd,hb,hF⟩:=F w mg fa _ KX G.T.g hmg;exact wN KX h1 G.T.g G.T.b G.T.builtins G.T.nolimit (let⟨mm,hm,_⟩:=(G.T.seer hq).mods;⟨mm,hm⟩) hg G.T.bmain hobj hints (zau ξ (zau hn2 (by decide))) hr (λq m=>⟨hT w _ Y q m,(h2 q m).1,(h2 q m).2⟩) h3 hF hb (λH hS=>⟨a,ns,rfl,hS,zau ξ hn2,λ_=>rfl⟩) λH e s' z=>z
def nk(i:Nat)(f:ME):ME:=λen=>(en[i]?).join.bind λ_=>(f en).bind λr=>match r.1,(r.2[i]?).join with
 |.tuple ts,some (.dict ks)=>(bK ts).bind λk=>(dJ ks).bind λkvs=>(kvs.find? λq=>decide (q.1=k)).map λq=>(q.2,r.2)
 |_,_=>none
theorem oR(k:List (Option Key)):∀kvs:TKs,cE (kvs.map tkV) k=(kvs.find? λq=>decide (q.1=k)).map λq=>dV q.2
 |[]=>rfl
 |q::r=>by
  have ih:=oR k r;unfold cE at ih ⊢;rw[zar,zbo,zbo];by_cases c:q.1=k
  .simp[tkV,c]
  .have e1:decide ((tkV q).1=k)=false:=zaA c;rw[e1,zaA c];exact ih
def Gz{t:D}{F:AS}(h:scaD t=true):Ow K O H t d (dV t) F:=by
 cases t<;>first|rfl|cases h
section
variable{k:Expr}{f:ME}{Q:VK}
def GW(hd:ds1[i]?=some 4)(h:tF K p ds ds1 3 (nk i f) σ H Q):su (fT i) (tF K p ds ds1 d f) σ H Q:=by
 obtain⟨Ox,en,R,t,en',e,hf,k⟩:=h;unfold nk at hf;obtain⟨t0,h0,hf⟩:=zaa.mp hf;obtain⟨⟨t1,en1⟩,h1,hf⟩:=zaa.mp hf
 dsimp only at hf
 split at hf
 case h_2=>cases hf
 next ts ks ht h2=>
 obtain⟨kk,hk,hf⟩:=zaa.mp hf;obtain⟨kvs,hv,hf⟩:=zaa.mp hf;obtain⟨q,h3,hf⟩:=zab.mp hf;cases hf;obtain⟨v,d0,a1,_,a3⟩:=e.at_ i _ (aR h0);refine⟨v,a1,Ox,en,R,_,_,e,h1,λx H1 R1 F P o=>?_⟩;obtain⟨v',d',b1,b2,b3⟩:=P.env.at_ i _ (aR h2);rw[a1]at b1;cases b1;rw[hd]at b2;cases b2;obtain⟨k2,l,ad,el,ha,_⟩:=b3.tks hv;have w1:=Ow.letgo P (λ_ z=>z) o;obtain⟨b,vs,eb,fz,ow⟩:=w1.tup0;rw[fW hk ow]at fz;have hq:=List.all_eq_true.mp k2 q (List.mem_of_find?_eq_some h3);refine⟨l,dV q.2,el,?_,k _ H1 R1 NoA (P.less λ_ z=>z.elim) (Gz hq)⟩;rw[eb]
 have:=DGet.t ha fz.1;rw[oR,h3]at this;exact this
def xr(hu:X.A.units+1<cLine)(hN:X.N[i]?=some x)(hv:Vis X.env.scope x)(h1:ds1[i]?=some 4)(hi:QE X k (tF K p ds ds1 d f))(hs:tX k)(hd:(x==("__debug__":Str))=false)(hcd:(x==("__classdict__":Str))=false):
  QE X (.Subscript (.Name x px) k pos) (tF K p ds ds1 3 (nk i f)):=⟨(qY hu (cF hN hv hd hcd) hi.h hs).imp λ_ _ _=>GW h1⟩
end
def Asc(xs:Array Nat):Prop:=∀(i j:Nat) (x y:Nat),i<j->xs[i]?=some x->xs[j]?=some y->x<y
theorem lV{xs:Array Nat}{j:Nat}(ha:Asc xs):∀(fuel lo hi:Nat),hi-lo<=fuel->lo<=hi->hi<=xs.size->(∀i x,i<lo->xs[i]?=some x->x<j)->(∀i x,hi<=i->xs[i]?=some x->j<=x) ->
  lo<=SetTable.below.go xs j fuel lo hi/\SetTable.below.go xs j fuel lo hi<=hi/\(∀i x,i<SetTable.below.go xs j fuel lo hi->xs[i]?=some x->x<j)/\(∀i x,SetTable.below.go xs j fuel lo hi<=i->xs[i]?=some x->j<=x)
 |0,lo,hi,h,h2,h3,h4,h5=>by
  obtain rfl:lo=hi:=by lia
  unfold SetTable.below.go;exact⟨zav _,zav _,h4,h5⟩
 |fuel+1,lo,hi,h,h2,h3,h4,h5=>by
  unfold SetTable.below.go;by_cases c:lo<hi
  .rw[if_pos c];have hm1:lo<=(lo+hi) / 2:=by lia
   have hm2:(lo+hi) / 2<hi:=by lia
   have hg:xs[(lo+hi) / 2]?=some (xs.getD ((lo+hi) / 2) j):=by
    rw[Array.getD_eq_getD_getElem?,Array.getElem?_eq_getElem (by lia)];rfl
   dsimp only
   by_cases d:xs.getD ((lo+hi) / 2) j<j
   .rw[if_pos d];obtain⟨a,b,c1,c2⟩:=lV ha fuel ((lo+hi) / 2+1) hi (by lia) (by lia) h3 (λi x hi' hx=>by
     rcases Nat.lt_or_ge i ((lo+hi) / 2)with q|q
     .exact Nat.lt_trans (ha i _ x _ q hx hg) d
     .obtain rfl:i=(lo+hi) / 2:=by lia
      rw[hg]at hx;cases hx;exact d) h5
    exact⟨by lia,b,c1,c2⟩
   .rw[if_neg d];obtain⟨a,b,c1,c2⟩:=lV ha fuel lo ((lo+hi) / 2) (by lia) (by lia) (by lia) h4 (λi x hi' hx=>by
     rcases Nat.lt_or_ge ((lo+hi) / 2) i with q|q
     .exact zaW (zbJ (Nat.le_of_not_lt d) (ha _ i _ x q hg hx))
     .obtain rfl:i=(lo+hi) / 2:=by lia
      rw[hg]at hx;cases hx;exact Nat.le_of_not_lt d)
    exact⟨a,by lia,c1,c2⟩
  .rw[if_neg c];obtain rfl:lo=hi:=by lia
   exact⟨zav _,zav _,h4,h5⟩
def qm{xs:Array Nat}{j:Nat}(ha:Asc xs):SetTable.below xs j<=xs.size/\(∀i x,i<SetTable.below xs j->xs[i]?=some x->x<j)/\(∀i x,SetTable.below xs j<=i->xs[i]?=some x->j<=x):=by
 unfold SetTable.below;obtain⟨_,b,c,d⟩:=lV (j:=j) ha xs.size 0 xs.size (by lia) (by lia) (zav _) (λi x h=>absurd h (by lia)) (λi x h hx=>by
  have:=(Array.getElem?_eq_some_iff.mp hx).1
  lia)
 exact⟨b,c,d⟩
structure Good(t:SetTable)(n M:Nat):Prop where
 mask:t.mask=M
 dum:t.dummies=#[]
 size:t.place.size=n
 asc:Asc t.place
 le:∀(i x:Nat),t.place[i]?=some x->x<=M
 few:n<=M
def kL(t:SetTable)(j:Nat):Prop:=∀i:Nat,t.place[i]?≠some j
def pW(j:Nat):SetTable.has #[] j=false:=by
 unfold SetTable.has;simp
def Good.slot{t:SetTable}{n M:Nat}(g:Good t n M)(j:Nat):(kL t j/\t.slot j=.empty)\/∃i,i<n/\t.slot j=.live i:=by
 obtain⟨b1,b2,b3⟩:=qm (j:=j) g.asc;unfold SetTable.slot
 dsimp only
 by_cases c:t.place[SetTable.below t.place j]?=some j
 .have:(t.place[SetTable.below t.place j]?==some j)=true:=by rw[c];simp
  rw[if_pos this];exact .inr ⟨_,by rw[<-g.size];exact(Array.getElem?_eq_some_iff.mp c).1,rfl⟩
 .have:¬(t.place[SetTable.below t.place j]?==some j)=true:=by simpa using c
  rw[if_neg this,g.dum,pW];refine .inl ⟨λi z=>?_,rfl⟩;rcases Nat.lt_trichotomy i (SetTable.below t.place j)with q|q|q
  .exact absurd (b2 i j q z) (zaI _)
  .subst q;exact c z
  .have hb:SetTable.below t.place j<t.place.size:=Nat.lt_trans q (Array.getElem?_eq_some_iff.mp z).1;have e:=Array.getElem?_eq_getElem hb;have h1:=g.asc _ i _ j q e z;have h2:=b3 _ _ (zav _) e
   lia
noncomputable def lpI(M:Nat):Nat->Nat×Nat->Nat×Nat
 |0,p=>p
 |m+1,p=>lpI M m (SetTable.leap M p.1 p.2)
theorem lF{t:SetTable}{n M:Nat}(g:Good t n M)(hashAt:Nat->Int)(h:Int)(hn:∀i,i<n->hashAt i≠h):∀(m more fuel j i pt:Nat),j+more<=M->more<=9->(m=0->j=i)->kL t (lpI M m (i,pt)).1->more+1+10*m<=fuel ->
  ∃j',j'<=M/\kL t j'/\SetTable.probe.go t hashAt h fuel ⟨j,more,i,pt,none⟩=some (.empty j' none)
 |m,more,0,j,i,pt,_,_,_,_,hf=>by lia
 |0,more,fuel+1,j,i,pt,h1,h2,h3,h4,hf=>by
  obtain rfl:=h3 rfl;unfold SetTable.probe.go
  dsimp only
  rcases g.slot j with⟨_,e⟩|⟨k,hk,e⟩
  .rw[e];exact⟨j,by lia,h4,rfl⟩
  .exfalso;unfold SetTable.slot at e
   dsimp only at e
   split at e
   .next c=>
    have c':t.place[SetTable.below t.place j]?=some j:=by simpa using c
    exact h4 _ c'
   .split at e<;>cases e
 |m+1,0,fuel+1,j,i,pt,h1,h2,h3,h4,hf=>by
  unfold SetTable.probe.go
  dsimp only
  rcases g.slot j with⟨fr,e⟩|⟨k,hk,e⟩
  .rw[e];exact⟨j,by lia,fr,rfl⟩
  .rw[e]
   dsimp only
   have:¬(hashAt k==h)=true:=by simpa using hn k hk
   rw[if_neg this];have le:(SetTable.leap M i pt).1<=M:=by
    show(i*5+1+pt / 32) % (M+1)<=M
    have:=Nat.mod_lt (i*5+1+pt / 32) (Nat.succ_pos M)
    lia
   have ad:SetTable.advance t ⟨j,0,i,pt,none⟩=⟨(SetTable.leap M i pt).1,SetTable.runEnd M (SetTable.leap M i pt).1-(SetTable.leap M i pt).1,(SetTable.leap M i pt).1,(SetTable.leap M i pt).2,none⟩:=by
    unfold SetTable.advance;rw[g.mask];rfl
   rw[ad];have re:SetTable.runEnd M (SetTable.leap M i pt).1-(SetTable.leap M i pt).1<=9/\(SetTable.leap M i pt).1+(SetTable.runEnd M (SetTable.leap M i pt).1-(SetTable.leap M i pt).1)<=M:=by
    unfold SetTable.runEnd;split<;>lia
   exact lF g hashAt h hn m _ fuel _ _ _ re.2 re.1 (λ_=>rfl) h4 (by lia)
 |m+1,more+1,fuel+1,j,i,pt,h1,h2,h3,h4,hf=>by
  unfold SetTable.probe.go
  dsimp only
  rcases g.slot j with⟨fr,e⟩|⟨k,hk,e⟩
  .rw[e];exact⟨j,by lia,fr,rfl⟩
  .rw[e]
   dsimp only
   have:¬(hashAt k==h)=true:=by simpa using hn k hk
   rw[if_neg this];have ad:SetTable.advance t ⟨j,more+1,i,pt,none⟩=⟨j+1,more,i,pt,none⟩:=by
    unfold SetTable.advance
    dsimp only
    rw[if_pos (by lia)];rfl
   rw[ad];exact lF g hashAt h hn (m+1) more fuel (j+1) i pt (by lia) (by lia) (λz=>by cases z) h4 (by lia)
noncomputable def stp(M i:Nat):Nat:=(i*5+1) % (M+1)
def jo(M:Nat):Nat->Nat->Nat
 |0,i=>i
 |k+1,i=>jo M k (stp M i)
def lE(M a b i:Nat):jo M (a+b) i=jo M b (jo M a i):=by
 induction a generalizing i with
 |zero=>rw[za3];rfl
 |succ a ih=>rw[Nat.succ_add];exact ih (stp M i)
def orb(M:Nat):Nat->Nat->List Nat
 |0,_=>[]
 |k+1,i=>i::orb M k (stp M i)
theorem uP{M:Nat}:∀(k i:Nat) {e:Nat},e∈orb M k i->∃a,a<k/\jo M a i=e
 |0,_,_,h=>by cases h
 |k+1,i,e,h=>by
  rcases zay.mp h with h|h
  .exact⟨0,by lia,h.symm⟩
  .obtain⟨a,h1,h2⟩:=uP k _ h;exact⟨a+1,by lia,h2⟩
def cyc(M:Nat):Bool:=(List.range (M+1)).all (λe=>(orb M (M+1) 0).contains e)&&decide (jo M (M+1) 0=0)
def FO(h:cyc M=true){e:Nat}(hi:i<=M)(he:e<=M):∃k,k<=M/\jo M k i=e:=by
 unfold cyc at h;rw[zbm,decide_eq_true_eq,List.all_eq_true]at h;obtain⟨h1,h2⟩:=h;have at_:∀x,x<=M->∃a,a<M+1/\jo M a 0=x:=λx hx=>uP _ _ (by simpa using h1 x (zbr.mpr (by lia)));obtain⟨a,a1,a2⟩:=at_ i hi;obtain⟨b,b1,b2⟩:=at_ e he;rcases Nat.le_total a b with q|q
 .refine⟨b-a,by lia,?_⟩;rw[<-a2,<-lE,show a+(b-a)=b by lia,b2]
 .refine⟨if a=b then 0 else b+(M+1)-a,by split<;>lia,?_⟩;by_cases c:a=b
  .rw[if_pos c];subst c;rw[<-b2,a2];rfl
  .rw[if_neg c,<-a2,<-lE,show a+(b+(M+1)-a)=(M+1)+b by lia,lE,h2,b2]
def rD(M a b:Nat)(p:Nat×Nat):lpI M (a+b) p=lpI M b (lpI M a p):=by
 induction a generalizing p with
 |zero=>rw[za3];rfl
 |succ a ih=>rw[Nat.succ_add];exact ih _
theorem pG(M:Nat):∀(k i:Nat),lpI M k (i,0)=(jo M k i,0)
 |0,_=>rfl
 |k+1,i=>by
  show lpI M k (SetTable.leap M i 0)=_
  have:SetTable.leap M i 0=(stp M i,0):=rfl;rw[this];exact pG M k _
theorem rC(M:Nat):∀(k i pt:Nat),(lpI M k (i,pt)).2=pt / 32 ^ k
 |0,i,pt=>by show pt=pt / 1;rw[Nat.div_one]
 |k+1,i,pt=>by
  show(lpI M k (SetTable.leap M i pt)).2=_;rw[rC M k _ _];show pt / 32 / 32 ^ k=_;rw[Nat.div_div_eq_div_mul,Nat.pow_succ,Nat.mul_comm]
def EH(M:Nat)(hk:0<k):(lpI M k (i,pt)).1<=M:=by
 cases k with
 |zero=>cases hk
 |succ k=>
  rw[rD M k 1]
  have:=Nat.mod_lt ((lpI M k (i,pt)).1*5+1+(lpI M k (i,pt)).2 / 32) (Nat.succ_pos M);show((lpI M k (i,pt)).1*5+1+(lpI M k (i,pt)).2 / 32) % (M+1)<=M
  lia
def Aw(h:cyc M=true){e:Nat}(hp:pt<2 ^ 64)(he:e<=M):∃m,m<=13+M/\(lpI M m (i,pt)).1=e:=by
 have z:lpI M 13 (i,pt)=((lpI M 13 (i,pt)).1,0):=by
  refine Prod.ext rfl ?_;rw[rC];show pt / 32 ^ 13=0;exact Nat.div_eq_of_lt (Nat.lt_trans hp (by decide))
 obtain⟨k,k1,k2⟩:=FO h (EH M (k:=13) (i:=i) (pt:=pt) (by decide)) he;refine⟨13+k,by lia,?_⟩;rw[rD,z,pG];exact k2
def lS{α:Type}(xs:Array α)(p:Nat)(x:α):(SetTable.insertAt xs p x).toList=xs.toList.take p++x::xs.toList.drop p:=by
 unfold SetTable.insertAt;simp[Array.toList_extract,List.extract_eq_take_drop];exact List.take_of_length_le (by simp)
def pT{α:Type}(xs:Array α)(p:Nat)(x:α):(SetTable.insertAt xs p x).size=xs.size+1:=by
 rw[<-zaY,lS,zae,zac,zaE,zaF,zaY]
 lia
def BA{α:Type}{xs:Array α}{p:Nat}{x y:α}(h:y∈(SetTable.insertAt xs p x).toList):y=x\/y∈xs.toList:=by
 rw[lS]at h;rcases zax.mp h with h|h
 .exact .inr (List.mem_of_mem_take h)
 .rcases zay.mp h with h|h
  .exact .inl h
  .exact .inr (List.mem_of_mem_drop h)
def pU{α:Type}{xs:Array α}{p:Nat}(hp:p<=xs.size)(x:α)(i:Nat):(SetTable.insertAt xs p x)[i]?=if i<p then xs[i]? else if i=p then some x else xs[i-1]?:=by
 rw[<-Array.getElem?_toList,lS,<-Array.getElem?_toList,<-Array.getElem?_toList];have hl:(xs.toList.take p).length=p:=by rw[zaE,zaY];lia
 by_cases c:i<p
 .rw[if_pos c,zaS (by lia),List.getElem?_take,if_pos c]
 .rw[if_neg c,zbH (by lia),hl];by_cases d:i=p
  .subst d;rw[if_pos rfl,Nat.sub_self];rfl
  .rw[if_neg d,show i-p=(i-p-1)+1 by lia,za5,zbD];congr 1
   lia
def Good.of(g:Good t n M)(h1:t'.mask=t.mask)(h2:t'.place=t.place)(h3:t'.dummies=t.dummies):Good t' n M:=
 ⟨h1.trans g.mask,h3.trans g.dum,by rw[h2];exact g.size,by rw[h2];exact g.asc,by rw[h2];exact g.le,g.few⟩
def Good.put{t:SetTable}{n M j:Nat}(g:Good t n M)(fr:kL t j)(hj:j<=M)(hn:n+1<=M):Good (t.put j).1 (n+1) M/\(t.put j).2<=n:=by
 obtain⟨b1,b2,b3⟩:=qm (j:=j) g.asc;have e:(t.put j)=({ t with place:=SetTable.insertAt t.place (SetTable.below t.place j) j },SetTable.below t.place j):=by
  unfold SetTable.put
  dsimp only
  rw[g.dum,pW];simp
 rw[e];have gt:∀i x,SetTable.below t.place j<=i->t.place[i]?=some x->j<x:=λi x h hx=>by
  have h1:=b3 i x h hx;have h2:x≠j:=λz=>fr i (z▸hx)
  lia
 refine⟨⟨g.mask,g.dum,by show(SetTable.insertAt _ _ _).size=_;rw[pT,g.size],λi i' x y hi hx hy=>?_,λi x hx=>?_,hn⟩,by have:=g.size;show SetTable.below t.place j<=n;lia⟩
 .rw[pU b1]at hx hy;by_cases c:i<SetTable.below t.place j
  .rw[if_pos c]at hx;by_cases c':i'<SetTable.below t.place j
   .rw[if_pos c']at hy;exact g.asc _ _ _ _ hi hx hy
   .rw[if_neg c']at hy;by_cases d:i'=SetTable.below t.place j
    .rw[if_pos d]at hy;cases hy;exact b2 i x c hx
    .rw[if_neg d]at hy;exact g.asc i (i'-1) x y (by lia) hx hy
  .rw[if_neg c]at hx;have c':¬i'<SetTable.below t.place j:=by lia
   rw[if_neg c']at hy;have d':¬i'=SetTable.below t.place j:=by lia
   rw[if_neg d']at hy;by_cases d:i=SetTable.below t.place j
   .rw[if_pos d]at hx;cases hx;exact gt _ _ (by lia) hy
   .rw[if_neg d]at hx;exact g.asc _ _ _ _ (by lia) hx hy
 .have hx:(SetTable.insertAt t.place (SetTable.below t.place j) j)[i]?=some x:=hx;rw[pU b1]at hx;split at hx
  .exact g.le _ _ hx
  .split at hx
   .cases hx;exact hj
   .exact g.le _ _ hx
theorem Good.probe{t:SetTable}{n M:Nat}(g:Good t n M)(hc:cyc M=true)(hashAt:Nat->Int)(h:Int)(hn:∀i,i<n->hashAt i≠h):∃j,j<=M/\kL t j/\t.probe hashAt h (t.probeStart h)=some (.empty j none):=by
 have ex:∃e,e<=M/\kL t e:=by
  rcases Classical.em (∃e,e<=M/\kL t e)with z|z
  .exact z
  .exfalso;have all:∀e,e<=M->∃i:Nat,t.place[i]?=some e:=λe he=>by
    rcases Classical.em (∃i:Nat,t.place[i]?=some e)with y|y
    .exact y
    .exact absurd ⟨e,he,λi hi=>y ⟨i,hi⟩⟩ z
   have up:∀e,e<=M->∀i:Nat,t.place[i]?=some e->e<=i:=λe=>by
    induction e with
    |zero=>exact λ_ i _=>zbj i
    |succ e ih=>
     intro he i hi;obtain⟨i',hi'⟩:=all e (by lia);have h1:=ih (by lia) i' hi';rcases Nat.lt_or_ge i' i with q|q
     .lia
     .rcases Nat.lt_or_ge i i' with q'|q'
      .have:=g.asc _ _ _ _ q' hi hi'
       lia
      .obtain rfl:i=i':=by lia
       rw[hi]at hi';cases hi'
   obtain⟨i,hi⟩:=all M (zav _);have h1:=up M (zav _) i hi;have h2:=(Array.getElem?_eq_some_iff.mp hi).1
   have:=g.size
   have:=g.few
   lia
 obtain⟨e,he,fr⟩:=ex;have hb:SetTable.bits h<2 ^ 64:=by
  unfold SetTable.bits
  have:=zba h (show(0:Int)<2 ^ 64 by decide)
  have:=za9 h (show(2:Int) ^ 64≠0 by decide)
  lia
 obtain⟨m,m1,m2⟩:=Aw hc (i:=SetTable.bits h % (M+1)) (pt:=SetTable.bits h) hb he;unfold SetTable.probe SetTable.probeStart;rw[g.mask]
 dsimp only
 have hi:SetTable.bits h % (M+1)<=M:=by
  have:=Nat.mod_lt (SetTable.bits h) (Nat.succ_pos M)
  lia
 have re:SetTable.runEnd M (SetTable.bits h % (M+1))-SetTable.bits h % (M+1)<=9/\SetTable.bits h % (M+1)+(SetTable.runEnd M (SetTable.bits h % (M+1))-SetTable.bits h % (M+1))<=M:=by
  unfold SetTable.runEnd;split<;>lia
 exact lF g hashAt h hn m _ _ _ _ _ re.2 re.1 (λ_=>rfl) (by rw[m2];exact fr) (by unfold SetTable.turns;lia)
def vy{owner:Array (Option Nat)}{r:Nat}(h:(List.range r).find? (λk=>(owner.getD (i+k) (some 0)).isNone)=some k):owner[i+k]?=some none:=by
 have:=List.find?_some h;rw[Array.getD_eq_getD_getElem?]at this;cases q:owner[i+k]? with
 |none=>rw[q]at this;cases this
 |some o=>
  rw[q]at this;cases o with
  |none=>rfl
  |some y=>cases this
theorem rM{M:Nat}{owner:Array (Option Nat)}:∀(m fuel i pt:Nat),m+1<=fuel->owner[(lpI M m (i,pt)).1]?=some none->∃j:Nat,owner[j]?=some none/\SetTable.layClean.free M owner fuel i pt=some j
 |m,0,i,pt,hf,_=>by lia
 |m,fuel+1,i,pt,hf,h=>by
  unfold SetTable.layClean.free;cases q:(List.range (SetTable.runEnd M i+1-i)).find? (λk=>(owner.getD (i+k) (some 0)).isNone)with
  |some k=>exact⟨i+k,vy q,rfl⟩
  |none=>
   dsimp only
   cases m with
   |zero=>
    exfalso;have hr:i<=SetTable.runEnd M i:=by unfold SetTable.runEnd;split<;>lia
    have:=zbF.mp q 0 (zbr.mpr (by lia));have h':owner[i]?=some none:=h;rw[Nat.add_zero,Array.getD_eq_getD_getElem?,h']at this;exact this rfl
   |succ m=>
    exact rM m fuel _ _ (by lia) h
noncomputable def liv(owner:Array (Option Nat)):List Nat:=owner.toList.filterMap id
theorem rF:∀(l:List (Option Nat)) (j k:Nat),l[j]?=some none->((l.set j (some k)).filterMap id).length=(l.filterMap id).length+1/\∀x∈(l.set j (some k)).filterMap id,x=k\/x∈l.filterMap id
 |[],j,k,h=>by simp at h
 |o::r,0,k,h=>by
  simp at h;subst h;exact⟨rfl,λx hx=>by simpa using hx⟩
 |o::r,j+1,k,h=>by
  obtain⟨h1,h2⟩:=rF r j k (by simpa using h);cases o with
  |none=>exact⟨h1,h2⟩
  |some y=>
   refine⟨by show _+1=_+1+1;rw[h1],λx hx=>?_⟩;rcases zay.mp (show x∈y::(r.set j (some k)).filterMap id from hx)with e|e
   .exact .inr (zay.mpr (.inl e))
   .rcases h2 x e with e|e
    .exact .inl e
    .exact .inr (zay.mpr (.inr e))
theorem pI:∀(l:List (Option Nat)),(l.filterMap id).length<l.length->∃e:Nat,l[e]?=some none
 |[],h=>by simp at h
 |none::r,_=>⟨0,rfl⟩
 |some y::r,h=>by
  obtain⟨e,he⟩:=pI r (by
   have:(r.filterMap id).length+1<r.length+1:=h
   lia)
  exact⟨e+1,he⟩
def EK(hc:cyc M=true)(hashes:Array Int)(hz:hashes.size<=M):∃owner,SetTable.layClean M hashes=some owner/\owner.size=M+1/\(liv owner).length=hashes.size/\∀x∈liv owner,x<hashes.size:=by
 unfold SetTable.layClean;rw[<-Array.foldl_toList];have key:∀(l:List Int) (owner:Array (Option Nat)) (k:Nat),owner.size=M+1->(liv owner).length=k->(∀x∈liv owner,x<k)->k+l.length<=M ->
   ∃owner',l.foldl (λacc h=>do
    let (owner,k) <-acc
    let j <-SetTable.layClean.free M owner (SetTable.turns M) (SetTable.bits h % (M+1)) (SetTable.bits h)
    pure (owner.setIfInBounds j (some k),k+1)) (some (owner,k))=some (owner',k+l.length)/\owner'.size=M+1/\(liv owner').length=k+l.length/\∀x∈liv owner',x<k+l.length:=by
  intro l
  induction l with
  |nil=>intro owner k h1 h2 h3 _;exact⟨owner,rfl,h1,h2,h3⟩
  |cons h l ih=>
   intro owner k h1 h2 h3 h4;rw[zac]at h4 ⊢;obtain⟨e,he⟩:=pI owner.toList (by
    have:(owner.toList.filterMap id).length=k:=h2;rw[this,zaY,h1]
    lia)
   rw[Array.getElem?_toList]at he;have hle:e<M+1:=by rw[<-h1];exact(Array.getElem?_eq_some_iff.mp he).1
   have hb:SetTable.bits h<2 ^ 64:=by
    unfold SetTable.bits
    have:=zba h (show(0:Int)<2 ^ 64 by decide)
    have:=za9 h (show(2:Int) ^ 64≠0 by decide)
    lia
   obtain⟨m,m1,m2⟩:=Aw hc (i:=SetTable.bits h % (M+1)) (pt:=SetTable.bits h) hb (show e<=M by lia);obtain⟨j,hj,ej⟩:=rM (M:=M) m (SetTable.turns M) _ _ (by unfold SetTable.turns;lia) (m2.symm▸he);have ls:=rF owner.toList j k (by rw[Array.getElem?_toList];exact hj);have el:(owner.setIfInBounds j (some k)).toList=owner.toList.set j (some k):=Array.toList_setIfInBounds ..;obtain⟨o',a1,a2,a3,a4⟩:=ih (owner.setIfInBounds j (some k)) (k+1) (by rw[Array.size_setIfInBounds,h1]) (by
    unfold liv at h2 ⊢;rw[el,ls.1,h2]) (λx hx=>by
    unfold liv at hx;rw[el]at hx;rcases ls.2 x hx with z|z
    .lia
    .have:=h3 x z;lia) (by lia)
   refine⟨o',?_,a2,by rw[a3];lia,λx hx=>by have:=a4 x hx;lia⟩;rw[List.foldl_cons];show List.foldl _ ((SetTable.layClean.free M owner (SetTable.turns M) (SetTable.bits h % (M+1)) (SetTable.bits h)).bind λj=>some (owner.setIfInBounds j (some k),k+1)) l=_;rw[ej];rw[show k+(l.length+1)=k+1+l.length by lia];exact a1
 obtain⟨owner',a1,a2,a3,a4⟩:=key hashes.toList (Array.replicate (M+1) none) 0 (by simp) (by unfold liv;simp) (by unfold liv;simp) (by rw[zaY];lia);rw[za3,zaY]at a1 a3 a4;exact⟨owner',by rw[a1];rfl,a2,a3,a4⟩
theorem fmc{α β:Type}{f g:α->Option β}:∀{l:List α},(∀x∈l,f x=g x)->l.filterMap f=l.filterMap g
 |[],_=>rfl
 |a::r,h=>by
  rw[List.filterMap_cons,List.filterMap_cons,h a zaq,fmc (l:=r) λx hx=>h x (zaj _ hx)]
noncomputable def gh(owner:Array (Option Nat))(n:Nat):List (Nat×Nat):=(List.range n).filterMap λj=>(owner.getD j none).map (j,·)
def uZ(owner:Array (Option Nat))(n:Nat):((gh owner n).map (·.1)).Pairwise (·<·):=by
 have:∀l:List Nat,l.Pairwise (·<·)->((l.filterMap λj=>(owner.getD j none).map (j,·)).map (·.1)).Pairwise (·<·)/\∀x∈(l.filterMap λj=>(owner.getD j none).map (j,·)).map (·.1),x∈l:=by
  intro l
  induction l with
  |nil=>intro _;exact⟨List.Pairwise.nil,λx h=>h⟩
  |cons a r ih=>
   intro h;obtain⟨h1,h2⟩:=List.pairwise_cons.mp h;obtain⟨i1,i2⟩:=ih h2;rw[List.filterMap_cons];cases owner.getD a none with
   |none=>exact⟨i1,λx hx=>zaj _ (i2 x hx)⟩
   |some y=>
    refine⟨List.pairwise_cons.mpr ⟨λx hx=>h1 x (i2 x hx),i1⟩,λx hx=>?_⟩;rcases zay.mp hx with e|e
    .subst e;exact zaq
    .exact zaj _ (i2 x e)
 exact(this _ List.pairwise_lt_range).1
def uY(owner:Array (Option Nat)):(gh owner owner.size).map (·.2)=liv owner:=by
 have key:∀(l:List (Option Nat)) (k:Nat),((List.range' k l.length).filterMap λj=>((l[j-k]?).join).map (j,·)).map (·.2)=l.filterMap id:=by
  intro l
  induction l with
  |nil=>intro k;rfl
  |cons o r ih=>
   intro k;rw[zac,List.range'_succ,List.filterMap_cons];have e0:((o::r)[k-k]?).join=o:=by rw[Nat.sub_self];simp
   have tl:((List.range' (k+1) r.length).filterMap λj=>(((o::r)[j-k]?).join).map (j,·))=(List.range' (k+1) r.length).filterMap λj=>((r[j-(k+1)]?).join).map (j,·):=by
    refine fmc λj hj=>?_
    have:=(List.mem_range'_1.mp hj).1;rw[show j-k=(j-(k+1))+1 by lia,za5]
   rw[e0];cases o with
   |none=>
    show(List.filterMap _ _).map _=_;rw[tl,ih (k+1)];rfl
   |some y=>
    show y::(List.filterMap _ _).map _=_;rw[tl,ih (k+1)];rfl
 have:=key owner.toList 0;rw[zaY,<-List.range_eq_range']at this;unfold gh liv;rw[<-this];congr 1;refine fmc λj _=>?_;rw[Nat.sub_zero,Array.getElem?_toList,Array.getD_eq_getD_getElem?];cases owner[j]?<;>rfl
def Bv(hc:cyc M=true)(hashes:Array Int)(hz:hashes.size<=M)(fg mv:Nat)(ld pl:Bool):∃t order,SetTable.laid M fg mv ld pl hashes=some (t,order)/\Good t hashes.size M/\order.size=hashes.size/\∀x∈order.toList,x<hashes.size:=by
 obtain⟨owner,h1,h2,h3,h4⟩:=EK hc hashes hz;have e2:=uY owner;have ln:(gh owner (M+1)).length=hashes.size:=by
  rw[<-h2,<-h3,<-e2,zad]
 refine⟨_,_,by unfold SetTable.laid;rw[h1];rfl,⟨rfl,rfl,?_,λi j x y hij hx hy=>?_,λi x hx=>?_,hz⟩,?_,λx hx=>?_⟩
 .show(((gh owner (M+1)).map (·.1)).toArray).size=_;rw[zai,zad,ln]
 .have hx:(((gh owner (M+1)).map (·.1)).toArray)[i]?=some x:=hx;have hy:(((gh owner (M+1)).map (·.1)).toArray)[j]?=some y:=hy;rw[List.getElem?_toArray]at hx hy;have p:=uZ owner (M+1);obtain⟨hi,ex⟩:=zah.mp hx;obtain⟨hj,ey⟩:=zah.mp hy
  have:=List.pairwise_iff_getElem.mp p i j hi hj hij;rw[ex,ey]at this;exact this
 .have hx:(((gh owner (M+1)).map (·.1)).toArray)[i]?=some x:=hx;rw[List.getElem?_toArray]at hx;have hm:=zaX hx;obtain⟨⟨a,b⟩,m1,m2⟩:=zaz.mp hm;obtain⟨j,hj,e⟩:=List.mem_filterMap.mp m1;obtain⟨y,_,e⟩:=zab.mp e;have e1:j=a:=(Prod.mk.inj e).1
  have:=zbr.mp hj
  have:a=x:=m2
  lia
 .show(((gh owner (M+1)).map (·.2)).toArray).size=_;rw[zai,zad,ln]
 .have hx:x∈(((gh owner (M+1)).map (·.2)).toArray).toList:=hx;rw[<-h2,e2]at hx;exact h4 x (by simpa using hx)
noncomputable def mkN(n:Nat):Nat:=if n<5 then 7 else if n<19 then 31 else if n<77 then 127 else 511
def vL(n:Nat):cyc (mkN n)=true:=by
 unfold mkN;split
 .decide +kernel
 .split
  .decide +kernel
  .split
   .decide +kernel
   .decide +kernel
def pE(n:Nat):mkN n=7\/mkN n=31\/mkN n=127\/mkN n=511:=by
 unfold mkN;split
 .exact .inl rfl
 .split
  .exact .inr (.inl rfl)
  .split
   .exact .inr (.inr (.inl rfl))
   .exact .inr (.inr (.inr rfl))
theorem pV(m:Nat):∀(l:List Value),(∀v∈l,v.scannable=true)->∃r:Option Bool×Unit,(forIn l (none,()) λx (_:Option Bool×Unit)=>do
  let b <-hashByValue m x
  if(!b)=true then pure (ForInStep.done (some false,()))else pure (ForInStep.yield (none,())))=(pure r:Sem (Option Bool×Unit))
 |[],_=>⟨(none,()),rfl⟩
 |v::l,h=>by
  rw[List.forIn_cons,hashByValue_scannable m (h v zaq)];cases c:plainKind v with
  |false=>exact⟨(some false,()),rfl⟩
  |true=>
   obtain⟨r,e⟩:=pV m l λv hv=>h v (zaj _ hv);exact⟨r,e⟩
def vk{Q:Bool->Shared->Prop}(ht:s.heap.IsTuple b its)(hs:∀v∈its.toList,v.scannable=true)(h:∀r,Q r s):wpAny (model P w) A (hashByValue 8 (.ref b)) Q E s:=by
 rw[hashByValue.eq_12];obtain⟨o,ho,hc,n,hd⟩:=id ht;refine zam (wpAny_specialOf (T:="tuple") ⟨o,ho,hc⟩ PySem.F.slot_tuple_hash.lookup ?_);refine zam ?_;rw[seqItems?.eq_1];refine zam (wpAny_load ho ?_);rw[hd];refine zaT ?_;show wpAny _ _ (forIn its _ _ >>= _) _ _ _;rw[<-Array.forIn_toList];obtain⟨r,e⟩:=pV 7 its.toList hs;refine zam ?_;rw[e];refine zaT ?_
 dsimp only
 split
 .exact zaT (h _)
 .exact zaT (h _)
structure SetN(h:Heap)(a:Addr)(n:Nat)(S:Int->Prop):Prop where
 ex:∃o es ep t,h.get? a=some o/\o.ExactSet/\o.data=.set es ep t/\es.size=n/\Good t n (mkN n)/\∀e∈es.toList,S e.1
def Good.fits{t:SetTable}{n M:Nat}(g:Good t n M):t.fits n=true:=by
 unfold SetTable.fits SetTable.fill;rw[g.size,g.mask,g.dum]
 have:=g.few;simp
 lia
def Good.notFull(g:Good t n M):t.tooFull=decide (n*5 >= M*3):=by
 unfold SetTable.tooFull SetTable.fill;rw[g.size,g.mask,g.dum];rfl
def sv{h:Int}{Q:SetFound->Shared->Prop}(ho:s.heap.get? a=some o)(hd:o.data=.set es ep t)(g:Good t es.size (mkN es.size))(hn:∀e∈es.toList,e.1≠h)
  (q:∀j,j<=mkN es.size->kL t j->Q (.free j false) s):wpAny (model P w) A (setSearch a (.ref b) h true) Q E s:=by
 unfold setSearch;show wpAny _ _ (setSearchFrom a (.ref b) h true (99999+1) none) _ _ _;rw[setSearchFrom.eq_def];refine zam (wpAny_setState_of ho hd g.fits ?_)
 dsimp only
 have gw:t.gaveWay=false:=by
  unfold SetTable.gaveWay;rw[g.mask];rcases pE es.size with e|e|e|e<;>rw[e]<;>rfl
 rw[gw];obtain⟨j,j1,j2,e⟩:=g.probe (vL _) (λi=>((es[i]?).map (·.1)).getD 0) h λi hi=>by
  rw[Array.getElem?_eq_getElem hi];exact hn _ (by simp)
 rw[if_neg zbn];generalize hq:t.probe _ h _=r;have e2:r=some (.empty j none):=hq.symm.trans e;subst e2;exact zaT (q j j1 j2)
noncomputable def Al(es:Array (Int×Value))(l:Option (SetTable×Array Nat)):Sem (Array (Int×Value)×SetTable):=
 match l with
 |some (t,order)=>do
  let es':=order.filterMap (λx=>es[x]?)
  if es'.size != es.size then unsupported "internal:set-table-lost-an-element"
  pure (es',t)
 |none=>unsupported "internal:set-table-without-room"
def v7(a:Addr)(wanted:Nat):setRelay a wanted=(do
  let (es,_,t) <-setState a
  if SetTable.sizeAbove wanted>sizeLine then unsupported "set:memory"
  let (es',t') <-Al es (t.relaid (es.map (·.1)) wanted)
  storeSet a es' t'):=by
 unfold setRelay;refine congrArg _ (funext λx=>?_);obtain⟨es,n,t⟩:=x
 dsimp only
 generalize t.relaid (Array.map (λx=>x.fst) es) wanted=L;cases L with
 |none=>rfl
 |some p=>obtain⟨t',o⟩:=p;rfl
def sE{order:Array Nat}(h:∀x∈order.toList,x<es.size):(order.filterMap (λx=>es[x]?)).size=order.size:=by
 rw[<-zaY,Array.toList_filterMap,<-zaY (xs:=order)]
 have:∀l:List Nat,(∀x∈l,x<es.size)->(l.filterMap λx=>es[x]?).length=l.length:=by
  intro l
  induction l with
  |nil=>intro _;rfl
  |cons x r ih=>
   intro h;rw[List.filterMap_cons,Array.getElem?_eq_getElem (h x zaq)];show _+1=_+1;rw[ih λy hy=>h y (zaj _ hy)]
 exact this _ h
def qU{es':Array (Int×Value)}(ho:h.get? a=some o)(hd:o.data=.set es ep t):
  (h.update a (Obj.putSet es' t')).get? a=some { cls:=o.cls,dict:=o.dict,data:=.set es' (ep+1) t',slots:=o.slots }:=by
 rw[<-putSet_of es' t' hd];refine Heap.get?_update_self _ ho ?_;rw[putSet_of es' t' hd];rfl
def uE{wanted:Nat}{Q:Unit->Shared->Prop}(ho:s.heap.get? a=some o)(hx:o.ExactSet)(hd:o.data=.set es ep t)(hf:t.fits es.size=true)(hM:SetTable.sizeAbove wanted=M+1)(hl:M+1<=sizeLine)(hc:cyc M=true)(hz:es.size<=M)
  (q:∀h' o' es' ep' t',Heap.SameBut a s.heap h'->h'.get? a=some o'->o'.ExactSet->o'.data=.set es' ep' t'->es'.size=es.size->Good t' es.size M->(∀e∈es'.toList,e∈es.toList)->Q () { s with heap:=h' }):
  wpAny (model P w) A (setRelay a wanted) Q E s:=by
 rw[v7];refine zam (wpAny_setState_of ho hd hf ?_)
 dsimp only
 rw[if_neg (by rw[hM];lia)];obtain⟨t',order,e1,e2,e3,e4⟩:=Bv hc (es.map (·.1)) (by rw[Array.size_map];exact hz) t.finger (t.movedTo M) t.led t.plain;rw[Array.size_map]at e2 e3 e4;have e0:t.relaid (es.map (·.1)) wanted=some (t',order):=by
  unfold SetTable.relaid;rw[hM,Nat.add_sub_cancel];exact e1
 refine zam ?_;rw[e0];have os:=sE (es:=es) e4;unfold Al
 dsimp only
 have:((order.filterMap λx=>es[x]?).size != es.size)=false:=by
  rw[os,e3];simp
 rw[this,if_neg zbn];refine zaT ?_
 dsimp only
 have hz2:es.size<=sizeLine:=by lia
 refine wpAny_storeSet_of ho hd ?_ (by rw[os,e3];exact hz2);refine q _ _ _ _ t' (Heap.SameBut.update _ _ _) (qU ho hd) ⟨hx.1,hx.2.1,hx.2.2⟩ rfl (by rw[os,e3]) e2 λe he=>?_;rw[Array.toList_filterMap]at he;obtain⟨x,_,hx⟩:=List.mem_filterMap.mp he;exact zaX (i:=x) (by rw[Array.getElem?_toList];exact hx)
def w8:∀n,n<300->(((n+1)*5 >= mkN n*3)->SetTable.sizeAbove (SetTable.grown (n+1))=mkN (n+1)+1)/\(¬((n+1)*5 >= mkN n*3)->mkN (n+1)=mkN n):=by decide +kernel
def BF(hn:n<300):(((n+1)*5 >= mkN n*3)->SetTable.sizeAbove (SetTable.grown (n+1))=mkN (n+1)+1)/\(¬((n+1)*5 >= mkN n*3)->mkN (n+1)=mkN n):=w8 n hn
def rB(hn:n<300):n+1<=mkN n:=by
 unfold mkN;split
 .lia
 .split
  .lia
  .split<;>lia
def qu{h:Int}{S:Int->Prop}{Q:Bool->Shared->Prop}(ht:s.heap.IsTuple b its)(hs:∀v∈its.toList,v.scannable=true)(hS:SetN s.heap a n S)(hh:¬S h)(hn:n<300)
  (q:∀h',Heap.SameBut a s.heap h'->SetN h' a (n+1) (λx=>S x\/x=h)->Q true { s with heap:=h' }):wpAny (model P w) A (setAddHashed a (.ref b) h) Q E s:=by
 obtain⟨o,es,ep,t,ho,hx,hd,hz,g,hm⟩:=hS.ex;subst hz;unfold setAddHashed;refine zbR ?_;show wpAny _ _ (setAddHashedIn a (.ref b) h (99999+1)) _ _ _;rw[setAddHashedIn.eq_def];refine zam (wpAny_setState_of ho hd g.fits ?_)
 dsimp only
 rw[if_neg (by unfold byScan;exact zbn)];refine zam (sv ho hd g (λe he z=>hh (z▸hm e he)) λj j1 j2=>?_)
 dsimp only
 refine zam (wpAny_setState_of ho hd g.fits ?_)
 dsimp only
 obtain⟨g1,p1⟩:=g.put j2 j1 (rB hn);generalize hp:t.put j=tp at g1 p1;obtain⟨t1,p⟩:=tp
 dsimp only at g1 p1 ⊢
 have fin:∀bv:Bool,wpAny (model P w) A (do
   storeSet a (SetTable.insertAt es p (h,Value.ref b)) (if bv=true then t1 else { t1 with plain:=false })
   if(!false&&(if bv=true then t1 else { t1 with plain:=false }).tooFull)=true then do
    setRelay a (SetTable.grown (es.size+1))
    pure true
   else pure true) Q E s:=λbv=>by
  have g2:Good (if bv=true then t1 else { t1 with plain:=false }) (es.size+1) (mkN es.size):=by
   cases bv
   .exact g1.of rfl rfl rfl
   .exact g1
  generalize (if bv=true then t1 else { t1 with plain:=false })=t2 at g2 ⊢;have iz:(SetTable.insertAt es p (h,Value.ref b)).size=es.size+1:=pT _ _ _;refine zam (wpAny_storeSet_of ho hd ?_ (by rw[iz];unfold sizeLine;lia));have mem:∀e∈(SetTable.insertAt es p (h,Value.ref b)).toList,S e.1\/e.1=h:=λe he=>by
   rcases BA he with z|z
   .exact .inr (by rw[z])
   .exact .inl (hm e z)
  have sb:=Heap.SameBut.update s.heap a (Obj.putSet (SetTable.insertAt es p (h,Value.ref b)) t2);have hg:=qU (es':=SetTable.insertAt es p (h,Value.ref b)) (t':=t2) ho hd;obtain⟨f1,f2⟩:=BF hn;rw[g2.notFull];by_cases c:(es.size+1)*5 >= mkN es.size*3
  .rw[if_pos (by simpa using c)];have M1:=f1 c;refine zam (uE (M:=mkN (es.size+1)) hg ⟨hx.1,hx.2.1,hx.2.2⟩ rfl (by rw[iz];exact g2.fits) M1 ?_ (vL _) ?_ λh' o' es' ep' t' q1 q2 q3 q4 q5 q6 q7=>?_)
   .rcases pE (es.size+1)with e|e|e|e<;>rw[e]<;>unfold sizeLine<;>decide
   .rw[iz]
    have:=rB (n:=es.size+1-1) (by lia);unfold mkN;split
    .lia
    .split
     .lia
     .split<;>lia
   .rw[iz]at q5 q6;exact zaT (q h' (sb.trans q1) ⟨o',es',ep',t',q2,q3,q4,q5,q6,λe he=>mem e (q7 e he)⟩)
  .rw[if_neg (by simpa using c)];have M2:=f2 c;exact zaT (q _ sb ⟨_,_,_,t2,hg,⟨hx.1,hx.2.1,hx.2.2⟩,rfl,iz,by rw[M2];exact g2,mem⟩)
 cases hpl:t1.plain with
 |true=>
  rw[if_pos rfl];exact zam (vk ht hs λr=>fin r)
 |false=>
  rw[if_neg zbn];exact zam (zaT (fin true))
noncomputable def hO:Option Key->Option Int
 |none=>some (reduceHash 0xFCA86420)
 |some (.inl i)=>some (hashInt i)
 |some (.inr _)=>none
def hOs:List (Option Key)->Option (List Int)
 |[]=>some []
 |k::r=>(hO k).bind λa=>(hOs r).map (a::·)
def hT(ks:List (Option Key)):Option Int:=(hOs ks).map λhs=>reduceHash (Builtin.Tuple.tupleHashOf hs)
def hTs:List (List (Option Key))->Option (List Int)
 |[]=>some []
 |k::r=>(hT k).bind λa=>(hTs r).map (a::·)
def fS:List D->Option (List (List (Option Key)))
 |[]=>some []
 |.tuple us::r=>(bK us).bind λk=>(fS r).map (k::·)
 |_=>none
def m9:D->Option D
 |.list ts=>(fS ts).bind λks=>(hTs ks).bind λhs=>grd (hs.Nodup/\ts.length<=300) (.int ts.length)
 |_=>none
section
variable{I:Addr}{fp wr:List Addr}{G:Array GenState->Array GenState->Prop}{Pi:Nat->Value->Prop}{St:Nat->Shared->Prop}
def Fd(h:hOs ks=some hs):ks.map (bx P w).hash=hs:=by
 induction ks generalizing hs with
 |nil=>cases h;rfl
 |cons k r ih=>
  obtain⟨a,h1,h⟩:=zaa.mp h;obtain⟨b,h2,rfl⟩:=zab.mp h;rw[zar,ih h2];congr 1;rcases k with _ | (i|x)
  .cases h1;rfl
  .cases h1;rfl
  .cases h1
def GN{a:Int}(h:hT ks=some a):(tupleKind (bx P w)).hash ks=a:=by
 obtain⟨hs,h1,rfl⟩:=zab.mp h;show reduceHash (Builtin.Tuple.tupleHashOf (ks.map (bx P w).hash))=_;rw[Fd h1]
def BE{kss:List (List (Option Key))}(h:hTs kss=some hs):hs.length=kss.length/\∀(i:Nat) (k:List (Option Key)),kss[i]?=some k->∃a,hs[i]?=some a/\hT k=some a:=by
 induction kss generalizing hs with
 |nil=>cases h;exact⟨rfl,λi k z=>by simp at z⟩
 |cons k r ih=>
  obtain⟨a,h1,h⟩:=zaa.mp h;obtain⟨b,h2,rfl⟩:=zab.mp h;obtain⟨i1,i2⟩:=ih h2;refine⟨by simp[i1],λi k' z=>?_⟩;cases i with
  |zero=>simp at z;subst z;exact⟨a,rfl,h1⟩
  |succ i=>obtain⟨c,c1,c2⟩:=i2 i k' (by simpa using z);exact⟨c,by simpa using c1,c2⟩
def TupAt(P:Program)(w:World)(h:Heap)(k:List (Option Key))(b:Addr):Prop:=IsTupleKey (bx P w) h k b
def TupAt.mv{h':Heap}{k:List (Option Key)}(x:TupAt P w h k b)(hk:∀o,h.get? b=some o->h'.get? b=some o):TupAt P w h' k b:=by
 obtain⟨o,its,m,e,r⟩:=x;exact⟨o,its,m,hk o e,r⟩
theorem pP:∀{k:List (Option Key)} {l:List Value},ItemsAre (bx P w) k l->∀v∈l,v.scannable=true
 |[],[],.nil,v,hv=>by cases hv
 |k::ks,v'::vs,.cons h r,v,hv=>by
  rcases zay.mp hv with e|e
  .subst e;have h:l9 k v=true:=h;rcases k with _|q
   .rw[bU h];rfl
   .rcases aY h with⟨i,t,_,rfl⟩|⟨x,t,_,rfl⟩<;>rfl
  .exact pP r v e
def uD(W:WalksS P w A.in1 I fp wr G n Pi St)(a:Addr)(ha:a∉fp)(hu:A.in1.units<cLine)(ks:Nat->List (Option Key))(bs:Nat->Addr)(hs:List Int)(hl:hs.length=n)(hnd:hs.Nodup)(hks:∀i,i<n->∃c,hs[i]?=some c/\hT (ks i)=some c)(hf:∀i v,Pi i v->v=.ref (bs i))(hbs:∀i,i<n->bs i∉a::wr)(hb:n<=300):
  ∀(k i:Nat) (s:Shared),n-i=k->i<=n->St i s->SetN s.heap a i (·∈hs.take i)->(∀j,j<n->TupAt P w s.heap (ks j) (bs j)) ->
   (∀s',Moved (a::wr) G s s'->SetN s'.heap a n (·∈hs.take n)->R (.ok (.ret .none)) s')->codeAny (model P w) A (.builtin "set.update.loop" ⟨[.ref a,.ref I],[]⟩) R s:=by
 have hw:a∉wr:=λh=>ha (W.sub _ h);intro k
 induction k with
 |zero=>
  intro i s hk hi st hS hT q;obtain rfl:i=n:=by lia
  refine codeAny_builtin PyProof.Rows.F.entry_set_update_loop ?_;rw[Around.under_plainId PyProof.Rows.F.plain_set_update_loop _];show wpAny _ _ (pyNext (.ref I) >>= _) _ _ s;refine zam (W.done s _ _ st λs1 m=>zaT (q s1 (m.mono λb h=>zaj _ h) ?_));obtain⟨o,es,ep,t,e,r⟩:=hS.ex;exact⟨o,es,ep,t,m.heap a o hw e,r⟩
 |succ k ih=>
  intro i s hk hi st hS hT q;have lt:i<n:=by lia
  refine codeAny_builtin PyProof.Rows.F.entry_set_update_loop ?_;rw[Around.under_plainId PyProof.Rows.F.plain_set_update_loop _];show wpAny _ _ (pyNext (.ref I) >>= _) _ _ s;refine zam (W.item i s _ _ lt st λv s1 hv st1 m=>?_);obtain rfl:=hf i v hv;have hT1:∀j,j<n->TupAt P w s1.heap (ks j) (bs j):=λj hj=>(hT j hj).mv λo e=>m.heap (bs j) o (λz=>hbs j hj (zaj _ z)) e;obtain⟨c,c1,c2⟩:=hks i lt;show wpAny _ _ (holding [Value.ref (bs i)] (setAdd a (.ref (bs i))) >>= _) _ _ s1;refine zam (zbR ?_);unfold setAdd;refine zbR (zam ((tupleKind (bx P w)).pyHash (k:=ks i) hu (hT1 i lt) ?_));rw[GN c2];obtain⟨o,its,mm,ho,hc,hd,hi2⟩:=hT1 i lt;have hS1:SetN s1.heap a i (·∈hs.take i):=by
   obtain⟨o,es,ep,t,e,r⟩:=hS.ex;exact⟨o,es,ep,t,m.heap a o hw e,r⟩
  have new:¬c∈hs.take i:=λz=>by
   obtain⟨j,hj,e⟩:=List.mem_take_iff_getElem.mp z;obtain⟨hi',ei⟩:=zah.mp c1;exact List.pairwise_iff_getElem.mp hnd j i (by lia) hi' (by lia) (e.trans ei.symm)
  refine qu (s:={ s1 with toks:=s1.toks+(tupleKind (bx P w)).draws (ks i) }) ⟨o,ho,hc,mm,hd⟩ (pP hi2) hS1 new (by lia) λh2 sb h3=>?_;have h4:SetN h2 a (i+1) (·∈hs.take (i+1)):=by
   obtain⟨o,es,ep,t,e1,e2,e3,e4,e5,e6⟩:=h3.ex;refine⟨o,es,ep,t,e1,e2,e3,e4,e5,λe he=>?_⟩;rw[List.take_add_one,c1];rcases e6 e he with z|z
   .exact zbf _ z
   .exact zbg _ (by simp[z])
  refine zaT ⟨plainId_quiet PyProof.Rows.F.plain_set_update_loop _,ih (i+1) _ (by lia) lt (W.frame _ s1 _ _ st1 (Nat.le_add_right _ _) λb hb o e=>?_) h4 (λj hj=>(hT1 j hj).mv λo e=>?_) λs3 m3 h5=>?_⟩
  .rw[sb.2 b λz=>ha (z▸hb)];exact e
  .rw[sb.2 (bs j) λz=>hbs j hj (z▸zaq)];exact e
  .refine q s3 (Moved.trans W.gtrans ((m.mono λb h=>zaj _ h).then_heap (Nat.le_add_right _ _) λb o hb e=>?_) m3) h5;rw[sb.2 b λz=>hb (z▸zaq)];exact e
end
def oU:isSubtype (.type "list") (.type "set")=pure false:=by rw[isSubtype_type];kernel_rfl
def kb:isSubtype (.type "list") (.type "frozenset")=pure false:=by rw[isSubtype_type];kernel_rfl
def tq(led:Bool):Good (.fresh 0 0 led) 0 (mkN 0):=⟨rfl,rfl,rfl,λi j x y _ h=>by simp[SetTable.fresh]at h,λi x h=>by simp[SetTable.fresh]at h,zbj _⟩
def oz{lp:Addr}{its:List Value}{bs:Nat->Addr}{ks:Nat->List (Option Key)}(hh:A.handled=none)(hu:A.units+8<cLine)(ht:s.heap.IsList lp its.toArray)(hv:∀(i:Nat) (v:Value),its[i]?=some v->v=.ref (bs i))(hT:∀i,i<its.length->TupAt P w s.heap (ks i) (bs i))
  (hl:hs.length=its.length) (hnd:hs.Nodup) (hks:∀i,i<its.length->∃c,hs[i]?=some c/\L2.hT (ks i)=some c) (hb:its.length<=300)
  (h:∀(h':Heap) (tk:Nat),SetN h' s.heap.objs.size its.length (λ_=>True)->(∀b o,b<s.heap.objs.size->s.heap.get? b=some o->h'.get? b=some o)->Q (.ref s.heap.objs.size) { s with heap:=h',toks:=tk }):
  wpAny (model P w) A (call (.type "set") [.ref lp]) Q E s:=by
 obtain⟨c,tl,e0⟩:=PySem.F.called_set.mro;have e1:=PySem.F.called_set.made;have e2:=PySem.F.called_set.sub;have htl:lp<s.heap.objs.size:=zal ht.choose_spec.1;refine wpAny_call (codeAny_of_tree ?_);show wpAny _ _ (callAny (.type "set") ⟨[.ref lp],[]⟩) _ _ _;refine zaT ⟨Code.quiet_builtin _ (by decide +kernel),codeAny_builtin PySem.F.entry_type_call ?_⟩;rw[Around.under_plain (weight_type_call_type "set" [.ref lp] []) rfl];have e3:=PySem.F.called_set.notType;have e4:=PySem.F.called_set.canCreate;have e5:=PySem.F.typeCall_set_1 (.ref lp)
 repeat (any_goals (first|assumption|wp_step))
 refine codeAny_mono (code_set_new_1 (.ref lp) (E:=E) (Q₁:=λobj s1=>∃led:Bool,obj=.ref s.heap.objs.size/\s1={ s with heap:=s.heap.push (gR led) }) λled=>⟨led,rfl,rfl⟩) λr s1 hr=>?_;cases r with
 |error e=>exact hr
 |ok fl=>
  cases fl with
  |ret obj=>
   obtain⟨led,rfl,rfl⟩:=hr;have g0:(s.heap.push (gR led)).get? s.heap.objs.size=some (gR led):=zan _ rfl;have hT0:Shared.TypeIs { s with heap:=s.heap.push (gR led) } (.ref s.heap.objs.size) "set":=⟨_,g0,rfl⟩;have i1:=PySem.F.called_set.init.lookup;have i2:=PySem.F.called_set.init.bind (.ref s.heap.objs.size)
   repeat (any_goals (first|assumption|wp_step))
   refine codeAny_mono (codeAny_call_builtin (R:=wants (λr s2=>r=.none/\∃h' tk,s2={ s with heap:=h',toks:=tk }/\SetN h' s.heap.objs.size its.length (λ_=>True) /\
     ∀b o,b<s.heap.objs.size->s.heap.get? b=some o->h'.get? b=some o) E) PySem.F.called_set.init.plain PySem.F.entry_set_init (check_set_init_1 hT0 ?_)) λr2 s2 hr2=>?_
   .have j1:=oU;have j2:=kb;have j3:(Value.type "list"==Value.type "dict")=false:=by decide
    have ht2:(s.heap.push (gR led)).IsList lp its.toArray:=ht.push _;obtain⟨⟨cls,dd,data,sl⟩,ho,hc,m,hda⟩:=id ht2;simp only at hc hda;subst hc hda;unfold Builtin.«set.__init__» noKeywords Builtin.Frozenset.updateFrom;generalize hPI:pyIter=PI
    wp_walk using wpAny_loadPart' ho,wpAny_load ho
    subst hPI;refine wpAny_pyIter_list ht2 ?_;refine zam (wpAny_runValue ?_);have hI:(s.heap.push (gR led)).objs.size=s.heap.objs.size+1:=by rw[zbv]
    have hne:s.heap.objs.size∉[(s.heap.push (gR led)).objs.size,lp]:=by
     rw[hI];intro z;rcases zay.mp z with z|z
     .exact zaw (Nat.lt_succ_self _) z
     .exact zaw htl (zaH.mp z).symm
    have hti:lp≠(s.heap.push (gR led)).objs.size:=by rw[hI];exact zaw (Nat.lt_succ_of_lt htl)
    have W:=(Walks.list (prog:=P) (w:=w) (A:=A.in1.in1.in1) (by simp[hh]) (s.heap.push (gR led)).objs.size lp hti its.toArray).toS;have hsz:its.toArray.size=its.length:=by rw[zai]
    rw[hsz]at W;have blt:∀i,i<its.length->bs i<s.heap.objs.size:=λi hi=>by
     obtain⟨o,_,_,e,_⟩:=hT i hi;exact zal e
    refine uD W s.heap.objs.size hne (by show A.units+1+1+1<cLine;lia) ks bs hs hl hnd hks (λi v hv'=>hv i v (by simpa using hv')) (λi hi z=>?_) hb (its.length-0) 0 _ rfl (zbj _) ⟨⟨_,zan _ rfl,rfl,rfl⟩,ht2.push _⟩ ?_ (λi hi=>(hT i hi).mv λo e=>zaf _ (zaf _ e)) ?_
    .have:=blt i hi;rcases zay.mp z with z|z
     .lia
     .have:=zaH.mp z;rw[hI]at this
      lia
    .exact⟨_,#[],0,_,zaf _ g0,⟨rfl,rfl,rfl⟩,rfl,rfl,tq led,λe he=>by simp at he⟩
    .intro s3 m h3;obtain⟨h',g',d',tk,os'⟩:=s3;obtain rfl:g'=s.gens:=m.gens;obtain rfl:d'=s.drawn:=m.drawn;obtain rfl:os'=s.os:=m.os;refine zaT (zaT ⟨rfl,h',tk,rfl,?_,λb o hb e=>?_⟩)
     .obtain⟨o,es,ep,t,f1,f2,f3,f4,f5,_⟩:=h3.ex;exact⟨o,es,ep,t,f1,f2,f3,f4,f5,λ_ _=>trivial⟩
     .refine m.heap b o ?_ (zaf _ (zaf _ e));simp only[zay,zap,or_false,not_or];exact⟨zaw hb,zaw (zag hb (by rw[zbv];lia))⟩
   .cases r2 with
    |error e=>exact hr2
    |ok fl2=>
     cases fl2 with
     |ret r=>
      obtain⟨rfl,h',tk,rfl,h3,hk⟩:=hr2
      repeat (any_goals (first|assumption|wp_step))
      exact h _ _ h3 hk
     |_=>exact hr2.elim
  |_=>exact hr.elim
noncomputable def oF(a:Addr)(n:Nat):HO:=.ext λh=>SetN h a n λ_=>True
def Gm(K:zbV):List V->Hp->VK->Prop:=λxs H Q=>∃(p:Addr) (vs:List V) (kss:List (List (Option Key))) (hs:List Int),xs=[.ref p]/\SqL K H p vs/\vs.length=kss.length /\
 (∀(i:Nat) (k:List (Option Key)),kss[i]?=some k->∃b,vs[i]?=some (.ref b)/\H b=some (.tup (k.map oV)))/\hTs kss=some hs/\hs.Nodup/\kss.length<=300/\∀a,H a=none->Q (.ref a) (upd H a (oF a kss.length))
section
variable{f:ME}{pos2 py:Pos}
def vN(hc:X.calm=true)(hu:X.A.units+64<cLine):CallR X (.type "set") (Gm X.K):=by
 intro ρ s σ H xs us Q I r ⟨p,vs,kss,hs,e,hq,hl,hT,h1,h2,h3,q⟩;subst e;obtain⟨u,rfl,ru⟩:=kS r;cases ru;obtain⟨its,rv,pl,hz⟩:=I.list hq;have il:its.length=kss.length:=by rw[<-rv.length,hl]
 obtain⟨t1,t2⟩:=BE h1;have at_:∀i,i<kss.length->∃b k,kss[i]?=some k/\its[i]?=some (.ref b)/\TupAt X.prog X.w s.heap k b:=λi hi=>by
  obtain⟨b,hb,hH⟩:=hT i _ (zak hi);obtain⟨u,hu,ru⟩:=rv.get hb;cases ru;obtain⟨_,is,iv,o,g1,g2,n,g3,g4⟩:=(show _ from I.hok b _ hH);exact⟨b,_,zak hi,hu,o,is.toArray,n,g1,g2,g3,ki iv⟩
 refine oz (bs:=λi=>match its[i]? with|some (.ref b)=>b|_=>0) (ks:=λi=>(kss[i]?).getD []) (hs:=hs) (I.ok.hd hc) (by lia) pl.isList (λi v hv=>?_) (λi hi=>?_) (by rw[t1,il]) h2 (λi hi=>?_) (by rw[il];exact h3) λh' tk hS hk=>⟨.ref _,_,I.laid (a:=s.heap.objs.size) (o:=oF s.heap.objs.size kss.length) (t':=tk) (λb o e=>hk b o (zal e) e) (zav _) ?_,rfl,q _ (I.hok.fresh (zav _))⟩
 .obtain⟨b,k,_,g2,_⟩:=at_ i (by rw[<-il];exact(zah.mp hv).1);rw[hv]at g2;cases g2;simp only[hv]
 .obtain⟨b,k,g1,g2,g3⟩:=at_ i (by rw[<-il];exact hi);simp only[g1,g2,Option.getD_some];exact g3
 .obtain⟨b,k,g1,g2,g3⟩:=at_ i (by rw[<-il];exact hi);obtain⟨a,a1,a2⟩:=t2 i k g1;exact⟨a,a1,by simp only[g1,Option.getD_some];exact a2⟩
 .rw[il]at hS;obtain⟨o,es,ep,t,e,r⟩:=hS.ex;exact⟨hS,⟨o,e⟩,λh1 h2 a k=>by
   obtain⟨o,es,ep,t,e,r⟩:=a.ex;exact⟨o,es,ep,t,k o e,r⟩⟩
def Go:List V->Hp->VK->Prop:=λxs H Q=>∃a n,xs=[.ref a]/\H a=some (oF a n)/\n<=300/\Q (.int n) H
def vO:CallR X (.builtin "len") Go:=by
 intro ρ s σ H xs us Q I r ⟨a,n,e,ha,hz,q⟩;subst e;obtain⟨u,rfl,ru⟩:=kS r;cases ru;obtain⟨hS,_⟩:=I.hok a _ ha;obtain⟨o,es,ep,t,g1,g2,g3,g4,g5,_⟩:=hS.ex;refine call_len_set g1 g2 g3 (by rw[g4];exact g5.fits) (by lia) ⟨.int es.size,H,(I.tok _).tok _,⟨_,rfl⟩,?_⟩;rw[g4];exact q
theorem nH{K:zbV}{O:AS}{H:Hp}:∀{ts:List D} {kss:List (List (Option Key))} {vs:List V} {F:AS},fS ts=some kss->Ows K O H ts 0 vs F->vs.length=kss.length/\kss.length=ts.length/\∀(i:Nat) (k:List (Option Key)),kss[i]?=some k->∃b,vs[i]?=some (.ref b)/\H b=some (.tup (k.map oV))
 |[],_,_,_,h,o=>by
  cases h;have o:_=[]:=o;subst o;exact⟨rfl,rfl,λi k z=>by simp at z⟩
 |t::ts,kss,vs,F,h,o=>by
  cases t with
  |tuple us=>
   obtain⟨k,h1,h⟩:=zaa.mp (show(bK us).bind (λk=>(fS ts).map (k::·))=some kss from h);obtain⟨r,h2,rfl⟩:=zab.mp h;obtain⟨v,vr,F1,F2,rfl,_,_,_,o1,o2⟩:=o;obtain⟨i1,i2,i3⟩:=nH h2 o2;obtain⟨b,xs,rfl,fz,ow⟩:=(Ow.any0 _ o1).tup0;rw[fW h1 ow]at fz;refine⟨by simp[i1],by simp[i2],λi k' z=>?_⟩;cases i with
   |zero=>simp at z;subst z;exact⟨b,rfl,fz.1⟩
   |succ i=>simpa using i3 i k' (by simpa using z)
  |_=>cases h
def qa(hK:X.K=K)(hu:X.A.units+64<cLine)(hc:X.calm=true)(hg:Gl X "len")(hm:X.mg "len"=none)(hg2:Gl X "set")(hm2:X.mg "set"=none)(hb:bootBuiltins "len"=some (.builtin "len"))(hb2:bootBuiltins "set"=some (.type "set"))(he:QE X e (tF K p ds ds1 0 f))(hs:bg e=true):
  QE X (.Call (.Name "len" px) [.Call (.Name "set" py) [e] [] pos2] [] pos) (tF K p ds ds1 3 (e1 m9 f)):=by
 subst hK;refine⟨(lK vO hg hm hb (fV (nK (vN hc hu) hg2 hm2 hb2 (fV he.h pa_nil (a5 hs)) (by decide) (by decide) (a5 hs) rfl) pa_nil (a5 rfl)) (by decide) (by decide) (a5 rfl) rfl).imp λσ H Q h=>?_⟩;obtain⟨Ox,en,R,t,en',e,hf,k⟩:=h;unfold e1 at hf;obtain⟨⟨t1,en1⟩,h1,hf⟩:=zaa.mp hf;obtain⟨t',h3,hf⟩:=zab.mp hf;cases hf;cases t1 with
 |list ts=>
  obtain⟨kss,h4,h5⟩:=zaa.mp h3;obtain⟨hs,h6,h7⟩:=zaa.mp h5;obtain⟨⟨c1,c2⟩,rfl⟩:=dz h7;refine⟨Ox,en,R,.list ts,en1,e,h1,λv H' R' F P o=>?_⟩;obtain⟨a,vs,rfl,fz,w⟩:=(Ow.any0 _ o).lst0;obtain⟨i1,i2,i3⟩:=nH h4 w;refine⟨a,vs,kss,hs,rfl,fz.sq,i1,i3,h6,c1,by rw[i2];exact c2,λa ha=>?_⟩;refine⟨a,kss.length,rfl,ao,by rw[i2];exact c2,?_⟩;have n:NewTo H' (upd H' a (oF a kss.length)) NoA:=⟨(bC ha).1,λ_ z=>z.elim⟩;rw[i2]at n ⊢;exact k _ _ R' NoA (P.fin n) rfl
 |_=>cases h3
end
end L2
namespace W35
noncomputable section
variable{k:Nat}
open PySem L2
noncomputable def top(i:Nat):Stmt:=PySem.Challenge.pw_wordrules_k35_one_within_the_other.main.body.getD i (.Pass ⟨0,0,0,0⟩)
structure Bl(mg:Str->Option Value):Prop where
 bool0:mg "bool"=none
 enumerate0:mg "enumerate"=none
 int0:mg "int"=none
 isinstance0:mg "isinstance"=none
 len0:mg "len"=none
 list0:mg "list"=none
 range0:mg "range"=none
 reversed0:mg "reversed"=none
 set0:mg "set"=none
 tuple0:mg "tuple"=none
section
variable{P:Program}{w:World}{K:zbV}{mg:Str->Option Value}{base:Heap}{f:Addr}{fd:FuncData}
abbrev jV:Stmt:=top 21
abbrev mS:List Str:=["_law_pen_here","_law_many","_law_drawn","_law_number"]
def sc_law_draw:FnScope mS ["_law_pen_here","_law_many"] (ak jV):=⟨rfl,rfl,rfl,by decide +kernel,rfl,by decide +kernel,by decide +kernel⟩
def eh:MS:=(aj (eK 0 (eC (.int 2)) (e2 br (cI 0 (eC (.int 2))) (eC (.int 1))))
 (aj (sIf (tV (e2 gtI (cI 0 (eC (.int 0))) (eC (.int 0)))) (aj (aw 2 (e2 bO (cI 0 (eC (.int 0))) (ac 1)))
 (aj (eK 0 (eC (.int 0)) (e2 iA (cI 0 (eC (.int 0))) (ac 1)))
 (az (ac 2)))) aQ)
 (aj (aw 3 (e2 bO (e2 br (e2 br (cI 0 (eC (.int 1))) (e2 cy (eC (.int 69621)) (cI 0 (eC (.int 2))))) (eC (.int 13))) (eC (.int 2147483629))))
 (aj (aw 3 (e2 br (e2 bO (e2 cy (ac 3) (ac 3)) (eC (.int 2147483587))) (e2 cy (eC (.int 6151)) (cI 0 (eC (.int 2))))))
 (aj (aw 3 (e2 bO (e2 cy (ac 3) (ac 3)) (eC (.int 2147483629))))
 (az (e2 bO (e2 iA (ac 3) (eC (.int 64))) (ac 1))))))))
def aG:List D->Option (D×En):=fnF 2 [1,0] eh
def qE(T:Bl mg)(F:Fun K "_law_draw" "_law_draw" jV f fd):FnOk P w K mg base CX0 (k+1) f fd ["_law_pen_here","_law_many"] (spF K [1,0] 0 aG):=by
 have nd:=sc_law_draw.nd;refine F.okQ (N:=mS) (b:=eh) (J:=⟨[0],[1,0,0,0],0,[]⟩) (ds0:=[1,0,0,0]) sc_law_draw rfl rfl rfl rfl λcdv A outer s H E hr=>?_;exact(ag (gU (i:=0) (d:=1) (c:=0) rfl (.inl rfl) (fs0 (aD c7 (cV (K:=K) (i:=0) rfl rfl (.inl rfl) rfl ah (λ_ _=>rfl) rfl rfl) ah)) ah rfl (by decide) rfl rfl rfl (λ_=>rfl) rfl rfl rfl) (ag (aA (ds2:=[1,0,0,0]) (aI tG (cV (K:=K) (i:=0) rfl rfl (.inl rfl) rfl ah (λ_ _=>rfl) rfl rfl) ah (aM _)) (ag (aN 2 [1,0,0,0] nd (fs0 (aD fA (cV (K:=K) (i:=0) rfl rfl (.inl rfl) rfl ah (λ_ _=>rfl) rfl rfl) (fv 1 rfl rfl))) rfl rfl rfl) (ag (gU (i:=0) (d:=1) (c:=0) rfl (.inl rfl) (fs0 (aD rO (cV (K:=K) (i:=0) rfl rfl (.inl rfl) rfl ah (λ_ _=>rfl) rfl rfl) (fv 1 rfl rfl))) ah rfl (by decide) rfl rfl rfl (λ_=>rfl) rfl rfl rfl) (frt (fv 2 rfl rfl) rfl))) ax) (ag (aN 3 [1,0,0,0] nd (fs0 (aD fA (aD c7 (aD c7 (cV (K:=K) (i:=0) rfl rfl (.inl rfl) rfl ah (λ_ _=>rfl) rfl rfl) (aD gy ah (cV (K:=K) (i:=0) rfl rfl (.inl rfl) rfl ah (λ_ _=>rfl) rfl rfl))) ah) ah)) rfl rfl rfl) (ag (aN 3 [1,0,0,0] nd (fs0 (aD c7 (aD fA (aD gy (fv 3 rfl rfl) (fv 3 rfl rfl)) ah) (aD gy ah (cV (K:=K) (i:=0) rfl rfl (.inl rfl) rfl ah (λ_ _=>rfl) rfl rfl)))) rfl rfl rfl) (ag (aN 3 [1,0,0,0] nd (fs0 (aD fA (aD gy (fv 3 rfl rfl) (fv 3 rfl rfl)) ah)) rfl rfl rfl) (frt (fs0 (aD fA (aD rO (fv 3 rfl rfl) ah) (fv 1 rfl rfl))) rfl))))))
abbrev jU:Stmt:=top 23
abbrev mR:List Str:=["_law_none","_law_stand"]
def sc_law_goal:FnScope mR ["_law_none","_law_stand"] (ak jU):=⟨rfl,rfl,rfl,by decide +kernel,rfl,by decide +kernel,by decide +kernel⟩
def fQ:MS:=(aj (sIf (tV (ac 0)) (az (eC .none)) aQ)
 (az (ac 1)))
def bF:List D->Option (D×En):=fnF 0 [0,0] fQ
def qD(T:Bl mg)(F:Fun K "_law_goal" "_law_goal" jU f fd):FnOk P w K mg base CX0 (k+1) f fd ["_law_none","_law_stand"] (spF K [0,0] 0 bF):=by
 have nd:=sc_law_goal.nd;refine F.okQ (N:=mR) (b:=fQ) (J:=⟨[],[0,0],0,[]⟩) (ds0:=[0,0]) sc_law_goal rfl rfl rfl rfl λcdv A outer s H E hr=>?_;exact(ag (aA (ds2:=[0,0]) (aE (fv 0 rfl rfl) (λ_=>rfl)) (frt (fs0 aJ) rfl) ax) (frt (fv 1 rfl rfl) rfl))
abbrev c9:Stmt:=top 22
abbrev eR:List Str:=["_law_pen_here","_law_many","_law_most","_law_size","_law_rare","_law_ends","_law_lost","_law_goes","_law_k"]
def sc_law_machine:FnScope eR ["_law_pen_here","_law_many","_law_most"] (ak c9):=⟨rfl,rfl,rfl,by decide +kernel,rfl,by decide +kernel,by decide +kernel⟩
def fM:ME:=(e2 eqD (am aG (aX 1 (ab (ac 2) ai))) (eC (.int 0)))
def fL:ME:=(am bF (ab (e2 ltI (am aG (aX 1 (ab (eC (.int 8)) ai))) (ac 3)) (ab (am aG (aX 1 (ab (ac 2) ai))) ai)))
def iG:MS:=(dw (eB 7 (eUp (eLC false (cH (ab (ac 1) ai)) (gN 0) cY fL [none,some 0,some 3,some 6]))))
def da:MS:=(aj (aw 3 (e2 br (eC (.int 1)) (am aG (aX 0 (ab (ac 2) ai)))))
 (aj (aw 4 (e2 ixA (ba (ab (eC (.int 2)) (ab (eC (.int 3)) (ab (eC (.int 6)) ai)))) (am aG (aX 0 (ab (eC (.int 3)) ai)))))
 (aj (aw 5 (eLC false (cH (ab (ac 3) ai)) (gN 0) cY fM [none,some 0,some 4]))
 (aj (aw 6 (e2 ixA (ba (ab (eC (.int 1)) (ab (eC (.int 3)) (ab (eC (.int 8)) ai)))) (am aG (aX 0 (ab (eC (.int 3)) ai)))))
 (aj (aw 7 (ba ai))
 (aj (dg (cH (ab (ac 3) ai)) (gN 8) iG)
 (az (bp (ab (eMv 5) (ab (eMv 7) ai))))))))))
def bA:List D->Option (D×En):=fnF 6 [1,0,0] da
def m5(T:Bl mg)(aP:Kn P w K mg base k "_law_draw" ["_law_pen_here","_law_many"] (spF K [1,0] 0 aG))(jW:Kn P w K mg base k "_law_goal" ["_law_none","_law_stand"] (spF K [0,0] 0 bF))(F:Fun K "_law_machine" "_law_machine" c9 f fd):FnOk P w K mg base CX0 (k+1) f fd ["_law_pen_here","_law_many","_law_most"] (spF K [1,0,0] 3 bA):=by
 have nd:=sc_law_machine.nd;refine F.okQ (N:=eR) (b:=da) (J:=⟨[0],[1,0,0,0,0,0,0,0,0],3,[]⟩) (ds0:=[1,0,0,0,0,0,0,0,0]) sc_law_machine rfl rfl rfl rfl λcdv A outer s H E hr=>?_;exact(ag (iy (i:=3) (d:=0) (ds':=[1,0,0,0,0,0,0,0,0]) nd rfl (.inr rfl) (fs0 (aD c7 ah (fns aP hr (ig 0 (aa (fv 2 rfl rfl) af rfl) rfl) rfl rfl))) rfl (by decide) (by decide) rfl (.inl rfl)) (ag (iy (i:=4) (d:=0) (ds':=[1,0,0,0,0,0,0,0,0]) nd rfl (.inr rfl) (bd (ck (K:=K) rfl) (aL (d:=3) (c:=3) (aa ah (aa ah (aa ah af rfl) rfl) rfl) rfl rfl (by decide)) (fns aP hr (ig 0 (aa (fs0 ah) af rfl) rfl) rfl rfl) (λ_ _=>rfl)) rfl (by decide) (by decide) rfl (.inl rfl)) (ag (qH (i:=5) (ds':=[1,0,0,0,0,3,0,0,0]) (cd:=3) (d:=3) (dsi:=[0,1,0]) (lk:=[1,2]) nd rfl rfl (BlkOkC.of (ns:=["_law_k","_law_pen_here","_law_rare"]) (js:=[none,some 0,some 4]) (N0:=eR) (sc0:=ak c9) rfl rfl (by decide +kernel)) rfl (cO rfl T.range0 (aa (fvc 3 rfl rfl) af rfl) rfl) (λ_ _ _ _ _=>(ay (i:=0) (ds':=[0,1,0]) (show(["_law_k","_law_pen_here","_law_rare"]:List Str).Nodup by decide +kernel) rfl (.inl rfl) rfl (by decide) (by decide) (.inr rfl))) (λ_ _ _ _ _=>dA) (λ_ _ _ _ _=>(e7 (mx (K:=K) rfl hr.units) (fns aP hr (ig 1 (aa (fvc 2 rfl rfl) af rfl) rfl) rfl rfl) ah (aM _))) rfl rfl rfl (by decide) rfl (by decide) (by decide) rfl (λ_=>rfl)) (ag (iy (i:=6) (d:=0) (ds':=[1,0,0,0,0,3,0,0,0]) nd rfl (.inr rfl) (bd (ck (K:=K) rfl) (aL (d:=3) (c:=3) (aa ah (aa ah (aa ah af rfl) rfl) rfl) rfl rfl (by decide)) (fns aP hr (ig 0 (aa (fs0 ah) af rfl) rfl) rfl rfl) (λ_ _=>rfl)) rfl (by decide) (by decide) rfl (.inl rfl)) (ag (aN 7 [1,0,0,0,0,3,0,3,0] nd (aL (d:=3) (c:=3) af rfl rfl (by decide)) rfl rfl rfl) (ag (bj (ds1:=[1,0,0,0,0,3,0,3,0]) rfl (cO rfl T.range0 (aa (fvc 3 rfl rfl) af rfl) rfl) (ay (i:=8) (ds':=[1,0,0,0,0,3,0,3,0]) nd rfl (.inl rfl) rfl (by decide) (by decide) (.inl rfl)) (aB (bH (cX (K:=K) (i:=7) (d:=3) rfl rfl (.inl rfl) rfl (BT (qb (cd:=0) (d:=1) (dsi:=[0,1,0,0]) (lk:=[1,2,3]) (BlkOkC.of (ns:=["_law_sign","_law_pen_here","_law_size","_law_lost"]) (js:=[none,some 0,some 3,some 6]) (N0:=eR) (sc0:=ak c9) rfl rfl (by decide +kernel)) rfl (cO rfl T.range0 (aa (fv 1 rfl rfl) af rfl) rfl) (λ_ _ _ _ _=>(ay (i:=0) (ds':=[0,1,0,0]) (show(["_law_sign","_law_pen_here","_law_size","_law_lost"]:List Str).Nodup by decide +kernel) rfl (.inl rfl) rfl (by decide) (by decide) (.inr rfl))) (λ_ _ _ _ _=>dA) (λ_ _ _ _ _=>(fnn jW hr (aa (fs0 (e7 k6 (fns aP hr (ig 1 (aa (fs0 ah) af rfl) rfl) rfl rfl) (fvc 3 rfl rfl) (aM _))) (aa (fns aP hr (ig 1 (aa (fvc 2 rfl rfl) af rfl) rfl) rfl rfl) af rfl) rfl) rfl rfl)) rfl rfl (by decide) rfl (λ_=>rfl))) (by decide) rfl rfl rfl rfl rfl rfl rfl rfl) rfl)) PassesOwn.never (λ_=>rfl)) (frt (aK (d:=3) (c:=3) (aa (dO (i:=5) (ds':=[1,0,0,0,0,0,0,3,0]) rfl (.inl rfl) rfl rfl rfl rfl) (aa (dO (i:=7) (ds':=[1,0,0,0,0,0,0,0,0]) rfl (.inl rfl) rfl rfl rfl rfl) af rfl) rfl) rfl rfl) rfl)))))))
abbrev jS:Stmt:=top 29
abbrev mP:List Str:=["_law_goal_here","_law_which"]
def sc_law_twin:FnScope mP ["_law_goal_here","_law_which"] (ak jS):=⟨rfl,rfl,rfl,by decide +kernel,rfl,by decide +kernel,by decide +kernel⟩
def gX:MS:=(aj (sIf (tV (e2 isN (ac 0) (eC .none))) (az (eC .none)) aQ)
 (az (e2 br (e2 cy (eC (.int 2)) (ac 0)) (ac 1))))
def cZ:List D->Option (D×En):=fnF 0 [0,0] gX
def qB(T:Bl mg)(F:Fun K "_law_twin" "_law_twin" jS f fd):FnOk P w K mg base CX0 (k+1) f fd ["_law_goal_here","_law_which"] (spF K [0,0] 3 cZ):=by
 have nd:=sc_law_twin.nd;refine F.okQ (N:=mP) (b:=gX) (J:=⟨[],[0,0],3,[]⟩) (ds0:=[0,0]) sc_law_twin rfl rfl rfl rfl λcdv A outer s H E hr=>?_;exact(ag (aA (ds2:=[0,0]) (aI fB (fv 0 rfl rfl) aJ (aM _)) (frt aJ rfl) ax) (frt (aD c7 (aD gy ah (fv 0 rfl rfl)) (fv 1 rfl rfl)) rfl))
abbrev eQ:Stmt:=top 28
abbrev gK:List Str:=["_law_pen_here","_law_machine_here","_law_bent","_law_ends","_law_goes","_law_stand","_law_row","_law_turn","_law_at","_law_number"]
def sc_law_doubled:FnScope gK ["_law_pen_here","_law_machine_here","_law_bent"] (ak eQ):=⟨rfl,rfl,rfl,by decide +kernel,rfl,by decide +kernel,by decide +kernel⟩
def fN:ME:=(am cZ (ab (ac 0) (ab (am aG (aX 1 (ab (eC (.int 2)) ai))) ai)))
def iI:MS:=(aj (dw (eB 3 (eSk (e2 ixA (e2 ixA (ac 1) (eC (.int 0))) (ac 5)))))
 (dw (eB 4 (eLC false (eY (ac 6)) (gN 0) cY fN [none,some 0]))))
def iH:MS:=(dg (cH (ab (eC (.int 2)) ai)) (gN 7) iI)
def gO:MS:=(aj (aw 3 (ba ai))
 (aj (aw 4 (ba ai))
 (aj (dg (kj (ab (e2 ixA (ac 1) (eC (.int 1))) ai)) (gT (gsC (gN 5) (gsC (gN 6) gs0))) iH)
 (aj (aw 8 (am aG (aX 0 (ab (eN bf (ab (ac 3) ai)) ai))))
 (aj (sIf (tV (e2 eqD (ac 2) (eC (.int 1)))) (eK 3 (ac 8) (km (e2 ixA (ac 3) (ac 8)))) aQ)
 (aj (sIf (tV (e2 eqD (ac 2) (eC (.int 2)))) (aj (aw 9 (am aG (aX 0 (ab (eN bf (ab (e2 ixA (ac 4) (eC (.int 0))) ai)) ai))))
 (jp 4 (pIx 4 (lM 4) (ac 8)) (ac 9) (eSk (am bF (ab (e2 eqD (am aG (aX 0 (ab (eC (.int 3)) ai))) (eC (.int 0))) (ab (am aG (aX 0 (ab (eN bf (ab (ac 3) ai)) ai))) ai)))))) aQ)
 (aj (sIf (tV (e2 eqD (ac 2) (eC (.int 3)))) (eK 3 (ac 8) (eC (.bool true))) aQ)
 (az (bp (ab (eMv 3) (ab (eMv 4) ai)))))))))))
def cu:List D->Option (D×En):=fnF 7 [1,0,0] gO
def m6(T:Bl mg)(aP:Kn P w K mg base k "_law_draw" ["_law_pen_here","_law_many"] (spF K [1,0] 0 aG))(jW:Kn P w K mg base k "_law_goal" ["_law_none","_law_stand"] (spF K [0,0] 0 bF))(t8:Kn P w K mg base k "_law_twin" ["_law_goal_here","_law_which"] (spF K [0,0] 3 cZ))(F:Fun K "_law_doubled" "_law_doubled" eQ f fd):FnOk P w K mg base CX0 (k+1) f fd ["_law_pen_here","_law_machine_here","_law_bent"] (spF K [1,0,0] 3 cu):=by
 have nd:=sc_law_doubled.nd;refine F.okQ (N:=gK) (b:=gO) (J:=⟨[0],[1,0,0,0,0,0,0,0,0,0],3,[]⟩) (ds0:=[1,0,0,0,0,0,0,0,0,0]) sc_law_doubled rfl rfl rfl rfl λcdv A outer s H E hr=>?_;exact(ag (aN 3 [1,0,0,3,0,0,0,0,0,0] nd (aL (d:=3) (c:=3) af rfl rfl (by decide)) rfl rfl rfl) (ag (aN 4 [1,0,0,3,3,0,0,0,0,0] nd (aL (d:=3) (c:=3) af rfl rfl (by decide)) rfl rfl rfl) (ag (bj (ds1:=[1,0,0,3,3,0,0,0,0,0]) rfl (nT (K:=K) rfl rfl T.enumerate0 (aa (fxi rfl (fv 1 rfl rfl)) af rfl) rfl) (gz (K:=K) rfl rfl (bt (ay (i:=5) (ds':=[1,0,0,3,3,0,0,0,0,0]) nd rfl (.inl rfl) rfl (by decide) (by decide) (.inl rfl)) (bt (ay (i:=6) (ds':=[1,0,0,3,3,0,0,0,0,0]) nd rfl (.inl rfl) rfl (by decide) (by decide) (.inl rfl)) fC rfl) rfl) i7 rfl rfl) (aB (bj (ds1:=[1,0,0,3,3,0,0,0,0,0]) rfl (cO rfl T.range0 (aa (fs0 ah) af rfl) rfl) (ay (i:=7) (ds':=[1,0,0,3,3,0,0,0,0,0]) nd rfl (.inl rfl) rfl (by decide) (by decide) (.inl rfl)) (ag (bH (cX (K:=K) (i:=3) (d:=3) rfl rfl (.inl rfl) rfl (rR (bd (ck (K:=K) rfl) (fxi rfl (fv 1 rfl rfl)) (fv 5 rfl rfl) (λ_ _=>rfl))) (by decide) rfl rfl rfl rfl rfl rfl rfl rfl) rfl) (aB (bH (cX (K:=K) (i:=4) (d:=3) rfl rfl (.inl rfl) rfl (qb (cd:=3) (d:=3) (dsi:=[0,1]) (lk:=[1]) (BlkOkC.of (ns:=["_law_goal_here","_law_pen_here"]) (js:=[none,some 0]) (N0:=gK) (sc0:=ak eQ) rfl rfl (by decide +kernel)) rfl (cB (K:=K) rfl (fv 6 rfl rfl)) (λ_ _ _ _ _=>(ay (i:=0) (ds':=[0,1]) (show(["_law_goal_here","_law_pen_here"]:List Str).Nodup by decide +kernel) rfl (.inl rfl) rfl (by decide) (by decide) (.inr rfl))) (λ_ _ _ _ _=>dA) (λ_ _ _ _ _=>(fnn t8 hr (aa (fv 0 rfl rfl) (aa (fns aP hr (ig 1 (aa (fs0 ah) af rfl) rfl) rfl rfl) af rfl) rfl) rfl rfl)) rfl rfl (by decide) rfl (λ_=>rfl)) (by decide) rfl rfl rfl rfl rfl rfl rfl rfl) rfl))) PassesOwn.never (λ_=>rfl))) PassesOwn.never (λ_=>rfl)) (ag (aN 8 [1,0,0,3,3,0,0,0,0,0] nd (fns aP hr (ig 0 (aa (fs0 (ga (ds0:=[1,0,0,0,3,0,0,0,0,0]) (fln rfl T.len0 (aa (fv 3 rfl rfl) af rfl) rfl rfl) rfl)) af rfl) rfl) rfl rfl) rfl rfl rfl) (ag (aA (ds2:=[1,0,0,3,3,0,0,0,0,0]) (fte rfl hr.units (fv 2 rfl rfl) ah) (aB (gU (i:=3) (d:=3) (c:=3) rfl (.inl rfl) (ga (ds0:=[1,0,0,0,3,0,0,0,0,0]) (jH (bd (ck (K:=K) rfl) (fv 3 rfl rfl) (fv 8 rfl rfl) (λ_ _=>rfl))) rfl) (fv 8 rfl rfl) rfl (by decide) rfl rfl rfl (λ_=>rfl) rfl rfl rfl)) ax) (ag (aA (ds2:=[1,0,0,3,3,0,0,0,0,0]) (fte rfl hr.units (fv 2 rfl rfl) ah) (ag (aN 9 [1,0,0,3,3,0,0,0,0,0] nd (fns aP hr (ig 0 (aa (fs0 (ga (ds0:=[1,0,0,3,0,0,0,0,0,0]) (fln rfl T.len0 (aa (fxi rfl (fv 4 rfl rfl)) af rfl) rfl rfl) rfl)) af rfl) rfl) rfl rfl) rfl rfl rfl) (aB (tz (p:=false) (i:=4) (d:=3) rfl (rR (fnn jW hr (aa (fs0 (e7 (mx (K:=K) rfl hr.units) (fns aP hr (ig 0 (aa (fs0 ah) af rfl) rfl) rfl rfl) ah (aM _))) (aa (fns aP hr (ig 0 (aa (fs0 (ga (ds0:=[1,0,0,0,3,0,0,0,0,0]) (fln rfl T.len0 (aa (fv 3 rfl rfl) af rfl) rfl rfl) rfl)) af rfl) rfl) rfl rfl) af rfl) rfl) rfl rfl)) (pZ (i:=4) (d:=3) rfl rfl (nS (i:=4) rfl (.inl rfl) rfl rfl) (fv 8 rfl rfl) (by decide) (by first|exact .inl rfl|exact .inr rfl) (λ_ _=>rfl)) (fv 9 rfl rfl) (by decide) rfl (by first|exact .inl rfl|exact .inr rfl) (λ_=>rfl) rfl rfl rfl))) ax) (ag (aA (ds2:=[1,0,0,3,3,0,0,0,0,0]) (fte rfl hr.units (fv 2 rfl rfl) ah) (aB (gU (i:=3) (d:=3) (c:=3) rfl (.inl rfl) aT (fv 8 rfl rfl) rfl (by decide) rfl rfl rfl (λ_=>rfl) rfl rfl rfl)) ax) (frt (aK (d:=3) (c:=3) (aa (dO (i:=3) (ds':=[1,0,0,0,3,0,0,0,0,0]) rfl (.inl rfl) rfl rfl rfl rfl) (aa (dO (i:=4) (ds':=[1,0,0,0,0,0,0,0,0,0]) rfl (.inl rfl) rfl rfl rfl rfl) af rfl) rfl) rfl rfl) rfl))))))))
abbrev kE:Stmt:=top 30
abbrev n8:List Str:=["_law_pen_here","_law_many","_law_one","_law_way","_law_other"]
def sc_law_two:FnScope n8 ["_law_pen_here"] (ak kE):=⟨rfl,rfl,rfl,by decide +kernel,rfl,by decide +kernel,by decide +kernel⟩
def kQ:MS:=(aj (aw 1 (e2 br (eC (.int 1)) (am aG (aX 0 (ab (e2 ixA (ba (ab (eC (.int 2)) (ab (eC (.int 3)) (ab (eC (.int 3)) (ab (eC (.int 12)) ai))))) (am aG (aX 0 (ab (eC (.int 4)) ai)))) ai)))))
 (aj (aw 2 (am bA (aX 0 (ab (ac 1) (ab (e2 ixA (ba (ab (eC (.int 3)) (ab (eC (.int 6)) (ab (eC (.int 9)) ai)))) (am aG (aX 0 (ab (eC (.int 3)) ai)))) ai)))))
 (aj (aw 3 (am aG (aX 0 (ab (eC (.int 8)) ai))))
 (aj (sIf (tV (e2 eqD (ac 3) (eC (.int 0)))) (az (bp (ab (ac 2) (ab (am bA (aX 0 (ab (ac 1) (ab (eC (.int 6)) ai)))) ai)))) aQ)
 (aj (aw 4 (am cu (aX 0 (ab (ac 2) (ab (e2 ixA (ba (ab (eC (.int 0)) (ab (eC (.int 0)) (ab (eC (.int 1)) (ab (eC (.int 2)) (ab (eC (.int 3)) (ab (eC (.int 0)) (ab (eC (.int 1)) (ab (eC (.int 2)) ai))))))))) (ac 3)) ai)))))
 (aj (sIf (tV (e2 ltI (ac 3) (eC (.int 5)))) (az (bp (ab (ac 2) (ab (ac 4) ai)))) aQ)
 (az (bp (ab (ac 4) (ab (ac 2) ai))))))))))
def ft:List D->Option (D×En):=fnF 4 [1] kQ
def sI(T:Bl mg)(j9:Kn P w K mg base k "_law_machine" ["_law_pen_here","_law_many","_law_most"] (spF K [1,0,0] 3 bA))(aP:Kn P w K mg base k "_law_draw" ["_law_pen_here","_law_many"] (spF K [1,0] 0 aG))(oC:Kn P w K mg base k "_law_doubled" ["_law_pen_here","_law_machine_here","_law_bent"] (spF K [1,0,0] 3 cu))(F:Fun K "_law_two" "_law_two" kE f fd):FnOk P w K mg base CX0 (k+1) f fd ["_law_pen_here"] (spF K [1] 0 ft):=by
 have nd:=sc_law_two.nd;refine F.okQ (N:=n8) (b:=kQ) (J:=⟨[0],[1,0,0,0,0],0,[]⟩) (ds0:=[1,0,0,0,0]) sc_law_two rfl rfl rfl rfl λcdv A outer s H E hr=>?_;exact(ag (aN 1 [1,0,0,0,0] nd (fs0 (aD c7 ah (fns aP hr (fsl 0 (aa (bd (ck (K:=K) rfl) (aL (d:=3) (c:=3) (aa ah (aa ah (aa ah (aa ah af rfl) rfl) rfl) rfl) rfl rfl (by decide)) (fns aP hr (fsl 0 (aa (fs0 ah) af rfl) rfl) rfl rfl) (λ_ _=>rfl)) af rfl) rfl) rfl rfl))) rfl rfl rfl) (ag (aN 2 [1,0,0,0,0] nd (fs0 (fns j9 hr (fsl 0 (aa (fv 1 rfl rfl) (aa (bd (ck (K:=K) rfl) (aL (d:=3) (c:=3) (aa ah (aa ah (aa ah af rfl) rfl) rfl) rfl rfl (by decide)) (fns aP hr (fsl 0 (aa (fs0 ah) af rfl) rfl) rfl rfl) (λ_ _=>rfl)) af rfl) rfl) rfl) rfl rfl)) rfl rfl rfl) (ag (aN 3 [1,0,0,0,0] nd (fns aP hr (fsl 0 (aa (fs0 ah) af rfl) rfl) rfl rfl) rfl rfl rfl) (ag (aA (ds2:=[1,0,0,0,0]) (fte rfl hr.units (fv 3 rfl rfl) ah) (frt (aK (d:=0) (c:=0) (aa (fv 2 rfl rfl) (aa (fns j9 hr (fsl 0 (aa (fv 1 rfl rfl) (aa (fs0 ah) af rfl) rfl) rfl) rfl rfl) af rfl) rfl) rfl rfl) rfl) ax) (ag (aN 4 [1,0,0,0,0] nd (fs0 (fns oC hr (fsl 0 (aa (fv 2 rfl rfl) (aa (bd (ck (K:=K) rfl) (aL (d:=3) (c:=3) (aa ah (aa ah (aa ah (aa ah (aa ah (aa ah (aa ah (aa ah af rfl) rfl) rfl) rfl) rfl) rfl) rfl) rfl) rfl rfl (by decide)) (fv 3 rfl rfl) (λ_ _=>rfl)) af rfl) rfl) rfl) rfl rfl)) rfl rfl rfl) (ag (aA (ds2:=[1,0,0,0,0]) (aI k6 (fv 3 rfl rfl) ah (aM _)) (frt (aK (d:=0) (c:=0) (aa (fv 2 rfl rfl) (aa (fv 4 rfl rfl) af rfl) rfl) rfl rfl) rfl) ax) (frt (aK (d:=0) (c:=0) (aa (fv 4 rfl rfl) (aa (fv 2 rfl rfl) af rfl) rfl) rfl rfl) rfl)))))))
abbrev gJ:Stmt:=top 12
abbrev j6:List Str:=["most","one","other"]
def screfuse_above:FnScope j6 ["most","one","other"] (ak gJ):=⟨rfl,rfl,rfl,by decide +kernel,rfl,by decide +kernel,by decide +kernel⟩
def gM:MS:=(sIf (tV (e2 gtI (e2 cy (e2 br (eN bf (ab (e2 ixA (ac 1) (eC (.int 0))) ai)) (eC (.int 1))) (e2 br (eN bf (ab (e2 ixA (ac 2) (eC (.int 0))) ai)) (eC (.int 1)))) (ac 0))) pd aQ)
def cq:List D->Option (D×En):=fnF 0 [0,0,0] gM
def m4(T:Bl mg)(F:Fun K "refuse_above" "refuse_above" gJ f fd):FnOk P w K mg base CX0 (k+1) f fd ["most","one","other"] (spF K [0,0,0] 3 cq):=by
 have nd:=screfuse_above.nd;refine F.okQ (N:=j6) (b:=gM) (J:=⟨[],[0,0,0],3,[]⟩) (ds0:=[0,0,0]) screfuse_above rfl rfl rfl rfl λcdv A outer s H E hr=>?_;exact(aB (aA (ds2:=[0,0,0]) (aI tG (aD gy (aD c7 (fln rfl T.len0 (aa (fxi rfl (fv 1 rfl rfl)) af rfl) rfl rfl) ah) (aD c7 (fln rfl T.len0 (aa (fxi rfl (fv 2 rfl rfl)) af rfl) rfl rfl) ah)) (fv 0 rfl rfl) (aM _)) (aB qI) ax))
abbrev kC:Stmt:=top 10
abbrev n6:List Str:=["first","ahead","·0","·1","numbers","found","goes","here","ways","there"]
def scexplored:FnScope n6 ["first","ahead"] (ak kC):=⟨rfl,rfl,rfl,by decide +kernel,rfl,by decide +kernel,by decide +kernel⟩
def eJ(a:Nat)(Flam:List D->Option (D×En)):MS:=(aj (sIf (dC (tV (e2 fX (ac 9) (eC .none))) (tV (e2 jL (ac 9) (ac 4)))) (aj (eF 4 (ac 9) (eN bf (ab (ac 5) ai)))
 (dw (eB 5 (ac 9)))) aQ)
 (dw (eB 8 (eIf (tV (e2 isN (ac 9) (eC .none))) (eC .none) (nk 4 (ac 9))))))
def lA(a:Nat)(Flam:List D->Option (D×En)):MS:=(aj (aw 7 (cI 5 (eN bf (ab (ac 6) ai))))
 (aj (aw 8 (ba ai))
 (aj (dg (eY (gA 1 a Flam (ab (ac 7) (lj [2,3])))) (gN 9) (eJ a Flam))
 (dw (eB 6 (ac 8))))))
def iW(a:Nat)(Flam:List D->Option (D×En)):MT:=(tV (e2 ltI (eN bf (ab (ac 6) ai)) (eN bf (ab (ac 5) ai))))
noncomputable def kP(a:Nat)(Flam:List D->Option (D×En)):MS:=(aj (aw 4 (ii (ac 0) (eC (.int 0))))
 (aj (aw 5 (ba (ab (ac 0) ai)))
 (aj (aw 6 (ba ai))
 (aj (cw (iW a Flam) (lA a Flam))
 (az (bp (ab (eMv 5) (ab (eMv 6) ai))))))))
noncomputable def dG(a:Nat)(Flam:List D->Option (D×En)):List D->Option (D×En):=fnF 6 [0,0,0,0] (kP a Flam)
def sH{l:Lam}{Flam:List D->Option (D×En)}(T:Bl mg)(hl1:l.ps.length=1)(hl2:l.xs.length=2)(okl:LamSp P w K mg base k l (spF K [0,0,0] 0 Flam))(F:Fun K "explored" "explored" kC f fd):FnOkL P w K mg base CX0 (k+2) f fd ["first","ahead"] l (λa ws vs H Q E=>vs.length=2/\ws.length=2/\spF K [0,0,0,0] 2 (dG a Flam) (vs++ws) H Q E):=by
 have nd:=scexplored.nd;refine F.okH (N:=n6) (b:=λa=>kP a Flam) scexplored ⟨[],[0,0,0,0,0,0,0,0,0,0],2,[]⟩ [0,0,0,0,0,0,0,0,0,0] hl2 (Fc (by decide +kernel)) λnd cdv A outer s H E a ws hr hL hw=>?_;exact(ag (aN 4 [0,0,0,0,4,0,0,0,0,0] nd (mz hr.units (fv 0 rfl rfl) ah) rfl rfl rfl) (ag (aN 5 [0,0,0,0,4,1,0,0,0,0] nd (aL (d:=1) (c:=0) (aa (fv 0 rfl rfl) af rfl) rfl rfl (by decide)) rfl rfl rfl) (ag (aN 6 [0,0,0,0,4,1,1,0,0,0] nd (cC (d':=1) (aL (d:=3) (c:=3) af rfl rfl (by decide)) (by decide)) rfl rfl rfl) (ag (gi (ds:=[0,0,0,0,4,1,1,0,0,0]) (cN (ds0:=[0,0,0,0,4,0,0,0,0,0]) (aI k6 (fln rfl T.len0 (aa (fv 6 rfl rfl) af rfl) rfl rfl) (fln rfl T.len0 (aa (fv 5 rfl rfl) af rfl) rfl rfl) (aM _)) rfl) (ag (aN 7 [0,0,0,0,4,1,1,0,0,0] nd (cV (K:=K) (i:=5) rfl rfl (.inl rfl) rfl (ga (ds0:=[0,0,0,0,4,1,0,0,0,0]) (fln rfl T.len0 (aa (fv 6 rfl rfl) af rfl) rfl rfl) rfl) (λ_ _=>rfl) rfl rfl) rfl rfl rfl) (ag (aN 8 [0,0,0,0,4,1,1,0,1,0] nd (cC (d':=1) (aL (d:=3) (c:=3) af rfl rfl (by decide)) (by decide)) rfl rfl rfl) (ag (bj (ds1:=[0,0,0,0,4,1,1,0,1,0]) rfl (cB (K:=K) rfl (Hy (i:=1) (js:=[2,3]) hL rfl (BD (n:=2) (m:=2) hw) okl hl1 hr (fv 7 rfl rfl))) (ay (i:=9) (ds':=[0,0,0,0,4,1,1,0,1,0]) nd rfl (.inl rfl) rfl (by decide) (by decide) (.inl rfl)) (ag (aA (ds2:=[0,0,0,0,4,1,1,0,1,0]) (cN (ds0:=[0,0,0,0,0,1,1,0,1,0]) (qpt (cz (aI fj (fv 9 rfl rfl) aJ (aM _)) (cx (jD (fy hr) (fv 9 rfl rfl) (fv 4 rfl rfl) (by with_unfolding_all rfl))))) rfl) (ag (iT (i:=4) (fy hr) rfl (.inl rfl) (fs0 (ga (ds0:=[0,0,0,0,4,0,1,0,1,0]) (fln rfl T.len0 (aa (fv 5 rfl rfl) af rfl) rfl rfl) rfl)) (fv 9 rfl rfl) rfl rfl rfl rfl) (aB (bH (cX (K:=K) (i:=5) (d:=1) rfl rfl (.inl rfl) rfl (fv 9 rfl rfl) (by decide) rfl rfl rfl rfl rfl rfl rfl rfl) rfl))) ax) (aB (bH (cX (K:=K) (i:=8) (d:=1) rfl rfl (.inl rfl) rfl (fs0 (k7 (aI fB (fv 9 rfl rfl) aJ (aM _)) aJ (xr (i:=4) (fy hr) rfl (.inl rfl) rfl (fv 9 rfl rfl) (λ_ _=>rfl) rfl rfl))) (by decide) rfl rfl rfl rfl rfl rfl rfl rfl) rfl))) PassesOwn.never (λ_=>rfl)) (aB (bH (cX (K:=K) (i:=6) (d:=1) rfl rfl (.inl rfl) rfl (ja (ds0:=[0,0,0,0,4,1,1,0,0,0]) (eZ (p:=false) (i:=8) rfl (.inl rfl) rfl rfl rfl) rfl) (by decide) rfl rfl rfl rfl rfl rfl rfl rfl) rfl))))) PassesOwn.never) (frt (aK (d:=2) (c:=1) (aa (dO (i:=5) (ds':=[0,0,0,0,4,0,1,0,0,0]) rfl (.inl rfl) rfl rfl rfl rfl) (aa (dO (i:=6) (ds':=[0,0,0,0,4,0,0,0,0,0]) rfl (.inl rfl) rfl rfl rfl rfl) af rfl) rfl) rfl rfl) rfl)))))
abbrev jR:Stmt:=top 7
abbrev mO:List Str:=["goes","first","came","ahead","done","here","sign","there"]
def sccame_from:FnScope mO ["goes","first"] (ak jR):=⟨rfl,rfl,rfl,by decide +kernel,rfl,by decide +kernel,by decide +kernel⟩
def bI:MS:=(sIf (dC (tV (e2 fX (ac 7) (eC .none))) (tV (e2 kx (ac 7) (ac 2)))) (aj (gQ 2 (ac 7) (bp (ab (ac 5) (ab (ac 6) ai))))
 (dw (eB 3 (ac 7)))) aQ)
def dE:MS:=(aj (aw 5 (cI 3 (ac 4)))
 (aj (dg (kj (ab (e2 ixA (ac 0) (ac 5)) ai)) (gT (gsC (gN 6) (gsC (gN 7) gs0))) bI)
 (aw 4 (e2 br (ac 4) (eC (.int 1))))))
def cJ:MT:=(tV (e2 ltI (ac 4) (eN bf (ab (ac 3) ai))))
noncomputable def dZ:MS:=(aj (aw 2 (k8 [((eS3 (ac 1)),(eC .none))]))
 (aj (aw 3 (ba (ab (ac 1) ai)))
 (aj (aw 4 (eC (.int 0)))
 (aj (cw cJ dE)
 (az (eMv 2))))))
noncomputable def bX:List D->Option (D×En):=fnF 6 [0,0] dZ
def qA(T:Bl mg)(F:Fun K "came_from" "came_from" jR f fd):FnOk P w K mg base CX0 (k+1) f fd ["goes","first"] (spF K [0,0] 1 bX):=by
 have nd:=sccame_from.nd;refine F.okQ (N:=mO) (b:=dZ) (J:=⟨[],[0,0,0,0,0,0,0,0],1,[]⟩) (ds0:=[0,0,0,0,0,0,0,0]) sccame_from rfl rfl rfl rfl λcdv A outer s H E hr=>?_;exact(ag (aN 2 [0,0,1,0,0,0,0,0] nd (vC (fs:=[((eS3 (ac 1)),(eC .none))]) (vv (BU (fv 1 rfl rfl)) (fs0 aJ) xk) rfl rfl (λz=>nomatch z) (by decide)) rfl rfl rfl) (ag (aN 3 [0,0,1,1,0,0,0,0] nd (aL (d:=1) (c:=0) (aa (fv 1 rfl rfl) af rfl) rfl rfl (by decide)) rfl rfl rfl) (ag (aN 4 [0,0,1,1,0,0,0,0] nd (fs0 ah) rfl rfl rfl) (ag (gi (ds:=[0,0,1,1,0,0,0,0]) (cN (ds0:=[0,0,1,0,0,0,0,0]) (aI k6 (fv 4 rfl rfl) (fln rfl T.len0 (aa (fv 3 rfl rfl) af rfl) rfl rfl) (aM _)) rfl) (ag (aN 5 [0,0,1,1,0,0,0,0] nd (cV (K:=K) (i:=3) rfl rfl (.inl rfl) rfl (fv 4 rfl rfl) (λ_ _=>rfl) rfl rfl) rfl rfl rfl) (ag (bj (ds1:=[0,0,1,1,0,0,0,0]) rfl (nT (K:=K) rfl rfl T.enumerate0 (aa (bd (ck (K:=K) rfl) (fv 0 rfl rfl) (fv 5 rfl rfl) (λ_ _=>rfl)) af rfl) rfl) (gz (K:=K) rfl rfl (bt (ay (i:=6) (ds':=[0,0,1,1,0,0,0,0]) nd rfl (.inl rfl) rfl (by decide) (by decide) (.inl rfl)) (bt (ay (i:=7) (ds':=[0,0,1,1,0,0,0,0]) nd rfl (.inl rfl) rfl (by decide) (by decide) (.inl rfl)) fC rfl) rfl) i7 rfl rfl) (aB (aA (ds2:=[0,0,1,1,0,0,0,0]) (cN (ds0:=[0,0,0,1,0,0,0,0]) (qpt (cz (aI fj (fv 7 rfl rfl) aJ (aM _)) (cx (vn (fy hr) (fv 7 rfl rfl) (fv 2 rfl rfl) (by with_unfolding_all rfl))))) rfl) (ag (tE (i:=2) (fy hr) rfl (.inl rfl) (aK (d:=0) (c:=0) (aa (fv 5 rfl rfl) (aa (fv 6 rfl rfl) af rfl) rfl) rfl rfl) (fv 7 rfl rfl) rfl rfl rfl rfl) (aB (bH (cX (K:=K) (i:=3) (d:=1) rfl rfl (.inl rfl) rfl (fv 7 rfl rfl) (by decide) rfl rfl rfl rfl rfl rfl rfl rfl) rfl))) ax)) PassesOwn.never (λ_=>rfl)) (aB (aN 4 [0,0,1,1,0,0,0,0] nd (fs0 (aD c7 (fv 4 rfl rfl) ah)) rfl rfl rfl)))) PassesOwn.never) (frt (dO (i:=2) (ds':=[0,0,0,1,0,0,0,0]) rfl (.inl rfl) rfl rfl rfl rfl) rfl)))))
abbrev nz:Stmt:=top 9
abbrev r6:List Str:=["came","stand","row","before"]
def scrow_to:FnScope r6 ["came","stand"] (ak nz):=⟨rfl,rfl,rfl,by decide +kernel,rfl,by decide +kernel,by decide +kernel⟩
def gC:MS:=(aj (dw (eB 2 (e2 ixA (ac 3) (eC (.int 1)))))
 (aw 3 (e2 qi (ac 0) (e2 ixA (ac 3) (eC (.int 0))))))
def fm:MT:=(tV (e2 fX (ac 3) (eC .none)))
noncomputable def hV:MS:=(aj (aw 2 (ba ai))
 (aj (aw 3 (e2 qi (ac 0) (ac 1)))
 (aj (cw fm gC)
 (az (eN oI (ab (ac 2) ai))))))
noncomputable def dU:List D->Option (D×En):=fnF 2 [0,0] hV
def wx(T:Bl mg)(F:Fun K "row_to" "row_to" nz f fd):FnOk P w K mg base CX0 (k+1) f fd ["came","stand"] (spF K [0,0] 1 dU):=by
 have nd:=scrow_to.nd;refine F.okQ (N:=r6) (b:=hV) (J:=⟨[],[0,0,0,0],1,[]⟩) (ds0:=[0,0,0,0]) scrow_to rfl rfl rfl rfl λcdv A outer s H E hr=>?_;exact(ag (aN 2 [0,0,1,0] nd (cC (d':=1) (aL (d:=3) (c:=3) af rfl rfl (by decide)) (by decide)) rfl rfl rfl) (ag (aN 3 [0,0,1,0] nd (nU (fy hr) (fv 0 rfl rfl) (fv 1 rfl rfl) (λ_ _=>rfl)) rfl rfl rfl) (ag (gi (ds:=[0,0,1,0]) (aI fj (fv 3 rfl rfl) aJ (aM _)) (ag (bH (cX (K:=K) (i:=2) (d:=1) rfl rfl (.inl rfl) rfl (fxi rfl (fv 3 rfl rfl)) (by decide) rfl rfl rfl rfl rfl rfl rfl rfl) rfl) (aB (aN 3 [0,0,1,0] nd (nU (fy hr) (fv 0 rfl rfl) (fxi rfl (fv 3 rfl rfl)) (λ_ _=>rfl)) rfl rfl rfl))) PassesOwn.never) (frt (vB (K:=K) rfl rfl rfl T.list0 rfl T.reversed0 (aa (ja (ds0:=[0,0,0,0]) (eZ (p:=false) (i:=2) rfl (.inl rfl) rfl rfl rfl) rfl) af rfl) rfl rfl) rfl))))
abbrev jQ:Stmt:=top 8
abbrev mN:List Str:=["machine","stand","came","there"]
def scfirst_row:FnScope mN ["machine","stand"] (ak jQ):=⟨rfl,rfl,rfl,by decide +kernel,rfl,by decide +kernel,by decide +kernel⟩
noncomputable def cK:MS:=(sIf (tV (e2 ixA (e2 ixA (ac 0) (eC (.int 0))) (ac 3))) (az (am dU (ab (ac 2) (ab (ac 3) ai)))) aQ)
noncomputable def dY:MS:=(aj (aw 2 (am bX (ab (e2 ixA (ac 0) (eC (.int 1))) (ab (ac 1) ai))))
 (aj (dg (iDk true 2) (gN 3) cK)
 (az (eC .none))))
noncomputable def bW:List D->Option (D×En):=fnF 2 [0,0] dY
def qz(T:Bl mg)(t7:Kn P w K mg base k "came_from" ["goes","first"] (spF K [0,0] 1 bX))(Cc:Kn P w K mg base k "row_to" ["came","stand"] (spF K [0,0] 1 dU))(F:Fun K "first_row" "first_row" jQ f fd):FnOk P w K mg base CX0 (k+1) f fd ["machine","stand"] (spF K [0,0] 1 bW):=by
 have nd:=scfirst_row.nd;refine F.okQ (N:=mN) (b:=dY) (J:=⟨[],[0,0,0,0],1,[]⟩) (ds0:=[0,0,0,0]) scfirst_row rfl rfl rfl rfl λcdv A outer s H E hr=>?_;exact(ag (aN 2 [0,0,1,0] nd (fnn t7 hr (aa (fxi rfl (fv 0 rfl rfl)) (aa (fv 1 rfl rfl) af rfl) rfl) rfl rfl) rfl rfl rfl) (ag (bj (ds1:=[0,0,0,0]) rfl (BQ (K:=K) (i:=2) (d:=1) true rfl rfl (.inl rfl) rfl (by decide) rfl rfl rfl) (ay (i:=3) (ds':=[0,0,0,0]) nd rfl (.inl rfl) rfl (by decide) (by decide) (.inl rfl)) (aB (aA (ds2:=[0,0,0,0]) (aE (bd (ck (K:=K) rfl) (fxi rfl (fv 0 rfl rfl)) (fv 3 rfl rfl) (λ_ _=>rfl)) (λ_=>rfl)) (frt (fnn Cc hr (aa (fv 2 rfl rfl) (aa (fv 3 rfl rfl) af rfl) rfl) rfl rfl) rfl) ax)) PassesOwn.never (λ_=>rfl)) (frt (cC (d':=1) aJ (by decide)) rfl)))
abbrev xH:Stmt:=top 6
abbrev Gc:List Str:=["machine","stand","sign"]
def scled:FnScope Gc ["machine","stand","sign"] (ak xH):=⟨rfl,rfl,rfl,by decide +kernel,rfl,by decide +kernel,by decide +kernel⟩
def ub:MS:=(az (eIf (tV (e2 isN (ac 1) (eC .none))) (eC .none) (e2 ixA (e2 ixA (e2 ixA (ac 0) (eC (.int 1))) (ac 1)) (ac 2))))
def kM:List D->Option (D×En):=fnF 0 [0,0,0] ub
def GA(T:Bl mg)(F:Fun K "led" "led" xH f fd):FnOk P w K mg base CX0 (k+1) f fd ["machine","stand","sign"] (spF K [0,0,0] 0 kM):=by
 have nd:=scled.nd;refine F.okQ (N:=Gc) (b:=ub) (J:=⟨[],[0,0,0],0,[]⟩) (ds0:=[0,0,0]) scled rfl rfl rfl rfl λcdv A outer s H E hr=>?_;exact(frt (k7 (aI fB (fv 1 rfl rfl) aJ (aM _)) (fs0 aJ) (bd (ck (K:=K) rfl) (bd (ck (K:=K) rfl) (fxi rfl (fv 0 rfl rfl)) (fv 1 rfl rfl) (λ_ _=>rfl)) (fv 2 rfl rfl) (λ_ _=>rfl))) rfl)
abbrev fG:Stmt:=top 4
abbrev iE:List Str:=["machine"]
def schow_many_signs:FnScope iE ["machine"] (ak fG):=⟨rfl,rfl,rfl,by decide +kernel,rfl,by decide +kernel,by decide +kernel⟩
def fO:MS:=(az (eN bf (ab (e2 ixA (e2 ixA (ac 0) (eC (.int 1))) (eC (.int 0))) ai)))
def bM:List D->Option (D×En):=fnF 0 [0] fO
def lN(T:Bl mg)(F:Fun K "how_many_signs" "how_many_signs" fG f fd):FnOk P w K mg base CX0 (k+1) f fd ["machine"] (spF K [0] 3 bM):=by
 have nd:=schow_many_signs.nd;refine F.okQ (N:=iE) (b:=fO) (J:=⟨[],[0],3,[]⟩) (ds0:=[0]) schow_many_signs rfl rfl rfl rfl λcdv A outer s H E hr=>?_;exact(frt (fln rfl T.len0 (aa (fxi rfl (fxi rfl (fv 0 rfl rfl))) af rfl) rfl rfl) rfl)
abbrev fF:Stmt:=top 13
abbrev im:List Str:=["one","other","pair"]
def scpairs_ahead:FnScope im ["one","other","pair"] (ak fF):=⟨rfl,rfl,rfl,by decide +kernel,rfl,by decide +kernel,by decide +kernel⟩
def ji:ME:=(bp (ab (am kM (ab (ac 1) (ab (e2 ixA (ac 3) (eC (.int 0))) (ab (ac 0) ai)))) (ab (am kM (ab (ac 2) (ab (e2 ixA (ac 3) (eC (.int 1))) (ab (ac 0) ai)))) ai)))
def iq:MS:=(az (eLC true (cH (ab (am bM (ab (ac 0) ai)) ai)) (gN 0) cY ji [none,some 0,some 1,some 2]))
def cM:List D->Option (D×En):=fnF 0 [0,0,0] iq
def on(T:Bl mg)(Gf:Kn P w K mg base k "led" ["machine","stand","sign"] (spF K [0,0,0] 0 kM))(mT:Kn P w K mg base k "how_many_signs" ["machine"] (spF K [0] 3 bM))(F:Fun K "pairs_ahead" "pairs_ahead" fF f fd):FnOk P w K mg base CX0 (k+1) f fd ["one","other","pair"] (spF K [0,0,0] 1 cM):=by
 have nd:=scpairs_ahead.nd;refine F.okQ (N:=im) (b:=iq) (J:=⟨[],[0,0,0],1,[]⟩) (ds0:=[0,0,0]) scpairs_ahead rfl rfl rfl rfl λcdv A outer s H E hr=>?_;exact(frt (i9 (cd:=0) (d:=1) (dsi:=[0,0,0,0]) (lk:=[1,2,3]) (BlkOkC.of (ns:=["sign","one","other","pair"]) (js:=[none,some 0,some 1,some 2]) (N0:=im) (sc0:=ak fF) rfl rfl (by decide +kernel)) rfl (cO rfl T.range0 (aa (fs0 (fnn mT hr (aa (fvc 0 rfl rfl) af rfl) rfl rfl)) af rfl) rfl) (λ_ _ _ _ _=>(ay (i:=0) (ds':=[0,0,0,0]) (show(["sign","one","other","pair"]:List Str).Nodup by decide +kernel) rfl (.inl rfl) rfl (by decide) (by decide) (.inr rfl))) (λ_ _ _ _ _=>dA) (λ_ _ _ _ _=>(aK (d:=0) (c:=0) (aa (fnn Gf hr (aa (fvc 1 rfl rfl) (aa (fxi rfl (fvc 3 rfl rfl)) (aa (fv 0 rfl rfl) af rfl) rfl) rfl) rfl rfl) (aa (fnn Gf hr (aa (fvc 2 rfl rfl) (aa (fxi rfl (fvc 3 rfl rfl)) (aa (fv 0 rfl rfl) af rfl) rfl) rfl) rfl rfl) af rfl) rfl) rfl rfl)) rfl rfl (by decide) rfl (λ_=>rfl)) rfl)
abbrev cD:Stmt:=top 17
abbrev eD:List Str:=["one","other","pair"]
def scahead_for_within:FnScope eD ["one","other","pair"] (ak cD):=⟨rfl,rfl,rfl,by decide +kernel,rfl,by decide +kernel,by decide +kernel⟩
def dk:ME:=(eIf (tV (e2 isN (e2 ixA (ac 0) (eC (.int 0))) (eC .none))) (eC .none) (ac 0))
def eE:MS:=(az (eLC true (eY (am cM (ab (ac 0) (ab (ac 1) (ab (ac 2) ai))))) (gN 0) cY dk [none]))
def bc:List D->Option (D×En):=fnF 0 [0,0,0] eE
def ke(T:Bl mg)(qt:Kn P w K mg base k "pairs_ahead" ["one","other","pair"] (spF K [0,0,0] 1 cM))(F:Fun K "ahead_for_within" "ahead_for_within" cD f fd):FnOk P w K mg base CX0 (k+1) f fd ["one","other","pair"] (spF K [0,0,0] 1 bc):=by
 have nd:=scahead_for_within.nd;refine F.okQ (N:=eD) (b:=eE) (J:=⟨[],[0,0,0],1,[]⟩) (ds0:=[0,0,0]) scahead_for_within rfl rfl rfl rfl λcdv A outer s H E hr=>?_;exact(frt (i9 (cd:=0) (d:=1) (dsi:=[0]) (lk:=[]) (BlkOkC.of (ns:=["there"]) (js:=[none]) (N0:=eD) (sc0:=ak cD) rfl rfl (by decide +kernel)) rfl (cB (K:=K) rfl (fs0 (fnn qt hr (aa (fv 0 rfl rfl) (aa (fv 1 rfl rfl) (aa (fv 2 rfl rfl) af rfl) rfl) rfl) rfl rfl))) (λ_ _ _ _ _=>(ay (i:=0) (ds':=[0]) (show(["there"]:List Str).Nodup by decide +kernel) rfl (.inl rfl) rfl (by decide) (by decide) (.inr rfl))) (λ_ _ _ _ _=>dA) (λ_ _ _ _ _=>(k7 (aI fB (fxi rfl (fv 0 rfl rfl)) aJ (aM _)) (fs0 aJ) (fv 0 rfl rfl))) rfl rfl (by decide) rfl (λ_=>rfl)) rfl)
abbrev nA:Stmt:=top 5
abbrev r8:List Str:=["machine","stand"]
def scis_end:FnScope r8 ["machine","stand"] (ak nA):=⟨rfl,rfl,rfl,by decide +kernel,rfl,by decide +kernel,by decide +kernel⟩
def lq:MS:=(az (kt (e2 fX (ac 1) (eC .none)) (e2 ixA (e2 ixA (ac 0) (eC (.int 0))) (ac 1))))
def fq:List D->Option (D×En):=fnF 0 [0,0] lq
def wy(T:Bl mg)(F:Fun K "is_end" "is_end" nA f fd):FnOk P w K mg base CX0 (k+1) f fd ["machine","stand"] (spF K [0,0] 0 fq):=by
 have nd:=scis_end.nd;refine F.okQ (N:=r8) (b:=lq) (J:=⟨[],[0,0],0,[]⟩) (ds0:=[0,0]) scis_end rfl rfl rfl rfl λcdv A outer s H E hr=>?_;exact(frt (jI (e7 fj (fv 1 rfl rfl) aJ (aM _)) (jG (bd (ck (K:=K) rfl) (fxi rfl (fv 0 rfl rfl)) (fv 1 rfl rfl) (λ_ _=>rfl)))) rfl)
abbrev jP:Stmt:=top 18
abbrev mM:List Str:=["one","other","pair"]
def scis_within:FnScope mM ["one","other","pair"] (ak jP):=⟨rfl,rfl,rfl,by decide +kernel,rfl,by decide +kernel,by decide +kernel⟩
def jX:MS:=(az (eOr (am fq (ab (ac 1) (ab (e2 ixA (ac 2) (eC (.int 1))) ai))) (km (am fq (ab (ac 0) (ab (e2 ixA (ac 2) (eC (.int 0))) ai))))))
def dW:List D->Option (D×En):=fnF 0 [0,0,0] jX
def qy(T:Bl mg)(r9:Kn P w K mg base k "is_end" ["machine","stand"] (spF K [0,0] 0 fq))(F:Fun K "is_within" "is_within" jP f fd):FnOk P w K mg base CX0 (k+1) f fd ["one","other","pair"] (spF K [0,0,0] 3 dW):=by
 have nd:=scis_within.nd;refine F.okQ (N:=mM) (b:=jX) (J:=⟨[],[0,0,0],3,[]⟩) (ds0:=[0,0,0]) scis_within rfl rfl rfl rfl λcdv A outer s H E hr=>?_;exact(frt (BV (fnn r9 hr (aa (fv 1 rfl rfl) (aa (fxi rfl (fv 2 rfl rfl)) af rfl) rfl) rfl rfl) (jG (jH (fnn r9 hr (aa (fv 0 rfl rfl) (aa (fxi rfl (fv 2 rfl rfl)) af rfl) rfl) rfl rfl)))) rfl)
def lamwithin:Lam:=GI (top 16) 1 "within.<locals>.<lambda>" ["pair"] ["one","other"]
def jZ:ME:=(am bc (ab (ac 1) (ab (ac 2) (ab (ac 0) ai))))
def dH:List D->Option (D×En):=λts=>jZ (ts.map some)
def uR(T:Bl mg)(gP:Kn P w K mg base k "ahead_for_within" ["one","other","pair"] (spF K [0,0,0] 1 bc)):LamSp P w K mg base k lamwithin (spF K [0,0,0] 0 dH):=by
 refine LamSp.of (p:=true) (g:=jZ) (λus cl pm ctv c' hl=>match us,hl with|[_],_=>rfl) λA outer s H f cd cl xe hr=>?_;exact(fs0 (fnn gP hr (aa (eZ (i:=1) rfl (.inr (.inr rfl)) rfl rfl rfl) (aa (eZ (i:=2) rfl (.inr (.inr rfl)) rfl rfl rfl) (aa (fv 0 rfl rfl) af rfl) rfl) rfl) rfl rfl))
abbrev je:Stmt:=top 16
abbrev nB:List Str:=["one","other","found","row"]
def scwithin:FnScope nB ["one","other"] (ak je):=⟨rfl,rfl,rfl,by decide +kernel,rfl,by decide +kernel,by decide +kernel⟩
noncomputable def om:ME:=(km (am dW (ab (ac 1) (ab (ac 2) (ab (ac 0) ai)))))
noncomputable def oh:MS:=(aw 3 (am bW (ab (bp (ab (eLC true (eY (e2 ixA (ac 2) (eC (.int 0)))) (gN 0) cY om [none,some 0,some 1]) (ab (e2 ixA (ac 2) (eC (.int 1))) ai))) (ab (eC (.int 0)) ai))))
noncomputable def nE:MS:=(aj (dw (am cq (ab (eC (.int 10000)) (ab (ac 0) (ab (ac 1) ai)))))
 (aj (aw 2 (e8 (λa=>dG a dH) [0,1] (bp (ab (eC (.int 0)) (ab (eC (.int 0)) ai)))))
 (aj (kZ [true,true,true,false] [0,0,2,1] oh)
 (az (eIf (tV (e2 isN (ac 3) (eC .none))) (bp (ab (eC (.str "within")) (ab (e2 ixA (eMv 2) (eC (.int 0))) ai))) (bp (ab (eC (.str "out")) (ab (eMv 3) ai))))))))
noncomputable def b7:List D->Option (D×En):=fnF 2 [0,0] nE
def ww{c T0:Addr}(T:Bl mg){iM:Tok}(i8:mg "MOST_PAIRS_COMPARED"=some (.int 10000 iM))(oB:Kn P w K mg base k "refuse_above" ["most","one","other"] (spF K [0,0,0] 3 cq))(vT:KnL P w K mg base k "explored" ["first","ahead"] lamwithin (λa ws vs H Q E=>vs.length=2/\ws.length=2/\spF K [0,0,0,0] 2 (dG a dH) (vs++ws) H Q E))(tZ:Kn P w K mg base k "first_row" ["machine","stand"] (spF K [0,0] 1 bW))(gP:Kn P w K mg base k "ahead_for_within" ["one","other","pair"] (spF K [0,0,0] 1 bc))(tY:Kn P w K mg base k "is_within" ["one","other","pair"] (spF K [0,0,0] 3 dW))(rg:Rg K T0 lamwithin.qual)(F:FunL K "within" "within" je f fd c T0):FnOk P w K mg base CX0 (k+1) f fd ["one","other"] (spF K [0,0] 2 b7):=by
 have nd:=scwithin.nd;refine F.okR (N:=nB) (b:=nE) scwithin ⟨[],[0,0,0,0],2,[]⟩ [0,0,0,0] λnd A outer s H E hr=>?_;exact(ag (bH (fnn oB hr (aa (fs0 (tH rfl i8 rfl)) (aa (fvc 0 rfl rfl) (aa (fvc 1 rfl rfl) af rfl) rfl) rfl) rfl rfl) rfl) (ag (aN 2 [0,0,2,0] nd (Hx (l:=lamwithin) (m:=2) (js:=[0,1]) vT hr (Bu (l:=lamwithin) (sc:=ak je) F.cd rg (by decide +kernel)) (fs0 (aK (d:=3) (c:=3) (aa ah (aa ah af rfl) rfl) rfl rfl))) rfl rfl rfl) (ag (tD (K:=K) (i:=2) (d:=2) (lk:=[0,1,2]) (ds0:=[0,0,0,0]) (ds1:=[0,0,0,1]) (bs:=[true,true,true,false]) (aN 3 [0,0,0,1] nd (fnn tZ hr (aa (aK (d:=0) (c:=0) (aa (i9 (cd:=3) (d:=3) (dsi:=[0,0,0]) (lk:=[1,2]) (BlkOkC.of (ns:=["pair","one","other"]) (js:=[none,some 0,some 1]) (N0:=nB) (sc0:=ak je) rfl rfl (by decide +kernel)) rfl (cB (K:=K) rfl (fxi rfl (fv 2 rfl rfl))) (λ_ _ _ _ _=>(ay (i:=0) (ds':=[0,0,0]) (show(["pair","one","other"]:List Str).Nodup by decide +kernel) rfl (.inl rfl) rfl (by decide) (by decide) (.inr rfl))) (λ_ _ _ _ _=>dA) (λ_ _ _ _ _=>(jH (fnn tY hr (aa (fvc 1 rfl rfl) (aa (fvc 2 rfl rfl) (aa (fv 0 rfl rfl) af rfl) rfl) rfl) rfl rfl))) rfl rfl (by decide) rfl (λ_=>rfl)) (aa (fxi rfl (fv 2 rfl rfl)) af rfl) rfl) rfl rfl) (aa (fs0 ah) af rfl) rfl) rfl rfl) rfl rfl rfl) rfl rfl rfl rfl rfl) (frt (k7 (cN (ds0:=[0,0,2,0]) (aI fB (fv 3 rfl rfl) aJ (aM _)) rfl) (ja (ds0:=[0,0,2,0]) (aK (d:=2) (c:=1) (aa (cC (d':=1) jF (by decide)) (aa (xt (K:=K) rfl (dO (i:=2) (ds':=[0,0,0,0]) rfl (.inl rfl) rfl rfl rfl rfl) ah (λ_ _=>rfl) (by decide)) af rfl) rfl) rfl rfl) rfl) (ja (ds0:=[0,0,0,1]) (aK (d:=2) (c:=1) (aa (cC (d':=1) jF (by decide)) (aa (dO (i:=3) (ds':=[0,0,0,0]) rfl (.inl rfl) rfl rfl rfl rfl) af rfl) rfl) rfl rfl) rfl)) rfl))))
abbrev kF:Stmt:=top 20
abbrev n9:List Str:=["_law_script","_law_k","_law_cell"]
def sc_law_pen:FnScope n9 ["_law_script","_law_k"] (ak kF):=⟨rfl,rfl,rfl,by decide +kernel,rfl,by decide +kernel,by decide +kernel⟩
def dI:MS:=(aj (aw 2 (e2 br (e2 cy (eC (.int 6151)) (ac 1)) (eC (.int 3))))
 (aj (sIf (tV (e2 ltI (ac 1) (eN bf (ab (ac 0) ai)))) (aw 2 (e2 ixA (ac 0) (ac 1))) (sIf (tV (e2 gtI (eN bf (ab (ac 0) ai)) (eC (.int 0)))) (aw 2 (e2 br (e2 bO (e2 ixA (ac 0) (e2 bO (ac 1) (eN bf (ab (ac 0) ai)))) (eC (.int 2147483629))) (e2 cy (eC (.int 40503)) (ac 1)))) aQ))
 (aj (sIf (tV (e2 geI (ac 2) (e2 mZ (eC (.int 10)) (eC (.int 18))))) (az (ba (ab (e2 mW (ac 2) (e2 mZ (eC (.int 10)) (eC (.int 18)))) (ab (e2 bO (ac 2) (eC (.int 2147483587))) (ab (eC (.int 0)) ai))))) aQ)
 (az (ba (ab (eC (.int 0)) (ab (e2 bO (ac 2) (eC (.int 2147483587))) (ab (eC (.int 0)) ai))))))))
def cP:List D->Option (D×En):=fnF 1 [0,0] dI
def sJ(T:Bl mg)(F:Fun K "_law_pen" "_law_pen" kF f fd):FnOk P w K mg base CX0 (k+1) f fd ["_law_script","_law_k"] (spF K [0,0] 3 cP):=by
 have nd:=sc_law_pen.nd;refine F.okQ (N:=n9) (b:=dI) (J:=⟨[],[0,0,0],3,[]⟩) (ds0:=[0,0,0]) sc_law_pen rfl rfl rfl rfl λcdv A outer s H E hr=>?_;exact(ag (aN 2 [0,0,0] nd (fs0 (aD c7 (aD gy ah (fv 1 rfl rfl)) ah)) rfl rfl rfl) (ag (aA (ds2:=[0,0,0]) (aI k6 (fv 1 rfl rfl) (fln rfl T.len0 (aa (fv 0 rfl rfl) af rfl) rfl rfl) (aM _)) (aB (aN 2 [0,0,0] nd (bd (ck (K:=K) rfl) (fv 0 rfl rfl) (fv 1 rfl rfl) (λ_ _=>rfl)) rfl rfl rfl)) (aB (aA (ds2:=[0,0,0]) (aI tG (fln rfl T.len0 (aa (fv 0 rfl rfl) af rfl) rfl rfl) ah (aM _)) (aB (aN 2 [0,0,0] nd (fs0 (aD c7 (aD fA (bd (ck (K:=K) rfl) (fv 0 rfl rfl) (aD fA (fv 1 rfl rfl) (fln rfl T.len0 (aa (fv 0 rfl rfl) af rfl) rfl rfl)) (λ_ _=>rfl)) ah) (aD gy ah (fv 1 rfl rfl)))) rfl rfl rfl)) ax))) (ag (aA (ds2:=[0,0,0]) (aI GT (fv 2 rfl rfl) (aD vw ah ah) (aM _)) (frt (aL (d:=3) (c:=3) (aa (aD Fu (fv 2 rfl rfl) (aD vw ah ah)) (aa (aD fA (fv 2 rfl rfl) ah) (aa ah af rfl) rfl) rfl) rfl rfl (by decide)) rfl) ax) (frt (aL (d:=3) (c:=3) (aa ah (aa (aD fA (fv 2 rfl rfl) ah) (aa ah af rfl) rfl) rfl) rfl rfl (by decide)) rfl))))
abbrev fH:Stmt:=top 27
abbrev io:List Str:=["_law_machine_here"]
def sc_law_copied:FnScope io ["_law_machine_here"] (ak fH):=⟨rfl,rfl,rfl,by decide +kernel,rfl,by decide +kernel,by decide +kernel⟩
def jj:ME:=(eN oJ (ab (ac 0) ai))
def ir:MS:=(az (bp (ab (eN oJ (ab (e2 ixA (ac 0) (eC (.int 0))) ai)) (ab (eLC true (eY (e2 ixA (ac 0) (eC (.int 1)))) (gN 0) cY jj [none]) ai))))
def cg:List D->Option (D×En):=fnF 0 [0] ir
def ou(T:Bl mg)(F:Fun K "_law_copied" "_law_copied" fH f fd):FnOk P w K mg base CX0 (k+1) f fd ["_law_machine_here"] (spF K [0] 2 cg):=by
 have nd:=sc_law_copied.nd;refine F.okQ (N:=io) (b:=ir) (J:=⟨[],[0],2,[]⟩) (ds0:=[0]) sc_law_copied rfl rfl rfl rfl λcdv A outer s H E hr=>?_;exact(frt (aK (d:=2) (c:=1) (aa (fct (rN (K:=K) rfl rfl) T.list0 (by decide +kernel) (aa (fxi rfl (fv 0 rfl rfl)) af rfl) rfl rfl) (aa (cC (d':=1) (i9 (cd:=1) (d:=2) (dsi:=[0]) (lk:=[]) (BlkOkC.of (ns:=["_law_row"]) (js:=[none]) (N0:=io) (sc0:=ak fH) rfl rfl (by decide +kernel)) rfl (cB (K:=K) rfl (fxi rfl (fv 0 rfl rfl))) (λ_ _ _ _ _=>(ay (i:=0) (ds':=[0]) (show(["_law_row"]:List Str).Nodup by decide +kernel) rfl (.inl rfl) rfl (by decide) (by decide) (.inr rfl))) (λ_ _ _ _ _=>dA) (λ_ _ _ _ _=>(fct (rN (K:=K) rfl rfl) T.list0 (by decide +kernel) (aa (fv 0 rfl rfl) af rfl) rfl rfl)) rfl rfl (by decide) rfl (λ_=>rfl)) (by decide)) af rfl) rfl) rfl rfl) rfl)
abbrev ik:Stmt:=top 26
abbrev kH:List Str:=["_law_machine_here","_law_stand"]
def sc_law_is_end:FnScope kH ["_law_machine_here","_law_stand"] (ak ik):=⟨rfl,rfl,rfl,by decide +kernel,rfl,by decide +kernel,by decide +kernel⟩
def fP:MS:=(az (kt (e2 fX (ac 1) (eC .none)) (e2 ixA (e2 ixA (ac 0) (eC (.int 0))) (ac 1))))
def a7:List D->Option (D×En):=fnF 0 [0,0] fP
def oq(T:Bl mg)(F:Fun K "_law_is_end" "_law_is_end" ik f fd):FnOk P w K mg base CX0 (k+1) f fd ["_law_machine_here","_law_stand"] (spF K [0,0] 0 a7):=by
 have nd:=sc_law_is_end.nd;refine F.okQ (N:=kH) (b:=fP) (J:=⟨[],[0,0],0,[]⟩) (ds0:=[0,0]) sc_law_is_end rfl rfl rfl rfl λcdv A outer s H E hr=>?_;exact(frt (jI (e7 fj (fv 1 rfl rfl) aJ (aM _)) (jG (bd (ck (K:=K) rfl) (fxi rfl (fv 0 rfl rfl)) (fv 1 rfl rfl) (λ_ _=>rfl)))) rfl)
abbrev kG:Stmt:=top 24
abbrev oe:List Str:=["_law_machine_here","_law_stand","_law_number"]
def sc_law_led:FnScope oe ["_law_machine_here","_law_stand","_law_number"] (ak kG):=⟨rfl,rfl,rfl,by decide +kernel,rfl,by decide +kernel,by decide +kernel⟩
def iJ:MS:=(aj (sIf (tV (e2 isN (ac 1) (eC .none))) (az (eC .none)) aQ)
 (az (e2 ixA (e2 ixA (e2 ixA (ac 0) (eC (.int 1))) (ac 1)) (ac 2))))
def bJ:List D->Option (D×En):=fnF 0 [0,0,0] iJ
def sK(T:Bl mg)(F:Fun K "_law_led" "_law_led" kG f fd):FnOk P w K mg base CX0 (k+1) f fd ["_law_machine_here","_law_stand","_law_number"] (spF K [0,0,0] 0 bJ):=by
 have nd:=sc_law_led.nd;refine F.okQ (N:=oe) (b:=iJ) (J:=⟨[],[0,0,0],0,[]⟩) (ds0:=[0,0,0]) sc_law_led rfl rfl rfl rfl λcdv A outer s H E hr=>?_;exact(ag (aA (ds2:=[0,0,0]) (aI fB (fv 1 rfl rfl) aJ (aM _)) (frt (fs0 aJ) rfl) ax) (frt (bd (ck (K:=K) rfl) (bd (ck (K:=K) rfl) (fxi rfl (fv 0 rfl rfl)) (fv 1 rfl rfl) (λ_ _=>rfl)) (fv 2 rfl rfl) (λ_ _=>rfl)) rfl))
abbrev iX:Stmt:=top 34
abbrev ly:List Str:=["_law_one","_law_other","_law_seen","_law_layer","_law_beyond","_law_pair","_law_row","_law_number","_law_goal_here"]
def sc_law_first:FnScope ly ["_law_one","_law_other"] (ak iX):=⟨rfl,rfl,rfl,by decide +kernel,rfl,by decide +kernel,by decide +kernel⟩
def eT:MS:=(aj (aw 8 (bp (ab (am bJ (ab (ac 0) (ab (e2 ixA (ac 5) (eC (.int 0))) (ab (ac 7) ai)))) (ab (am bJ (ab (ac 1) (ab (e2 ixA (ac 5) (eC (.int 1))) (ab (ac 7) ai)))) ai))))
 (sIf (dC (tV (e2 fX (e2 ixA (ac 8) (eC (.int 0))) (eC .none))) (tV (e2 jL (ac 8) (ac 2)))) (aj (eF 2 (ac 8) (eC (.bool true)))
 (dw (eB 4 (bp (ab (ac 8) (ab (e2 tS (ac 6) (ba (ab (ac 7) ai))) ai)))))) aQ))
def j8:MS:=(aj (sIf (dC (tV (am a7 (ab (ac 0) (ab (e2 ixA (ac 5) (eC (.int 0))) ai)))) (cc (tV (am a7 (ab (ac 1) (ab (e2 ixA (ac 5) (eC (.int 1))) ai)))))) (az (ac 6)) aQ)
 (dg (cH (ab (eN bf (ab (e2 ixA (e2 ixA (ac 0) (eC (.int 1))) (eC (.int 0))) ai)) ai)) (gN 7) eT))
def j7:MS:=(aj (aw 4 (ba ai))
 (aj (dg (eY (ac 3)) (gT (gsC (gN 5) (gsC (gN 6) gs0))) j8)
 (aw 3 (ac 4))))
def gI:MT:=(tV (e2 neD (ac 3) (ba ai)))
noncomputable def iZ:MS:=(aj (aw 2 (ii (bp (ab (eC (.int 0)) (ab (eC (.int 0)) ai))) (eC (.bool true))))
 (aj (aw 3 (ba (ab (bp (ab (bp (ab (eC (.int 0)) (ab (eC (.int 0)) ai))) (ab (ba ai) ai))) ai)))
 (aj (cw gI j7)
 (az (eC .none)))))
noncomputable def df:List D->Option (D×En):=fnF 7 [0,0] iZ
def pB(T:Bl mg)(dF:Kn P w K mg base k "_law_is_end" ["_law_machine_here","_law_stand"] (spF K [0,0] 0 a7))(gD:Kn P w K mg base k "_law_led" ["_law_machine_here","_law_stand","_law_number"] (spF K [0,0,0] 0 bJ))(F:Fun K "_law_first" "_law_first" iX f fd):FnOk P w K mg base CX0 (k+1) f fd ["_law_one","_law_other"] (spF K [0,0] 0 df):=by
 have nd:=sc_law_first.nd;refine F.okQ (N:=ly) (b:=iZ) (J:=⟨[],[0,0,0,0,0,0,0,0,0],0,[]⟩) (ds0:=[0,0,0,0,0,0,0,0,0]) sc_law_first rfl rfl rfl rfl λcdv A outer s H E hr=>?_;exact(ag (aN 2 [0,0,4,0,0,0,0,0,0] nd (mz hr.units (fs0 (aK (d:=3) (c:=3) (aa ah (aa ah af rfl) rfl) rfl rfl)) aT) rfl rfl rfl) (ag (aN 3 [0,0,4,0,0,0,0,0,0] nd (fs0 (aL (d:=3) (c:=3) (aa (aK (d:=3) (c:=3) (aa (aK (d:=3) (c:=3) (aa ah (aa ah af rfl) rfl) rfl rfl) (aa (aL (d:=3) (c:=3) af rfl rfl (by decide)) af rfl) rfl) rfl rfl) af rfl) rfl rfl (by decide))) rfl rfl rfl) (ag (gi (ds:=[0,0,4,0,0,0,0,0,0]) (ftn rfl hr.units (fv 3 rfl rfl) (aL (d:=3) (c:=3) af rfl rfl (by decide))) (ag (aN 4 [0,0,4,0,1,0,0,0,0] nd (cC (d':=1) (aL (d:=3) (c:=3) af rfl rfl (by decide)) (by decide)) rfl rfl rfl) (ag (bj (ds1:=[0,0,4,0,1,0,0,0,0]) rfl (cB (K:=K) rfl (fv 3 rfl rfl)) (gz (K:=K) rfl rfl (bt (ay (i:=5) (ds':=[0,0,4,0,1,0,0,0,0]) nd rfl (.inl rfl) rfl (by decide) (by decide) (.inl rfl)) (bt (ay (i:=6) (ds':=[0,0,4,0,1,0,0,0,0]) nd rfl (.inl rfl) rfl (by decide) (by decide) (.inl rfl)) fC rfl) rfl) i7 rfl rfl) (ag (aA (ds2:=[0,0,4,0,1,0,0,0,0]) (qpt (cz (aE (fnn dF hr (aa (fv 0 rfl rfl) (aa (fxi rfl (fv 5 rfl rfl)) af rfl) rfl) rfl rfl) (λ_=>rfl)) (cx (aO (aE (fnn dF hr (aa (fv 1 rfl rfl) (aa (fxi rfl (fv 5 rfl rfl)) af rfl) rfl) rfl rfl) (λ_=>rfl)))))) (frt (fv 6 rfl rfl) rfl) ax) (aB (bj (ds1:=[0,0,4,0,1,0,0,0,0]) rfl (cO rfl T.range0 (aa (fs0 (fln rfl T.len0 (aa (fxi rfl (fxi rfl (fv 0 rfl rfl))) af rfl) rfl rfl)) af rfl) rfl) (ay (i:=7) (ds':=[0,0,4,0,1,0,0,0,0]) nd rfl (.inl rfl) rfl (by decide) (by decide) (.inl rfl)) (ag (aN 8 [0,0,4,0,1,0,0,0,0] nd (aK (d:=0) (c:=0) (aa (fnn gD hr (aa (fv 0 rfl rfl) (aa (fxi rfl (fv 5 rfl rfl)) (aa (fv 7 rfl rfl) af rfl) rfl) rfl) rfl rfl) (aa (fnn gD hr (aa (fv 1 rfl rfl) (aa (fxi rfl (fv 5 rfl rfl)) (aa (fv 7 rfl rfl) af rfl) rfl) rfl) rfl rfl) af rfl) rfl) rfl rfl) rfl rfl rfl) (aB (aA (ds2:=[0,0,4,0,1,0,0,0,0]) (cN (ds0:=[0,0,0,0,1,0,0,0,0]) (qpt (cz (aI fj (fxi rfl (fv 8 rfl rfl)) aJ (aM _)) (cx (jD (fy hr) (fv 8 rfl rfl) (fv 2 rfl rfl) (by with_unfolding_all rfl))))) rfl) (ag (iT (i:=2) (fy hr) rfl (.inl rfl) (fs0 aT) (fv 8 rfl rfl) rfl rfl rfl rfl) (aB (bH (cX (K:=K) (i:=4) (d:=1) rfl rfl (.inl rfl) rfl (aK (d:=0) (c:=0) (aa (fv 8 rfl rfl) (aa (aD (BM (K:=K) rfl) (fv 6 rfl rfl) (aL (d:=1) (c:=0) (aa (fv 7 rfl rfl) af rfl) rfl rfl (by decide))) af rfl) rfl) rfl rfl) (by decide) rfl rfl rfl rfl rfl rfl rfl rfl) rfl))) ax))) PassesOwn.never (λ_=>rfl)))) PassesOwn.never (λ_=>rfl)) (aB (aN 3 [0,0,4,0,0,0,0,0,0] nd (ja (ds0:=[0,0,4,0,0,0,0,0,0]) (eZ (p:=false) (i:=4) rfl (.inl rfl) rfl rfl rfl) rfl) rfl rfl rfl)))) PassesOwn.never) (frt (fs0 aJ) rfl))))
abbrev gg:Stmt:=top 31
abbrev jg:List Str:=["_law_machine_here","_law_thing"]
def sc_law_is_place:FnScope jg ["_law_machine_here","_law_thing"] (ak gg):=⟨rfl,rfl,rfl,by decide +kernel,rfl,by decide +kernel,by decide +kernel⟩
def b8:MS:=(aj (sIf (tV (e2 isN (ac 1) (eC .none))) (az (eC (.bool true))) aQ)
 (az (kt (e1 (bG "int") (ac 1)) (kt (km (e1 (bG "bool") (ac 1))) (kq leI ltI (eC (.int 0)) (ac 1) (eN bf (ab (e2 ixA (ac 0) (eC (.int 0))) ai)))))))
def aZ:List D->Option (D×En):=fnF 0 [0,0] b8
def ma(T:Bl mg)(F:Fun K "_law_is_place" "_law_is_place" gg f fd):FnOk P w K mg base CX0 (k+1) f fd ["_law_machine_here","_law_thing"] (spF K [0,0] 3 aZ):=by
 have nd:=sc_law_is_place.nd;refine F.okQ (N:=jg) (b:=b8) (J:=⟨[],[0,0],3,[]⟩) (ds0:=[0,0]) sc_law_is_place rfl rfl rfl rfl λcdv A outer s H E hr=>?_;exact(ag (aA (ds2:=[0,0]) (aI fB (fv 1 rfl rfl) aJ (aM _)) (frt aT rfl) ax) (frt (jI (dB (K:=K) (n:="int") rfl rfl T.isinstance0 rfl T.int0 (by decide +kernel) (by decide) (fv 1 rfl rfl) (by decide) rfl rfl rfl rfl) (jI (jH (dB (K:=K) (n:="bool") rfl rfl T.isinstance0 rfl T.bool0 (by decide +kernel) (by decide) (fv 1 rfl rfl) (by decide) rfl rfl rfl rfl)) (jG (tI GS k6 ah (fv 1 rfl rfl) (fln rfl T.len0 (aa (fxi rfl (fv 0 rfl rfl)) af rfl) rfl rfl) (by with_unfolding_all rfl))))) rfl))
abbrev fI:Stmt:=top 32
abbrev iF:List Str:=["_law_one","_law_other","_law_pairs","_law_pair"]
def sc_law_are_pairs:FnScope iF ["_law_one","_law_other","_law_pairs"] (ak fI):=⟨rfl,rfl,rfl,by decide +kernel,rfl,by decide +kernel,by decide +kernel⟩
def bR:MS:=(aj (sIf (bOr (cc (tV (e1 (bG "tuple") (ac 3)))) (tV (e2 neD (eN bf (ab (ac 3) ai)) (eC (.int 2))))) (az (eC (.bool false))) aQ)
 (sIf (bOr (cc (tV (am aZ (ab (ac 0) (ab (e2 ixA (ac 3) (eC (.int 0))) ai))))) (cc (tV (am aZ (ab (ac 1) (ab (e2 ixA (ac 3) (eC (.int 1))) ai)))))) (az (eC (.bool false))) aQ))
def fR:MS:=(aj (sIf (cc (tV (e1 (bG "list") (ac 2)))) (az (eC (.bool false))) aQ)
 (aj (dg (eY (ac 2)) (gN 3) bR)
 (az (eC (.bool true)))))
def bN:List D->Option (D×En):=fnF 1 [0,0,0] fR
def lP(T:Bl mg)(jh:Kn P w K mg base k "_law_is_place" ["_law_machine_here","_law_thing"] (spF K [0,0] 3 aZ))(F:Fun K "_law_are_pairs" "_law_are_pairs" fI f fd):FnOk P w K mg base CX0 (k+1) f fd ["_law_one","_law_other","_law_pairs"] (spF K [0,0,0] 3 bN):=by
 have nd:=sc_law_are_pairs.nd;refine F.okQ (N:=iF) (b:=fR) (J:=⟨[],[0,0,0,0],3,[]⟩) (ds0:=[0,0,0,0]) sc_law_are_pairs rfl rfl rfl rfl λcdv A outer s H E hr=>?_;exact(ag (aA (ds2:=[0,0,0,0]) (aO (aE (dB (K:=K) (n:="list") rfl rfl T.isinstance0 rfl T.list0 (by decide +kernel) (by decide) (fv 2 rfl rfl) (by decide) rfl rfl rfl rfl) (λ_=>rfl))) (frt aT rfl) ax) (ag (bj (ds1:=[0,0,0,0]) rfl (cB (K:=K) rfl (fv 2 rfl rfl)) (ay (i:=3) (ds':=[0,0,0,0]) nd rfl (.inl rfl) rfl (by decide) (by decide) (.inl rfl)) (ag (aA (ds2:=[0,0,0,0]) (qpt (bZ (aO (aE (dB (K:=K) (n:="tuple") rfl rfl T.isinstance0 rfl T.tuple0 (by decide +kernel) (by decide) (fv 3 rfl rfl) (by decide) rfl rfl rfl rfl) (λ_=>rfl))) (cb (ftn rfl hr.units (fln rfl T.len0 (aa (fv 3 rfl rfl) af rfl) rfl rfl) ah)))) (frt aT rfl) ax) (aB (aA (ds2:=[0,0,0,0]) (qpt (bZ (aO (aE (fnn jh hr (aa (fv 0 rfl rfl) (aa (fxi rfl (fv 3 rfl rfl)) af rfl) rfl) rfl rfl) (λ_=>rfl))) (cb (aO (aE (fnn jh hr (aa (fv 1 rfl rfl) (aa (fxi rfl (fv 3 rfl rfl)) af rfl) rfl) rfl rfl) (λ_=>rfl)))))) (frt aT rfl) ax))) PassesOwn.never (λ_=>rfl)) (frt aT rfl)))
abbrev jT:Stmt:=top 33
abbrev mQ:List Str:=["_law_one","_law_other","_law_pairs","_law_whole","_law_known","_law_pair","_law_s","_law_t","_law_first_here","_law_second","_law_number","_law_goal_here"]
def sc_law_hold:FnScope mQ ["_law_one","_law_other","_law_pairs","_law_whole"] (ak jT):=⟨rfl,rfl,rfl,by decide +kernel,rfl,by decide +kernel,by decide +kernel⟩
def kJ:MS:=(eF 4 (ac 5) (eC (.bool true)))
def fJ:MS:=(aj (aw 11 (bp (ab (am bJ (ab (ac 0) (ab (ac 6) (ab (ac 10) ai)))) (ab (am bJ (ab (ac 1) (ab (ac 7) (ab (ac 10) ai)))) ai))))
 (sIf (dC (tV (e2 jL (ac 11) (ac 4))) (bOr (tV (e2 fX (e2 ixA (ac 11) (eC (.int 0))) (eC .none))) (dC (tV (ac 3)) (tV (e2 fX (e2 ixA (ac 11) (eC (.int 1))) (eC .none)))))) (az (eC (.bool false))) aQ))
def kI:MS:=(aj (aw 8 (am a7 (ab (ac 0) (ab (ac 6) ai))))
 (aj (aw 9 (am a7 (ab (ac 1) (ab (ac 7) ai))))
 (aj (sIf (bOr (dC (tV (ac 8)) (cc (tV (ac 9)))) (bOr (dC (tV (ac 3)) (dC (tV (ac 9)) (cc (tV (ac 8))))) (dC (cc (tV (ac 3))) (tV (e2 isN (ac 6) (eC .none)))))) (az (eC (.bool false))) aQ)
 (dg (cH (ab (eN bf (ab (e2 ixA (e2 ixA (ac 0) (eC (.int 1))) (eC (.int 0))) ai)) ai)) (gN 10) fJ))))
def jY:MS:=(aj (sIf (bOr (cc (tV (am bN (ab (ac 0) (ab (ac 1) (ab (ac 2) ai)))))) (tV (e2 pC (bp (ab (eC (.int 0)) (ab (eC (.int 0)) ai))) (ac 2)))) (az (eC (.bool false))) aQ)
 (aj (aw 4 tM)
 (aj (dg (eY (ac 2)) (gN 5) kJ)
 (aj (dg (eY (ac 2)) (gT (gsC (gN 6) (gsC (gN 7) gs0))) kI)
 (az (eC (.bool true)))))))
def dX:List D->Option (D×En):=fnF 8 [0,0,0,0] jY
def qC(T:Bl mg)(dF:Kn P w K mg base k "_law_is_end" ["_law_machine_here","_law_stand"] (spF K [0,0] 0 a7))(mU:Kn P w K mg base k "_law_are_pairs" ["_law_one","_law_other","_law_pairs"] (spF K [0,0,0] 3 bN))(gD:Kn P w K mg base k "_law_led" ["_law_machine_here","_law_stand","_law_number"] (spF K [0,0,0] 0 bJ))(F:Fun K "_law_hold" "_law_hold" jT f fd):FnOk P w K mg base CX0 (k+1) f fd ["_law_one","_law_other","_law_pairs","_law_whole"] (spF K [0,0,0,0] 3 dX):=by
 have nd:=sc_law_hold.nd;refine F.okQ (N:=mQ) (b:=jY) (J:=⟨[],[0,0,0,0,0,0,0,0,0,0,0,0],3,[]⟩) (ds0:=[0,0,0,0,0,0,0,0,0,0,0,0]) sc_law_hold rfl rfl rfl rfl λcdv A outer s H E hr=>?_;exact(ag (aA (ds2:=[0,0,0,0,0,0,0,0,0,0,0,0]) (qpt (bZ (aO (aE (fnn mU hr (aa (fv 0 rfl rfl) (aa (fv 1 rfl rfl) (aa (fv 2 rfl rfl) af rfl) rfl) rfl) rfl rfl) (λ_=>rfl))) (cb (aI (xn (K:=K) rfl hr.units) (aK (d:=3) (c:=3) (aa ah (aa ah af rfl) rfl) rfl rfl) (fv 2 rfl rfl) (by with_unfolding_all rfl))))) (frt aT rfl) ax) (ag (aN 4 [0,0,0,0,4,0,0,0,0,0,0,0] nd vA rfl rfl rfl) (ag (bj (ds1:=[0,0,0,0,4,0,0,0,0,0,0,0]) rfl (cB (K:=K) rfl (fv 2 rfl rfl)) (ay (i:=5) (ds':=[0,0,0,0,4,0,0,0,0,0,0,0]) nd rfl (.inl rfl) rfl (by decide) (by decide) (.inl rfl)) (aB (iT (i:=4) (fy hr) rfl (.inl rfl) (fs0 aT) (fv 5 rfl rfl) rfl rfl rfl rfl)) PassesOwn.never (λ_=>rfl)) (ag (bj (ds1:=[0,0,0,0,4,0,0,0,0,0,0,0]) rfl (cB (K:=K) rfl (fv 2 rfl rfl)) (gz (K:=K) rfl rfl (bt (ay (i:=6) (ds':=[0,0,0,0,4,0,0,0,0,0,0,0]) nd rfl (.inl rfl) rfl (by decide) (by decide) (.inl rfl)) (bt (ay (i:=7) (ds':=[0,0,0,0,4,0,0,0,0,0,0,0]) nd rfl (.inl rfl) rfl (by decide) (by decide) (.inl rfl)) fC rfl) rfl) i7 rfl rfl) (ag (aN 8 [0,0,0,0,4,0,0,0,0,0,0,0] nd (fnn dF hr (aa (fv 0 rfl rfl) (aa (fv 6 rfl rfl) af rfl) rfl) rfl rfl) rfl rfl rfl) (ag (aN 9 [0,0,0,0,4,0,0,0,0,0,0,0] nd (fnn dF hr (aa (fv 1 rfl rfl) (aa (fv 7 rfl rfl) af rfl) rfl) rfl rfl) rfl rfl rfl) (ag (aA (ds2:=[0,0,0,0,4,0,0,0,0,0,0,0]) (qpt (bZ (qpt (cz (aE (fv 8 rfl rfl) (λ_=>rfl)) (cx (aO (aE (fv 9 rfl rfl) (λ_=>rfl)))))) (bZ (qpt (cz (aE (fv 3 rfl rfl) (λ_=>rfl)) (cz (aE (fv 9 rfl rfl) (λ_=>rfl)) (cx (aO (aE (fv 8 rfl rfl) (λ_=>rfl))))))) (cb (qpt (cz (aO (aE (fv 3 rfl rfl) (λ_=>rfl))) (cx (aI fB (fv 6 rfl rfl) aJ (aM _))))))))) (frt aT rfl) ax) (aB (bj (ds1:=[0,0,0,0,4,0,0,0,0,0,0,0]) rfl (cO rfl T.range0 (aa (fs0 (fln rfl T.len0 (aa (fxi rfl (fxi rfl (fv 0 rfl rfl))) af rfl) rfl rfl)) af rfl) rfl) (ay (i:=10) (ds':=[0,0,0,0,4,0,0,0,0,0,0,0]) nd rfl (.inl rfl) rfl (by decide) (by decide) (.inl rfl)) (ag (aN 11 [0,0,0,0,4,0,0,0,0,0,0,0] nd (aK (d:=0) (c:=0) (aa (fnn gD hr (aa (fv 0 rfl rfl) (aa (fv 6 rfl rfl) (aa (fv 10 rfl rfl) af rfl) rfl) rfl) rfl rfl) (aa (fnn gD hr (aa (fv 1 rfl rfl) (aa (fv 7 rfl rfl) (aa (fv 10 rfl rfl) af rfl) rfl) rfl) rfl rfl) af rfl) rfl) rfl rfl) rfl rfl rfl) (aB (aA (ds2:=[0,0,0,0,4,0,0,0,0,0,0,0]) (qpt (cz (cN (ds0:=[0,0,0,0,0,0,0,0,0,0,0,0]) (jD (fy hr) (fv 11 rfl rfl) (fv 4 rfl rfl) (by with_unfolding_all rfl)) rfl) (cx (qpt (bZ (aI fj (fxi rfl (fv 11 rfl rfl)) aJ (aM _)) (cb (qpt (cz (aE (fv 3 rfl rfl) (λ_=>rfl)) (cx (aI fj (fxi rfl (fv 11 rfl rfl)) aJ (aM _))))))))))) (frt aT rfl) ax))) PassesOwn.never (λ_=>rfl)))))) PassesOwn.never (λ_=>rfl)) (frt aT rfl)))))
abbrev gj:Stmt:=top 35
abbrev iY:List Str:=["_law_one","_law_other","_law_found","_law_row"]
def sc_law_right:FnScope iY ["_law_one","_law_other","_law_found"] (ak gj):=⟨rfl,rfl,rfl,by decide +kernel,rfl,by decide +kernel,by decide +kernel⟩
noncomputable def j5:MT:=(bOr (cc (tV (e1 (bG "int") (ac 0)))) (tV (e1 (bG "bool") (ac 0))))
noncomputable def oE:ME:=(ac 0)
noncomputable def gk:MS:=(aj (sIf (bOr (cc (tV (e1 (bG "tuple") (ac 2)))) (bOr (tV (e2 neD (eN bf (ab (ac 2) ai)) (eC (.int 2)))) (cc (tV (e1 (bG "list") (e2 ixA (ac 2) (eC (.int 1)))))))) (az (eC (.bool false))) aQ)
 (aj (aw 3 (am df (ab (ac 0) (ab (ac 1) ai))))
 (aj (sIf (tV (e2 isN (ac 3) (eC .none))) (aj (sIf (bOr (tV (e2 neD (e2 ixA (ac 2) (eC (.int 0))) (eC (.str "within")))) (cc (tV (am dX (ab (ac 0) (ab (ac 1) (ab (e2 ixA (ac 2) (eC (.int 1))) (ab (eC (.bool false)) ai)))))))) (az (eC (.bool false))) aQ)
 (az (e2 eqD (e1 m9 (e2 ixA (ac 2) (eC (.int 1)))) (eN bf (ab (e2 ixA (ac 2) (eC (.int 1))) ai))))) aQ)
 (aj (sIf (tV (e2 neD (eLC true (eY (e2 ixA (ac 2) (eC (.int 1)))) (gN 0) j5 oE [none]) (ba ai))) (az (eC (.bool false))) aQ)
 (az (e2 eqD (ac 2) (bp (ab (eC (.str "out")) (ab (ac 3) ai)))))))))
noncomputable def aU:List D->Option (D×En):=fnF 1 [0,0,0] gk
def pA(T:Bl mg)(qM:Kn P w K mg base k "_law_first" ["_law_one","_law_other"] (spF K [0,0] 0 df))(t9:Kn P w K mg base k "_law_hold" ["_law_one","_law_other","_law_pairs","_law_whole"] (spF K [0,0,0,0] 3 dX))(F:Fun K "_law_right" "_law_right" gj f fd):FnOk P w K mg base CX0 (k+1) f fd ["_law_one","_law_other","_law_found"] (spF K [0,0,0] 3 aU):=by
 have nd:=sc_law_right.nd;refine F.okQ (N:=iY) (b:=gk) (J:=⟨[],[0,0,0,0],3,[]⟩) (ds0:=[0,0,0,0]) sc_law_right rfl rfl rfl rfl λcdv A outer s H E hr=>?_;exact(ag (aA (ds2:=[0,0,0,0]) (qpt (bZ (aO (aE (dB (K:=K) (n:="tuple") rfl rfl T.isinstance0 rfl T.tuple0 (by decide +kernel) (by decide) (fv 2 rfl rfl) (by decide) rfl rfl rfl rfl) (λ_=>rfl))) (bZ (ftn rfl hr.units (fln rfl T.len0 (aa (fv 2 rfl rfl) af rfl) rfl rfl) ah) (cb (aO (aE (dB (K:=K) (n:="list") rfl rfl T.isinstance0 rfl T.list0 (by decide +kernel) (by decide) (fxi rfl (fv 2 rfl rfl)) (by decide) rfl rfl rfl rfl) (λ_=>rfl))))))) (frt aT rfl) ax) (ag (aN 3 [0,0,0,0] nd (fnn qM hr (aa (fv 0 rfl rfl) (aa (fv 1 rfl rfl) af rfl) rfl) rfl rfl) rfl rfl rfl) (ag (aA (ds2:=[0,0,0,0]) (aI fB (fv 3 rfl rfl) aJ (aM _)) (ag (aA (ds2:=[0,0,0,0]) (qpt (bZ (ftn rfl hr.units (fxi rfl (fv 2 rfl rfl)) jF) (cb (aO (aE (fnn t9 hr (aa (fv 0 rfl rfl) (aa (fv 1 rfl rfl) (aa (fxi rfl (fv 2 rfl rfl)) (aa (fs0 aT) af rfl) rfl) rfl) rfl) rfl rfl) (λ_=>rfl)))))) (frt aT rfl) ax) (frt (e7 (mx (K:=K) rfl hr.units) (qa (K:=K) rfl hr.units rfl rfl T.len0 rfl T.set0 (by decide +kernel) (by decide +kernel) (fxi rfl (fv 2 rfl rfl)) rfl) (fln rfl T.len0 (aa (fxi rfl (fv 2 rfl rfl)) af rfl) rfl rfl) (aM _)) rfl)) ax) (ag (aA (ds2:=[0,0,0,0]) (ftn rfl hr.units (i9 (cd:=0) (d:=1) (dsi:=[0]) (lk:=[]) (BlkOkC.of (ns:=["_law_number"]) (js:=[none]) (N0:=iY) (sc0:=ak gj) rfl rfl (by decide +kernel)) rfl (cB (K:=K) rfl (fxi rfl (fv 2 rfl rfl))) (λ_ _ _ _ _=>(ay (i:=0) (ds':=[0]) (show(["_law_number"]:List Str).Nodup by decide +kernel) rfl (.inl rfl) rfl (by decide) (by decide) (.inr rfl))) (λ_ _ _ _ _=>(vm (qpt (bZ (aO (aE (dB (K:=K) (n:="int") rfl rfl T.isinstance0 rfl T.int0 (by decide +kernel) (by decide) (fv 0 rfl rfl) (by decide) rfl rfl rfl rfl) (λ_=>rfl))) (cb (aE (dB (K:=K) (n:="bool") rfl rfl T.isinstance0 rfl T.bool0 (by decide +kernel) (by decide) (fv 0 rfl rfl) (by decide) rfl rfl rfl rfl) (λ_=>rfl))))))) (λ_ _ _ _ _=>(fv 0 rfl rfl)) rfl rfl (by decide) rfl (λ_=>rfl)) (aL (d:=3) (c:=3) af rfl rfl (by decide))) (frt aT rfl) ax) (frt (e7 (mx (K:=K) rfl hr.units) (fv 2 rfl rfl) (aK (d:=0) (c:=0) (aa jF (aa (fv 3 rfl rfl) af rfl) rfl) rfl rfl) (aM _)) rfl)))))
abbrev lX:Stmt:=top 36
abbrev Gd:List Str:=["_law_script","_law_k","_law_one","_law_other","_law_handed","_law_found","_law_none"]
def sclaw:FnScope Gd ["_law_script"] (ak lX):=⟨rfl,rfl,rfl,by decide +kernel,rfl,by decide +kernel,by decide +kernel⟩
noncomputable def qr:MS:=(aj (ph (am ft (ab (am cP (ab (ac 0) (ab (ac 1) ai))) ai)) (gT (gsC (gN 2) (gsC (gN 3) gs0))))
 (aj (aw 4 (bp (ab (am cg (ab (ac 2) ai)) (ab (am cg (ab (ac 3) ai)) ai))))
 (aj (aw 5 (am b7 (ab (e2 ixA (ac 4) (eC (.int 0))) (ab (e2 ixA (ac 4) (eC (.int 1))) ai))))
 (aj (sIf (bOr (cc (tV (am aU (ab (ac 2) (ab (ac 3) (ab (ac 5) ai)))))) (tV (e2 neD (ac 4) (bp (ab (ac 2) (ab (ac 3) ai)))))) (az (eC (.bool false))) aQ)
 (aj (dw (k9 5 (pIx 5 (lM 5) (eC (.int 1)))))
 (aj (sIf (cc (tV (am aU (ab (ac 3) (ab (ac 2) (ab (am b7 (ab (e2 ixA (ac 4) (eC (.int 1))) (ab (e2 ixA (ac 4) (eC (.int 0))) ai))) ai)))))) (az (eC (.bool false))) aQ)
 (aj (sIf (bOr (cc (tV (am aU (ab (ac 2) (ab (ac 3) (ab (am b7 (ab (ac 2) (ab (ac 3) ai))) ai)))))) (cc (tV (am aU (ab (ac 2) (ab (ac 2) (ab (am b7 (ab (ac 2) (ab (e2 ixA (ac 4) (eC (.int 0))) ai))) ai))))))) (az (eC (.bool false))) aQ)
 (aj (aw 6 (bp (ab (ba (ab (eC (.bool false)) ai)) (ab (ba (ab (e2 wE (ba (ab (eC .none) ai)) (eN bf (ab (e2 ixA (e2 ixA (ac 2) (eC (.int 1))) (eC (.int 0))) ai))) ai)) ai))))
 (sIf (bOr (cc (tV (am aU (ab (ac 6) (ab (ac 2) (ab (am b7 (ab (ac 6) (ab (ac 2) ai))) ai)))))) (cc (tV (am aU (ab (ac 2) (ab (ac 6) (ab (am b7 (ab (ac 2) (ab (ac 6) ai))) ai))))))) (az (eC (.bool false))) aQ)))))))))
noncomputable def xI:MS:=(aj (dg (cH (ab (eC (.int 3)) ai)) (gN 1) qr)
 (az (eC (.bool true))))
noncomputable def ua:List D->Option (D×En):=fnF 6 [0] xI
def GB(T:Bl mg)(vU:Kn P w K mg base k "_law_two" ["_law_pen_here"] (spF K [1] 0 ft))(hU:Kn P w K mg base k "within" ["one","other"] (spF K [0,0] 2 b7))(vV:Kn P w K mg base k "_law_pen" ["_law_script","_law_k"] (spF K [0,0] 3 cP))(kK:Kn P w K mg base k "_law_copied" ["_law_machine_here"] (spF K [0] 2 cg))(de:Kn P w K mg base k "_law_right" ["_law_one","_law_other","_law_found"] (spF K [0,0,0] 3 aU))(F:Fun K "law" "law" lX f fd):FnOk P w K mg base CX0 (k+1) f fd ["_law_script"] (spF K [0] 3 ua):=by
 have nd:=sclaw.nd;refine F.okQ (N:=Gd) (b:=xI) (J:=⟨[],[0,0,0,0,0,0,0],3,[]⟩) (ds0:=[0,0,0,0,0,0,0]) sclaw rfl rfl rfl rfl λcdv A outer s H E hr=>?_;exact(ag (bj (ds1:=[0,0,0,0,0,0,0]) rfl (cO rfl T.range0 (aa (fs0 ah) af rfl) rfl) (ay (i:=1) (ds':=[0,0,0,0,0,0,0]) nd rfl (.inl rfl) rfl (by decide) (by decide) (.inl rfl)) (vo (ds2:=[0,0,0,0,0,2,0]) (ag (vu rfl (fnn vU hr (aa (cC (d':=1) (fnn vV hr (aa (fv 0 rfl rfl) (aa (fv 1 rfl rfl) af rfl) rfl) rfl rfl) (by decide)) af rfl) rfl rfl) (gz (K:=K) rfl rfl (bt (ay (i:=2) (ds':=[0,0,0,0,0,0,0]) nd rfl (.inl rfl) rfl (by decide) (by decide) (.inl rfl)) (bt (ay (i:=3) (ds':=[0,0,0,0,0,0,0]) nd rfl (.inl rfl) rfl (by decide) (by decide) (.inl rfl)) fC rfl) rfl) i7 rfl rfl) rfl rfl rfl) (ag (aN 4 [0,0,0,0,0,0,0] nd (fs0 (aK (d:=2) (c:=1) (aa (fnn kK hr (aa (fv 2 rfl rfl) af rfl) rfl rfl) (aa (fnn kK hr (aa (fv 3 rfl rfl) af rfl) rfl rfl) af rfl) rfl) rfl rfl)) rfl rfl rfl) (ag (aN 5 [0,0,0,0,0,2,0] nd (fnn hU hr (aa (fxi rfl (fv 4 rfl rfl)) (aa (fxi rfl (fv 4 rfl rfl)) af rfl) rfl) rfl rfl) rfl rfl rfl) (ag (aA (ds2:=[0,0,0,0,0,2,0]) (cN (ds0:=[0,0,0,0,0,0,0]) (qpt (bZ (aO (aE (fnn de hr (aa (fv 2 rfl rfl) (aa (fv 3 rfl rfl) (aa (fv 5 rfl rfl) af rfl) rfl) rfl) rfl rfl) (λ_=>rfl))) (cb (ftn rfl hr.units (fv 4 rfl rfl) (aK (d:=0) (c:=0) (aa (fv 2 rfl rfl) (aa (fv 3 rfl rfl) af rfl) rfl) rfl rfl))))) rfl) (frt aT rfl) ax) (ag (bH (vD (K:=K) (i:=5) (d:=2) rfl rfl (pZ (i:=5) (d:=2) rfl rfl (nS (i:=5) rfl (.inl rfl) rfl rfl) ah (by decide) (by first|exact .inl rfl|exact .inr rfl) (λ_ _=>rfl)) (by decide) rfl rfl) rfl) (ag (aA (ds2:=[0,0,0,0,0,2,0]) (aO (aE (fnn de hr (aa (fv 3 rfl rfl) (aa (fv 2 rfl rfl) (aa (fs0 (fnn hU hr (aa (fxi rfl (fv 4 rfl rfl)) (aa (fxi rfl (fv 4 rfl rfl)) af rfl) rfl) rfl rfl)) af rfl) rfl) rfl) rfl rfl) (λ_=>rfl))) (frt aT rfl) ax) (ag (aA (ds2:=[0,0,0,0,0,2,0]) (qpt (bZ (aO (aE (fnn de hr (aa (fv 2 rfl rfl) (aa (fv 3 rfl rfl) (aa (fs0 (fnn hU hr (aa (fv 2 rfl rfl) (aa (fv 3 rfl rfl) af rfl) rfl) rfl rfl)) af rfl) rfl) rfl) rfl rfl) (λ_=>rfl))) (cb (aO (aE (fnn de hr (aa (fv 2 rfl rfl) (aa (fv 2 rfl rfl) (aa (fs0 (fnn hU hr (aa (fv 2 rfl rfl) (aa (fxi rfl (fv 4 rfl rfl)) af rfl) rfl) rfl rfl)) af rfl) rfl) rfl) rfl rfl) (λ_=>rfl)))))) (frt aT rfl) ax) (ag (aN 6 [0,0,0,0,0,2,0] nd (fs0 (aK (d:=2) (c:=1) (aa (aL (d:=3) (c:=3) (aa aT af rfl) rfl rfl (by decide)) (aa (aL (d:=2) (c:=1) (aa (aD (BL (K:=K) rfl) (aL (d:=3) (c:=3) (aa aJ af rfl) rfl rfl (by decide)) (fln rfl T.len0 (aa (fxi rfl (fxi rfl (fv 2 rfl rfl))) af rfl) rfl rfl)) af rfl) rfl rfl (by decide)) af rfl) rfl) rfl rfl)) rfl rfl rfl) (aB (aA (ds2:=[0,0,0,0,0,2,0]) (qpt (bZ (aO (aE (fnn de hr (aa (fv 6 rfl rfl) (aa (fv 2 rfl rfl) (aa (fs0 (fnn hU hr (aa (fv 6 rfl rfl) (aa (fv 2 rfl rfl) af rfl) rfl) rfl rfl)) af rfl) rfl) rfl) rfl rfl) (λ_=>rfl))) (cb (aO (aE (fnn de hr (aa (fv 2 rfl rfl) (aa (fv 6 rfl rfl) (aa (fs0 (fnn hU hr (aa (fv 2 rfl rfl) (aa (fv 6 rfl rfl) af rfl) rfl) rfl rfl)) af rfl) rfl) rfl) rfl rfl) (λ_=>rfl)))))) (frt aT rfl) ax)))))))))) rfl) PassesOwn.never (λ_=>rfl)) (frt aT rfl))
end
end
end W35
namespace L2
open PySem PySem.Spec PyProof.Rows
structure W{α:Type}(x:Option α)(Q:α->Prop):Prop where
 ex:∃a,x=some a/\Q a
def aC{α:Type}(a:α)(Q:α->Prop):W (some a) Q=Q a:=propext ⟨λ⟨b,e,h⟩=>(zat e)▸h,λh=>⟨a,rfl,h⟩⟩
def bQ{α:Type}(Q:α->Prop):W (none:Option α) Q=False:=propext ⟨(λ⟨b,e,h⟩=>by cases e),(λh=>h.elim)⟩
def W.use{α:Type}{x:Option α}{P Q:α->Prop}(h:W x P)(k:∀a,P a->Q a):W x Q:=
 let⟨a,e,h⟩:=h.ex
 ⟨a,e,k a h⟩
def W.of{α:Type}{x:Option α}{P:α->Prop}{a:α}(e:x=some a)(h:P a):W x P:=⟨a,e,h⟩
def aq{α β:Type}(x:Option α)(f:α->Option β)(Q:β->Prop):W (x.bind f) Q=W x (λa=>W (f a) Q):=by
 cases x with
 |none=>show W none _=_;rw[bQ,bQ]
 |some a=>show W (f a) Q=_;rw[aC]
def bE{α β:Type}(x:Option α)(f:α->β)(Q:β->Prop):W (x.map f) Q=W x (λa=>Q (f a)):=by
 cases x with
 |none=>show W none _=_;rw[bQ,bQ]
 |some a=>show W (some (f a)) Q=_;rw[aC,aC]
def Hd{α:Type}(c:Prop)[Decidable c](a:α)(Q:α->Prop):W (grd c a) Q=(c/\Q a):=by
 unfold grd;by_cases h:c
 .rw[if_pos h,aC];exact propext ⟨λz=>⟨h,z⟩,λz=>z.2⟩
 .rw[if_neg h,bQ];exact propext ⟨λz=>z.elim,λz=>h z.1⟩
def jO{α:Type}(c:Prop)[Decidable c](a:α)(Q:α->Prop):W (if c then some a else none) Q=(c/\Q a):=Hd c a Q
noncomputable def gv(en:En)(i:Nat):Option D:=(en[i]?).join
def iO(ts:List D)(n:Int)(t:D):Option (List D):=(ixN ts.length n).map λk=>ts.set k t
noncomputable def Iz(ts:List D)(n:Int):Option (D×List D):=(seqIndex? n ts.length).bind λk=>(ts[k]?).map λt=>(t,ts.eraseIdx k)
noncomputable def eW(i:Int)(n:Nat):List D:=(List.range n).map λk=>.int (i+(k:Nat))
section
variable{α β:Type}
def sU(b:MS)(Q:Fl->Prop):Fl->Prop:=λfl=>W (match fl with|.nx en1=>b en1|.rt t en1=>some (.rt t en1)|.ct en1=>some (.ct en1)) Q
def EU(i:Nat)(Q:Fl->Prop):D×En->Prop:=λr=>Q (.nx (r.2.set i (some r.1)))
def E2(Q:Fl->Prop):D×En->Prop:=λr=>Q (.nx r.2)
def EV(Q:Fl->Prop):D×En->Prop:=λr=>Q (.rt r.1 r.2)
def kIf(f g:En->Option β)(Q:β->Prop):Bool×En->Prop:=λr=>W (if r.1 then f r.2 else g r.2) Q
def EZ(g:MG)(b:MS)(Q:Fl->Prop):List D×En->Prop:=λr=>W (cA g b r.1 r.2) Q
def mj(g:MG)(b:MS)(ts:List D)(Q:Fl->Prop):Fl->Prop:=λfl=>W (match fl with|.nx en2=>cA g b ts en2|.ct en2=>cA g b ts en2|.rt r en2=>some (.rt r en2)) Q
def Az(g:MG)(b:MS)(ts:List D)(Q:Fl->Prop):En->Prop:=λen=>W (b en) (mj g b ts Q)
def kNx(Q:Fl->Prop):En->Prop:=λen=>Q (.nx en)
def E3(g:MG)(Q:Fl->Prop):D×En->Prop:=λr=>W (g r.1 r.2) (kNx Q)
def wQ(i:Nat)(en:En)(Q:Fl->Prop):List D->Prop:=λts=>Q (.nx (en.set i (some (.list ts))))
def mi(i:Nat)(t:D)(Q:Fl->Prop):D×En->Prop:=λq=>W (match q.1,(q.2[i]?).join with|.int n,some (.list ts)=>(ixN ts.length n).map λk=>.nx (q.2.set i (some (.list (ts.set k t))))|_,_=>none) Q
def sT(i:Nat)(fk:ME)(Q:Fl->Prop):D×En->Prop:=λr=>W (match (r.2[i]?).join with|some _=>((fk r.2).bind λq=>(match q.1,(q.2[i]?).join with|.int n,some (.list ts)=>(ixN ts.length n).map λk=>.nx (q.2.set i (some (.list (ts.set k r.1))))|_,_=>none))|none=>none) Q
def ve(i:Nat)(t:D)(fk:ME)(en:En)(Q:Fl->Prop):D->Prop:=λ_x=>W (fk en) (mi i t Q)
def pM(i:Nat)(t:D)(n:Int)(en:En)(Q:Fl->Prop):D->Prop:=λx=>W (match x with|.list ts=>(ixN ts.length n).map λk=>.nx (en.set i (some (.list (ts.set k t))))|_=>none) Q
def jA(en:En)(Q:D×En->Prop):D->Prop:=λt=>Q (t,en)
def kMv(i:Nat)(en:En)(Q:D×En->Prop):D->Prop:=λt=>Q (t,en.set i none)
def k1(g:D->Option D)(Q:D×En->Prop):D×En->Prop:=λr=>W (g r.1) (jA r.2 Q)
def k2b(g:D->D->Option D)(t:D)(Q:D×En->Prop):D×En->Prop:=λq=>W (g t q.1) (jA q.2 Q)
def k2(g:D->D->Option D)(f:ME)(Q:D×En->Prop):D×En->Prop:=λr=>W (f r.2) (k2b g r.1 Q)
def wU(g:ME)(Q:D×En->Prop):D×En->Prop:=λr=>W (match r.1 with|.bool true=>g r.2|.bool false=>some (.bool false,r.2)|_=>none) Q
def kOr(g:ME)(Q:D×En->Prop):D×En->Prop:=λr=>W (match r.1 with|.bool true=>some (.bool true,r.2)|.bool false=>g r.2|_=>none) Q
def EW(Q:D×En->Prop):D×En->Prop:=λr=>W (match r.1 with|.bool b=>some (.bool (!b),r.2)|_=>none) Q
def kTV(Q:Bool×En->Prop):D×En->Prop:=λr=>W (match r.1 with|.bool b=>some (b,r.2)|_=>none) Q
def tj(g:MT)(Q:Bool×En->Prop):Bool×En->Prop:=λr=>W (if r.1 then g r.2 else some (false,r.2)) Q
def wT(g:MT)(Q:Bool×En->Prop):Bool×En->Prop:=λr=>W (if r.1 then some (true,r.2)else g r.2) Q
def AB(Q:Bool×En->Prop):Bool×En->Prop:=λr=>Q (!r.1,r.2)
def wW(t:D)(Q:List (D ⊕ Nat)×En->Prop):List (D ⊕ Nat)×En->Prop:=λy=>Q (.inl t::y.1,y.2)
def kAC(r:MA)(Q:List (D ⊕ Nat)×En->Prop):D×En->Prop:=λx=>W (r x.2) (wW x.1 Q)
def wV(i:Nat)(Q:List (D ⊕ Nat)×En->Prop):List (D ⊕ Nat)×En->Prop:=λy=>Q (.inr i::y.1,y.2)
def kAS(i:Nat)(r:MA)(en:En)(Q:List (D ⊕ Nat)×En->Prop):D->Prop:=λ_x=>W (r en) (wV i Q)
def kN2(g:List D->Option D)(en:En)(Q:D×En->Prop):List D->Prop:=λts=>W (g ts) (jA en Q)
def kN(g:List D->Option D)(Q:D×En->Prop):List (D ⊕ Nat)×En->Prop:=λr=>W (vals r.1) (kN2 g r.2 Q)
def sV(en:En)(Q:D×En->Prop):List D->Prop:=λts=>W (if ts.length<=sizeLine then some (.list ts,en)else none) Q
def EX(Q:D×En->Prop):List (D ⊕ Nat)×En->Prop:=λr=>W (vals r.1) (sV r.2 Q)
def sR(en:En)(Q:D×En->Prop):List D->Prop:=λts=>W (if ts.length<=sizeLine then some (.tuple ts,en)else none) Q
def ET(Q:D×En->Prop):List (D ⊕ Nat)×En->Prop:=λr=>W (vals r.1) (sR r.2 Q)
def pN(as:List (D ⊕ Nat))(en:En)(Q:D×En->Prop):D×En->Prop:=λq=>Q (q.1,wb as q.2 en)
def pO(F:List D->Option (D×En))(as:List (D ⊕ Nat))(en:En)(Q:D×En->Prop):List D->Prop:=λts=>W (F ts) (pN as en Q)
def AA(F:List D->Option (D×En))(Q:D×En->Prop):List (D ⊕ Nat)×En->Prop:=λr=>W (dD r.1 r.2) (pO F r.1 r.2 Q)
def kFn(dps:List Nat)(Q:D×En->Prop):Fl->Prop:=λfl=>W (match fl with|.rt t en=>some (t,msk dps en)|.nx en=>some (.none,msk dps en)|.ct _=>none) Q
def sX(q:Bool)(js:List (Option Nat))(en:En)(Q:D×En->Prop):List D×En->Prop:=λz=>Q (.list z.1,if q then en else wbB js z.2 en)
def kLC(q:Bool)(g:MG)(c:MT)(f:ME)(js:List (Option Nat))(Q:D×En->Prop):List D×En->Prop:=λr=>W (lcF g c f r.1 [] (dR js r.2)) (sX q js r.2 Q)
def E6(Q:List D×En->Prop):D×En->Prop:=λr=>W ((Aj r.1).map λts=>(ts,r.2)) Q
def kR1(Q:List D×En->Prop):List (D ⊕ Nat)×En->Prop:=λr=>W (match r.1 with|[.inl (.int j)]=>if -(2 ^ 62)<=j/\j<2 ^ 62 then some ((List.range j.toNat).map λk=>.int (0+(k:Nat)),r.2)else none|_=>none) Q
def kEn(Q:List D×En->Prop):List (D ⊕ Nat)×En->Prop:=λr=>W (match r.1 with|[.inl (.list ts)]=>some (dP ts,r.2)|[.inl (.tuple ts)]=>some (dP ts,r.2)|_=>none) Q
def u7(n:Int)(en:En)(Q:D×En->Prop):D->Prop:=λx=>W (match x with|.list ts=>(atI ts n).map λt=>(t,en)|_=>none) Q
def mf(i:Nat)(Q:D×En->Prop):D×En->Prop:=λr=>W (match r.1,(r.2[i]?).join with|.int n,some (.list ts)=>(atI ts n).map λt=>(t,r.2)|_,_=>none) Q
def Ax(i:Nat)(f:ME)(en:En)(Q:D×En->Prop):D->Prop:=λ_x=>W (f en) (mf i Q)
def tm(i:Nat)(Q:D×En->Prop):D×En->Prop:=λr=>W (match (r.2[i]?).join with|some (.list ts)=>if ts.length<sizeLine then some (PyData.none,r.2.set i (some (.list (ts++[r.1]))))else none|_=>none) Q
def AC(i:Nat)(t:D)(en:En)(Q:D×En->Prop):D->Prop:=λx=>W (match x with|.list ts=>if ts.length<sizeLine then some (PyData.none,en.set i (some (.list (ts++[t]))))else none|_=>none) Q
def E5(i:Nat)(f:ME)(en:En)(Q:D×En->Prop):D->Prop:=λx=>W (match x with|.list _=>((f en).bind λr=>(match (r.2[i]?).join with|some (.list ts)=>if ts.length<sizeLine then some (PyData.none,r.2.set i (some (.list (ts++[r.1]))))else none|_=>none))|_=>none) Q
def sZ(g:D->D->Option D)(t:D)(f:ME)(en:En)(Q:D×En->Prop):D->Prop:=λx=>W (match x with|.bool true=>(f en).bind λz=>(g t z.1).map λt=>(t,z.2)|.bool false=>some (.bool false,en)|_=>none) Q
def wS(g g2:D->D->Option D)(f3:ME)(t:D)(Q:D×En->Prop):D×En->Prop:=λq=>W (g t q.1) (sZ g2 q.1 f3 q.2 Q)
def kCh(g g2:D->D->Option D)(f2 f3:ME)(Q:D×En->Prop):D×En->Prop:=λr=>W (f2 r.2) (wS g g2 f3 r.1 Q)
def kIt(J:En->Prop)(Q:Fl->Prop):Fl->Prop:=λfl=>match fl with|.nx e=>J e|.ct e=>J e|.rt t e=>Q (.rt t e)
def wR(us:List D)(J:List D->En->Prop):D×En->Prop:=λr=>J (us++[r.1]) r.2
def sW(f:ME)(us:List D)(J:List D->En->Prop):Bool×En->Prop:=λr=>if r.1 then W (f r.2) (wR us J)else J us r.2
def EY(c:MT)(f:ME)(us:List D)(J:List D->En->Prop):En->Prop:=λen=>W (c en) (sW f us J)
def kWh(b:MS)(J:En->Prop)(Q:Fl->Prop):Bool×En->Prop:=λr=>if r.1 then W (b r.2) (kIt J Q)else Q (.nx r.2)
def kFg(b:MS)(J:En->Prop)(Q:Fl->Prop):En->Prop:=λen=>W (b en) (kIt J Q)
def kGs(q:List D->En->Option En)(ts:List D)(Q:En->Prop):En->Prop:=λen=>W (q ts en) Q
def mn(t:D)(Q:List D->Prop):List D->Prop:=λts=>Q (t::ts)
def E4(r:List (D ⊕ Nat))(en:En)(Q:List D->Prop):D->Prop:=λt=>W (dD r en) (mn t Q)
def c8{α:Type}(ts:List α)(n:Nat):atI ts (n:Int)=ts[n]?:=by
 unfold atI ixN;rw[if_pos (by omega)];by_cases h:n<ts.length
 .rw[if_pos (by omega)];rfl
 .rw[if_neg (by omega),zbl (by omega)];rfl
def pc{ts:List D}{t:D}(n:Nat)(h:n<ts.length):iO ts (n:Int) t=some (ts.set n t):=by
 unfold iO ixN;rw[if_pos (by omega),if_pos (by omega)];rfl
def rK(a b:Int):(a==b)=decide (a=b):=by
 by_cases h:a=b
 .rw[h,zaB rfl];exact beq_self_eq_true b
 .rw[zaA h];exact zbP.mpr h
def qS(a b:Str):(a==b)=decide (a=b):=by
 by_cases h:a=b
 .rw[h,zaB rfl];exact beq_self_eq_true b
 .rw[zaA h];exact zbP.mpr h
def EB(a b:Str):neD (.str a) (.str b)=some (.bool (!decide (a=b))):=by
 show grd _ _=_;unfold grd;rw[if_pos ⟨rfl,rfl,zbj _⟩,<-qS];simp only[peq]
variable(en:En)(Qs:Fl->Prop)(Qe:D×En->Prop)(Qb:Bool×En->Prop)(Qa:List (D ⊕ Nat)×En->Prop)(Ql:List D×En->Prop)(Qd:D->Prop)(Qt:List D->Prop)(Qn:En->Prop)(f:ME)(g:MG)(fa:MA)(c:MT)(ts:List D)(i:Nat)
def ws0(α:Type)(a:α)(Q:α->Prop):W (some a) Q=Q a:=aC _ _
theorem ws1(a:Option D)(l:En):gv (a::l) 0=a:=rfl
theorem ws2(a:Option D)(l:En):gv (a::l) (i+1)=gv l i:=rfl
theorem ws3(a b:Option D)(l:En):List.set (a::l) 0 b=b::l:=rfl
theorem ws4(a b:Option D)(l:En):List.set (a::l) (i+1) b=a::List.set l i b:=rfl
def ws5(a b:MS):W (aj a b en) Qs=W (a en) (sU b Qs):=aq _ _ _
theorem ws6(b:MS):sU b Qs (.nx en)=W (b en) Qs:=rfl
def ws7(b:MS)(t:D):sU b Qs (.rt t en)=Qs (.rt t en):=aC _ _
def ws8:W (aw i f en) Qs=W (f en) (EU i Qs):=bE _ _ _
theorem ws9(t:D):EU i Qs (t,en)=Qs (.nx (en.set i (some t))):=rfl
def DS:W (dw f en) Qs=W (f en) (E2 Qs):=bE _ _ _
theorem DR(t:D):E2 Qs (t,en)=Qs (.nx en):=rfl
def DQ:W (az f en) Qs=W (f en) (EV Qs):=bE _ _ _
theorem DP(t:D):EV Qs (t,en)=Qs (.rt t en):=rfl
def DN:W (aQ en) Qs=Qs (.nx en):=aC _ _
def DM(a b:MS):W (sIf c a b en) Qs=W (c en) (kIf a b Qs):=aq _ _ _
theorem DL(β:Type)(a b:En->Option β)(Q:β->Prop):kIf a b Q (true,en)=W (a en) Q:=rfl
theorem DK(β:Type)(a b:En->Option β)(Q:β->Prop):kIf a b Q (false,en)=W (b en) Q:=rfl
def DJ(fi:MI)(b:MS):W (dg fi g b en) Qs=W (fi en) (EZ g b Qs):=aq _ _ _
theorem DI(b:MS):EZ g b Qs (ts,en)=W (cA g b ts en) Qs:=rfl
def DH(b:MS):W (cA g b [] en) Qs=Qs (.nx en):=aC _ _
def DG(b:MS)(t:D):W (cA g b (t::ts) en) Qs=W (g t en) (Az g b ts Qs):=(aq _ _ _).trans (congrArg _ (funext λz=>aq _ _ _))
theorem DF(b:MS):Az g b ts Qs en=W (b en) (mj g b ts Qs):=rfl
theorem DE(b:MS):mj g b ts Qs (.nx en)=W (cA g b ts en) Qs:=rfl
theorem DD(b:MS):mj g b ts Qs (.ct en)=W (cA g b ts en) Qs:=rfl
def DC(b:MS)(t:D):mj g b ts Qs (.rt t en)=Qs (.rt t en):=aC _ _
def DB:W (ph f g en) Qs=W (f en) (E3 g Qs):=(aq _ _ _).trans (congrArg _ (funext λz=>bE _ _ _))
theorem DA(t:D):E3 g Qs (t,en)=W (g t en) (kNx Qs):=rfl
theorem Dz:kNx Qs en=Qs (.nx en):=rfl
def Dy(t:D):W (gN i t en) Qn=Qn (en.set i (some t)):=aC _ _
theorem Dx(g:List D->En->Option En):W (gT g (.tuple ts) en) Qn=W (g ts en) Qn:=rfl
def Dw(q:List D->En->Option En)(t:D):W (gsC g q (t::ts) en) Qn=W (g t en) (kGs q ts Qn):=aq _ _ _
theorem Dv(q:List D->En->Option En):kGs q ts Qn en=W (q ts en) Qn:=rfl
def Du:W (gs0 [] en) Qn=Qn en:=aC _ _
def Dt(fk fe:ME):W (eK i fk fe en) Qs=W (fe en) (sT i fk Qs):=aq _ _ _
def Ds(fk:ME)(t:D):sT i fk Qs (t,en)=W (gv en i) (ve i t fk en Qs):=by unfold sT gv;cases h:(en[i]?).join with|none=>simp only[h,bQ]|some x=>simp only[h,aC];exact aq _ _ _
theorem Dr(t:D)(fk:ME)(x:D):ve i t fk en Qs x=W (fk en) (mi i t Qs):=rfl
def Dq(t:D)(n:Int):mi i t Qs (.int n,en)=W (gv en i) (pM i t n en Qs):=by unfold mi gv;cases h:(en[i]?).join with|none=>simp only[h,bQ]|some x=>simp only[h,aC];cases x<;>first|rfl|exact(aC _ _).symm | (rw[aC];rfl) | (rw[aC];exact bQ _)
def Dp(t:D)(n:Int):pM i t n en Qs (.list ts)=W (iO ts n t) (wQ i en Qs):=by unfold pM iO wQ;dsimp only;rw[bE,bE]
theorem Do:wQ i en Qs ts=Qs (.nx (en.set i (some (.list ts)))):=rfl
def Dm(x0 t:D)(l:List D):iO (x0::l) 0 t=some (t::l):=pc 0 (by simp only[zac];omega)
def Dl(x0 x1 x2 t:D)(l:List D):iO (x0::x1::x2::l) 2 t=some (x0::x1::t::l):=pc 2 (by simp only[zac];omega)
def Dk:W (ac i en) Qe=W (gv en i) (jA en Qe):=bE _ _ _
theorem Dj(t:D):jA en Qe t=Qe (t,en):=rfl
def Di:W (eMv i en) Qe=W (gv en i) (kMv i en Qe):=bE _ _ _
theorem Dh(t:D):kMv i en Qe t=Qe (t,en.set i none):=rfl
def Dg(t:D):W (eC t en) Qe=Qe (t,en):=aC _ _
def De(g:D->Option D):W (e1 g f en) Qe=W (f en) (k1 g Qe):=(aq _ _ _).trans (congrArg _ (funext λz=>bE _ _ _))
theorem Dd(g:D->Option D)(t:D):k1 g Qe (t,en)=W (g t) (jA en Qe):=rfl
def Dc(g:D->D->Option D)(f1 f2:ME):W (e2 g f1 f2 en) Qe=W (f1 en) (k2 g f2 Qe):=(aq _ _ _).trans (congrArg _ (funext λz=>(aq _ _ _).trans (congrArg _ (funext λy=>bE _ _ _))))
theorem Db(g:D->D->Option D)(f2:ME)(t:D):k2 g f2 Qe (t,en)=W (f2 en) (k2b g t Qe):=rfl
theorem Da(g:D->D->Option D)(t u:D):k2b g t Qe (u,en)=W (g t u) (jA en Qe):=rfl
def C9(f g:ME):W (kt f g en) Qe=W (f en) (wU g Qe):=aq _ _ _
theorem C8(g:ME):wU g Qe (.bool true,en)=W (g en) Qe:=rfl
def C7(g:ME):wU g Qe (.bool false,en)=Qe (.bool false,en):=aC _ _
def C6(f g:ME):W (eOr f g en) Qe=W (f en) (kOr g Qe):=aq _ _ _
def C5(g:ME):kOr g Qe (.bool true,en)=Qe (.bool true,en):=aC _ _
theorem C4(g:ME):kOr g Qe (.bool false,en)=W (g en) Qe:=rfl
def C3:W (km f en) Qe=W (f en) (EW Qe):=aq _ _ _
def C2(x:Bool):EW Qe (.bool x,en)=Qe (.bool (!x),en):=aC _ _
def C1(f g:ME):W (eIf c f g en) Qe=W (c en) (kIf f g Qe):=aq _ _ _
def C0:W (tV f en) Qb=W (f en) (kTV Qb):=aq _ _ _
def CZ(x:Bool):kTV Qb (.bool x,en)=Qb (x,en):=aC _ _
def CY(f g:MT):W (dC f g en) Qb=W (f en) (tj g Qb):=aq _ _ _
theorem CW(g:MT):tj g Qb (true,en)=W (g en) Qb:=rfl
def CV(g:MT):tj g Qb (false,en)=Qb (false,en):=aC _ _
def CU(f g:MT):W (bOr f g en) Qb=W (f en) (wT g Qb):=aq _ _ _
def CT(g:MT):wT g Qb (true,en)=Qb (true,en):=aC _ _
theorem CQ(g:MT):wT g Qb (false,en)=W (g en) Qb:=rfl
def CP(f:MT):W (cc f en) Qb=W (f en) (AB Qb):=bE _ _ _
theorem CO(x:Bool):AB Qb (x,en)=Qb (!x,en):=rfl
def CN:W (cY en) Qb=Qb (true,en):=aC _ _
def CM:W (ai en) Qa=Qa ([],en):=aC _ _
def CL(r:MA):W (ab f r en) Qa=W (f en) (kAC r Qa):=(aq _ _ _).trans (congrArg _ (funext λz=>bE _ _ _))
theorem CK(r:MA)(t:D):kAC r Qa (t,en)=W (r en) (wW t Qa):=rfl
theorem CJ(t:D)(as:List (D ⊕ Nat)):wW t Qa (as,en)=Qa (.inl t::as,en):=rfl
def CI(r:MA):W (aX i r en) Qa=W (gv en i) (kAS i r en Qa):=(aq _ _ _).trans (congrArg _ (funext λz=>bE _ _ _))
theorem CH(r:MA)(t:D):kAS i r en Qa t=W (r en) (wV i Qa):=rfl
theorem CG(as:List (D ⊕ Nat)):wV i Qa (as,en)=Qa (.inr i::as,en):=rfl
theorem CF:vals []=some []:=rfl
def CD(t:D)(r:List (D ⊕ Nat)):W (vals (.inl t::r)) Qt=W (vals r) (mn t Qt):=bE _ _ _
theorem CC(t:D):mn t Qt ts=Qt (t::ts):=rfl
theorem CB:dD [] en=some []:=rfl
def CA(t:D)(r:List (D ⊕ Nat)):W (dD (.inl t::r) en) Qt=W (dD r en) (mn t Qt):=bE _ _ _
def Cz(r:List (D ⊕ Nat)):W (dD (.inr i::r) en) Qt=W (gv en i) (E4 r en Qt):=(aq _ _ _).trans (congrArg _ (funext λz=>bE _ _ _))
theorem Cy(t:D)(r:List (D ⊕ Nat)):E4 r en Qt t=W (dD r en) (mn t Qt):=rfl
theorem Cw(r:List (D ⊕ Nat))(o:Option D)(ψ:En):wb (.inr i::r) (o::ψ) en=wb r ψ (en.set i o):=rfl
theorem Cv(t:D)(r:List (D ⊕ Nat))(o:Option D)(ψ:En):wb (.inl t::r) (o::ψ) en=wb r ψ en:=rfl
theorem Cu(ψ:En):wb [] ψ en=en:=rfl
def Ct(g:List D->Option D):W (eN g fa en) Qe=W (fa en) (kN g Qe):=(aq _ _ _).trans (congrArg _ (funext λz=>(aq _ _ _).trans (congrArg _ (funext λy=>bE _ _ _))))
theorem Cs(g:List D->Option D)(as:List (D ⊕ Nat)):kN g Qe (as,en)=W (vals as) (kN2 g en Qe):=rfl
theorem Cr(g:List D->Option D):kN2 g en Qe ts=W (g ts) (jA en Qe):=rfl
def Cq:W (ba fa en) Qe=W (fa en) (EX Qe):=(aq _ _ _).trans (congrArg _ (funext λz=>aq _ _ _))
theorem Cp(as:List (D ⊕ Nat)):EX Qe (as,en)=W (vals as) (sV en Qe):=rfl
def Co:sV en Qe ts=(ts.length<=sizeLine/\Qe (.list ts,en)):=jO _ _ _
def Cn:W (bp fa en) Qe=W (fa en) (ET Qe):=(aq _ _ _).trans (congrArg _ (funext λz=>aq _ _ _))
theorem Cm(as:List (D ⊕ Nat)):ET Qe (as,en)=W (vals as) (sR en Qe):=rfl
def Cl:sR en Qe ts=(ts.length<=sizeLine/\Qe (.tuple ts,en)):=jO _ _ _
def Ck:(([]:List D).length<=sizeLine)=True:=eq_true (zau (by show 0<=100;decide) kY)
def Cj(x0:D):(([x0]:List D).length<=sizeLine)=True:=eq_true (zau (by show 1<=100;decide) kY)
def Ab(x0 x1:D):(([x0,x1]:List D).length<=sizeLine)=True:=eq_true (zau (by show 2<=100;decide) kY)
def Aa(x0 x1 x2:D):(([x0,x1,x2]:List D).length<=sizeLine)=True:=eq_true (zau (by show 3<=100;decide) kY)
def zZ(x0 x1 x2 x3:D):(([x0,x1,x2,x3]:List D).length<=sizeLine)=True:=eq_true (zau (by show 4<=100;decide) kY)
def zY(x0 x1 x2 x3 x4 x5 x6 x7:D):(([x0,x1,x2,x3,x4,x5,x6,x7]:List D).length<=sizeLine)=True:=eq_true (zau (by show 8<=100;decide) kY)
def zX(F:List D->Option (D×En)):W (am F fa en) Qe=W (fa en) (AA F Qe):=(aq _ _ _).trans (congrArg _ (funext λz=>(aq _ _ _).trans (congrArg _ (funext λy=>bE _ _ _))))
theorem zW(F:List D->Option (D×En))(as:List (D ⊕ Nat)):AA F Qe (as,en)=W (dD as en) (pO F as en Qe):=rfl
theorem zV(F:List D->Option (D×En))(as:List (D ⊕ Nat)):pO F as en Qe ts=W (F ts) (pN as en Qe):=rfl
theorem zU(as:List (D ⊕ Nat))(t:D)(ψ:En):pN as en Qe (t,ψ)=Qe (t,wb as ψ en):=rfl
def zT(q:Bool)(fi:MI)(js:List (Option Nat)):W (eLC q fi g c f js en) Qe=W (fi en) (kLC q g c f js Qe):=(aq _ _ _).trans (congrArg _ (funext λz=>bE _ _ _))
theorem zS(q:Bool)(js:List (Option Nat)):kLC q g c f js Qe (ts,en)=W (lcF g c f ts [] (dR js en)) (sX q js en Qe):=rfl
theorem zR(js:List (Option Nat))(us:List D)(ex:En):sX true js en Qe (us,ex)=Qe (.list us,en):=rfl
theorem zQ(js:List (Option Nat))(us:List D)(ex:En):sX false js en Qe (us,ex)=Qe (.list us,wbB js ex en):=rfl
theorem zP:dR [] en=[]:=rfl
theorem zO(j:Nat)(js:List (Option Nat)):dR (some j::js) en=gv en j::dR js en:=rfl
theorem zN(js:List (Option Nat)):dR (none::js) en=none::dR js en:=rfl
theorem zM(j:Nat)(js:List (Option Nat))(o:Option D)(ex:En):wbB (some j::js) (o::ex) en=wbB js ex (en.set j o):=rfl
theorem zL(js:List (Option Nat))(o:Option D)(ex:En):wbB (none::js) (o::ex) en=wbB js ex en:=rfl
theorem zK(ex:En):wbB [] ex en=en:=rfl
def zJ:W (lcF g c f [] acc en) Ql=Ql (acc,en):=aC _ _
def zI:W (eY f en) Ql=W (f en) (E6 Ql):=aq _ _ _
def zH:E6 Ql (.list ts,en)=Ql (ts,en):=aC _ _
def zG:W (cH fa en) Ql=W (fa en) (kR1 Ql):=aq _ _ _
def zF(j:Int):kR1 Ql ([.inl (.int j)],en)=((-(2 ^ 62)<=j/\j<2 ^ 62)/\Ql (eW 0 j.toNat,en)):=jO _ _ _
def zE:W (kj fa en) Ql=W (fa en) (kEn Ql):=aq _ _ _
def zC:kEn Ql ([.inl (.list ts)],en)=Ql (dP ts,en):=aC _ _
def zB:W (cI i f en) Qe=W (gv en i) (Ax i f en Qe):=(aq _ _ _).trans (congrArg _ (funext λz=>aq _ _ _))
theorem zA(x:D):Ax i f en Qe x=W (f en) (mf i Qe):=rfl
def zz(n:Int):mf i Qe (.int n,en)=W (gv en i) (u7 n en Qe):=by unfold mf gv;cases h:(en[i]?).join with|none=>simp only[h,bQ]|some x=>simp only[h,aC];cases x<;>first|rfl|exact(aC _ _).symm | (rw[aC];rfl) | (rw[aC];exact bQ _)
def zy(n:Int):u7 n en Qe (.list ts)=W (atI ts n) (jA en Qe):=bE _ _ _
def zx:W (eB i f en) Qe=W (gv en i) (E5 i f en Qe):=by unfold gv eB;cases(en[i]?).join with|none=>rw[bQ,bQ]|some x=>cases x<;>first|rfl|exact(aC _ _).symm | (rw[aC];rfl) | (rw[aC];exact bQ _)
def zw:E5 i f en Qe (.list ts)=W (f en) (tm i Qe):=aq _ _ _
def zv(t:D):tm i Qe (t,en)=W (gv en i) (AC i t en Qe):=by unfold tm gv;cases h:(en[i]?).join with|none=>simp only[h,bQ]|some x=>simp only[h,aC];cases x<;>first|rfl|exact(aC _ _).symm | (rw[aC];rfl) | (rw[aC];exact bQ _)
def zu(t:D):AC i t en Qe (.list ts)=(ts.length<sizeLine/\Qe (.none,en.set i (some (.list (ts++[t]))))):=jO _ _ _
def zt(g g2:D->D->Option D)(f1 f2 f3:ME):W (kq g g2 f1 f2 f3 en) Qe=W (f1 en) (kCh g g2 f2 f3 Qe):=(aq _ _ _).trans (congrArg _ (funext λz=>(aq _ _ _).trans (congrArg _ (funext λy=>aq _ _ _))))
theorem zr(g g2:D->D->Option D)(f2 f3:ME)(t:D):kCh g g2 f2 f3 Qe (t,en)=W (f2 en) (wS g g2 f3 t Qe):=rfl
theorem zq(g g2:D->D->Option D)(f3:ME)(t u:D):wS g g2 f3 t Qe (u,en)=W (g t u) (sZ g2 u f3 en Qe):=rfl
def zp(g:D->D->Option D)(u:D)(f3:ME):sZ g u f3 en Qe (.bool true)=W (f3 en) (k2b g u Qe):=(aq _ _ _).trans (congrArg _ (funext λz=>bE _ _ _))
def zo(g:D->D->Option D)(u:D)(f3:ME):sZ g u f3 en Qe (.bool false)=Qe (.bool false,en):=aC _ _
theorem zn(J:En->Prop):kIt J Qs (.nx en)=J en:=rfl
theorem zm(J:En->Prop):kIt J Qs (.ct en)=J en:=rfl
theorem zl(J:En->Prop)(t:D):kIt J Qs (.rt t en)=Qs (.rt t en):=rfl
theorem zh(b:MS)(J:En->Prop):kFg b J Qs en=W (b en) (kIt J Qs):=rfl
theorem zg(b:MS)(J:En->Prop):kWh b J Qs (true,en)=W (b en) (kIt J Qs):=rfl
theorem zd(b:MS)(J:En->Prop):kWh b J Qs (false,en)=Qs (.nx en):=rfl
theorem zc(us:List D)(J:List D->En->Prop):EY c f us J en=W (c en) (sW f us J):=rfl
theorem zb(us:List D)(J:List D->En->Prop):sW f us J (true,en)=W (f en) (wR us J):=rfl
theorem y9(us:List D)(J:List D->En->Prop):sW f us J (false,en)=J us en:=rfl
theorem y6(us:List D)(J:List D->En->Prop)(t:D):wR us J (t,en)=J (us++[t]) en:=rfl
def y4(n:Nat)(dps:List Nat)(b:MS):W (fnF n dps b ts) Qe=W (b (ts.map some++List.replicate n none)) (kFn dps Qe):=aq _ _ _
def y3(dps:List Nat)(t:D):kFn dps Qe (.rt t en)=Qe (t,msk dps en):=aC _ _
def yZ(dps:List Nat):kFn dps Qe (.nx en)=Qe (.none,msk dps en):=aC _ _
theorem yY(d:Nat)(ds:List Nat)(o:Option D):msk ((d+1)::ds) (o::en)=o::msk ds en:=rfl
theorem yX(ds:List Nat)(o:Option D):msk (0::ds) (o::en)=none::msk ds en:=rfl
theorem yW:msk [] en=[]:=rfl
theorem yV(t:D):List.map some (t::ts)=some t::List.map some ts:=rfl
theorem yU:List.map (some:D->Option D) []=[]:=rfl
theorem yT(a:Option D)(l m:En):(a::l)++m=a::(l++m):=rfl
theorem yS(m:En):([]:En)++m=m:=rfl
theorem yR(a:Option D):List.replicate 0 a=[]:=rfl
theorem yQ(a:Option D)(n:Nat):List.replicate (n+1) a=a::List.replicate n a:=rfl
theorem yP(a b:Int):br (.int a) (.int b)=some (.int (a+b)):=rfl
theorem yO(a b:Int):mW (.int a) (.int b)=some (.int (a-b)):=rfl
def yN(a b:Int):W (cy (.int a) (.int b)) Qd=(CMul a b/\Qd (.int (a*b))):=jO _ _ _
def yM(a b:Int):W (iA (.int a) (.int b)) Qd=(nC a b/\Qd (.int (a / b))):=jO _ _ _
def yL(a b:Int):W (bO (.int a) (.int b)) Qd=(0<b/\Qd (.int (a % b))):=jO _ _ _
def yK(a b:Int):W (mZ (.int a) (.int b)) Qd=(kO a b/\Qd (.int (a ^ b.toNat))):=jO _ _ _
theorem yJ(a b:Int):ltI (.int a) (.int b)=some (.bool (decide (a<b))):=rfl
theorem yI(a b:Int):leI (.int a) (.int b)=some (.bool (decide (a<=b))):=rfl
theorem yH(a b:Int):gtI (.int a) (.int b)=some (.bool (decide (b<a))):=rfl
theorem yG(a b:Int):geI (.int a) (.int b)=some (.bool (decide (b<=a))):=rfl
def yF(a b:Int):eqD (.int a) (.int b)=some (.bool (decide (a=b))):=(FG a b).trans (congrArg (λq=>some (PyData.bool q)) (rK a b))
def yE(a b:Int):neD (.int a) (.int b)=some (.bool (!decide (a=b))):=(EC a b).trans (congrArg (λq=>some (PyData.bool (!q))) (rK a b))
theorem yD:isN .none .none=some (.bool true):=rfl
theorem yC:fX .none .none=some (.bool false):=rfl
theorem yB(x:Int):isN (.int x) .none=some (.bool false):=rfl
theorem yA(x:Int):fX (.int x) .none=some (.bool true):=rfl
theorem yz(x:Bool):isN (.bool x) .none=some (.bool false):=rfl
theorem yy(x:Str):isN (.str x) .none=some (.bool false):=rfl
theorem yx(x:List D):isN (.list x) .none=some (.bool false):=rfl
theorem yw(x:List D):isN (.tuple x) .none=some (.bool false):=rfl
theorem yv(x:List D):fX (.tuple x) .none=some (.bool true):=rfl
theorem yu(x:List (D×D)):isN (.dict x) .none=some (.bool false):=rfl
def yt:bG "tuple" (.none)=some (.bool false):=(if_neg (λz=>nomatch z)).trans (congrArg (λb=>some (PyData.bool b)) (show cT "NoneType" "tuple"=false by decide))
def yr(x:Int):bG "int" (.int x)=some (.bool true):=(if_neg (λz=>nomatch z)).trans (congrArg (λb=>some (PyData.bool b)) (show cT "int" "int"=true by decide))
def yq(x:Int):bG "bool" (.int x)=some (.bool false):=(if_neg (λz=>nomatch z)).trans (congrArg (λb=>some (PyData.bool b)) (show cT "int" "bool"=false by decide))
def yo(x:Int):bG "tuple" (.int x)=some (.bool false):=(if_neg (λz=>nomatch z)).trans (congrArg (λb=>some (PyData.bool b)) (show cT "int" "tuple"=false by decide))
def yn(x:Bool):bG "int" (.bool x)=some (.bool true):=(if_neg (λz=>nomatch z)).trans (congrArg (λb=>some (PyData.bool b)) (show cT "bool" "int"=true by decide))
def ym(x:Bool):bG "bool" (.bool x)=some (.bool true):=(if_neg (λz=>nomatch z)).trans (congrArg (λb=>some (PyData.bool b)) (show cT "bool" "bool"=true by decide))
def yk(x:Bool):bG "tuple" (.bool x)=some (.bool false):=(if_neg (λz=>nomatch z)).trans (congrArg (λb=>some (PyData.bool b)) (show cT "bool" "tuple"=false by decide))
def yj(x:Str):bG "int" (.str x)=some (.bool false):=(if_neg (λz=>nomatch z)).trans (congrArg (λb=>some (PyData.bool b)) (show cT "str" "int"=false by decide))
def yi(x:Str):bG "tuple" (.str x)=some (.bool false):=(if_neg (λz=>nomatch z)).trans (congrArg (λb=>some (PyData.bool b)) (show cT "str" "tuple"=false by decide))
def yh(x:List D):bG "int" (.list x)=some (.bool false):=(if_neg (λz=>nomatch z)).trans (congrArg (λb=>some (PyData.bool b)) (show cT "list" "int"=false by decide))
def yg(x:List D):bG "list" (.list x)=some (.bool true):=(if_neg (λz=>nomatch z)).trans (congrArg (λb=>some (PyData.bool b)) (show cT "list" "list"=true by decide))
def yf(x:List D):bG "tuple" (.list x)=some (.bool false):=(if_neg (λz=>nomatch z)).trans (congrArg (λb=>some (PyData.bool b)) (show cT "list" "tuple"=false by decide))
def ye(x:List D):bG "int" (.tuple x)=some (.bool false):=(if_neg (λz=>nomatch z)).trans (congrArg (λb=>some (PyData.bool b)) (show cT "tuple" "int"=false by decide))
def yd(x:List D):bG "tuple" (.tuple x)=some (.bool true):=(if_neg (λz=>nomatch z)).trans (congrArg (λb=>some (PyData.bool b)) (show cT "tuple" "tuple"=true by decide))
theorem yc(x0 x1:D):((([x0,x1]:List D).length:Nat):Int)=2:=rfl
def yb(α β:Type)(f:α->β)(l:List α):(l.map f).length=l.length:=zad f
theorem ya:bf [.list ts]=some (.int ts.length):=rfl
theorem xZ:bf [.tuple ts]=some (.int ts.length):=rfl
theorem xY:oJ [.list ts]=some (.list ts):=rfl
theorem xX(n:Int):ixA (.list ts) (.int n)=atI ts n:=rfl
theorem xW(n:Int):ixA (.tuple ts) (.int n)=atI ts n:=rfl
def xV(ts us:List D):W (tS (.list ts) (.list us)) Qd=(ts.length+us.length<=sizeLine/\Qd (.list (ts++us))):=jO _ _ _
def xU:atI ts 0=ts[0]?:=c8 ts _
def xT:atI ts 1=ts[1]?:=c8 ts _
def xS:atI ts 2=ts[2]?:=c8 ts _
theorem xR(t:D):(t::ts)[0]?=some t:=rfl
def xQ(t:D):(t::ts)[i+1]?=ts[i]?:=za5
def xP(a b:Str):neD (.str a) (.str b)=some (.bool (!decide (a=b))):=EB a b
theorem xO:(!true)=false:=rfl
theorem xN:(!false)=true:=rfl
def xM(p:Prop):(True/\p)=p:=true_and p
def xL(p:Prop):(p/\True)=p:=and_true p
def xK(_:Decidable True):decide True=true:=zaB trivial
def xJ(_:Decidable False):decide False=false:=zaA (λz=>z)
end
def zzI{a b:Prop}(x:a)(y:b):a/\b:=⟨x,y⟩
def Ci:=zzI @ws0 (zzI @ws1 (zzI @ws2 (zzI @ws3 (zzI @ws4 (zzI @ws5 (zzI @ws6 (zzI @ws7 (zzI @ws8 (zzI @ws9 (zzI @DS (zzI @DR (zzI @DQ (zzI @DP (zzI @DN (zzI @DM (zzI @DL (zzI @DK (zzI @DJ (zzI @DI (zzI @DH (zzI @DG (zzI @DF (zzI @DE (zzI @DD (zzI @DC (zzI @DB (zzI @DA (zzI @Dz (zzI @Dy (zzI @Dx (zzI @Dw (zzI @Dv (zzI @Du (zzI @Dt (zzI @Ds (zzI @Dr (zzI @Dq (zzI @Dp @Do))))))))))))))))))))))))))))))))))))))
def Ch:=zzI @Dm (zzI @Dl (zzI @Dk (zzI @Dj (zzI @Di (zzI @Dh (zzI @Dg (zzI @De (zzI @Dd (zzI @Dc (zzI @Db (zzI @Da (zzI @C9 (zzI @C8 (zzI @C7 (zzI @C6 (zzI @C5 (zzI @C4 (zzI @C3 (zzI @C2 (zzI @C1 (zzI @C0 (zzI @CZ (zzI @CY (zzI @CW (zzI @CV (zzI @CU (zzI @CT (zzI @CQ (zzI @CP (zzI @CO (zzI @CN (zzI @CM (zzI @CL (zzI @CK (zzI @CJ (zzI @CI (zzI @CH (zzI @CG @CF))))))))))))))))))))))))))))))))))))))
def Cg:=zzI @CD (zzI @CC (zzI @CB (zzI @CA (zzI @Cz (zzI @Cy (zzI @Cw (zzI @Cv (zzI @Cu (zzI @Ct (zzI @Cs (zzI @Cr (zzI @Cq (zzI @Cp (zzI @Co (zzI @Cn (zzI @Cm (zzI @Cl (zzI @Ck (zzI @Cj (zzI @Ab (zzI @Aa (zzI @zZ (zzI @zY (zzI @zX (zzI @zW (zzI @zV (zzI @zU (zzI @zT (zzI @zS (zzI @zR (zzI @zQ (zzI @zP (zzI @zO (zzI @zN (zzI @zM (zzI @zL (zzI @zK (zzI @zJ @zI))))))))))))))))))))))))))))))))))))))
def Cf:=zzI @zH (zzI @zG (zzI @zF (zzI @zE (zzI @zC (zzI @zB (zzI @zA (zzI @zz (zzI @zy (zzI @zx (zzI @zw (zzI @zv (zzI @zu (zzI @zt (zzI @zr (zzI @zq (zzI @zp (zzI @zo (zzI @zn (zzI @zm (zzI @zl (zzI @zh (zzI @zg (zzI @zd (zzI @zc (zzI @zb (zzI @y9 (zzI @y6 (zzI @y4 (zzI @y3 (zzI @yZ (zzI @yY (zzI @yX (zzI @yW (zzI @yV (zzI @yU (zzI @yT (zzI @yS (zzI @yR @yQ))))))))))))))))))))))))))))))))))))))
def Ce:=zzI @yP (zzI @yO (zzI @yN (zzI @yM (zzI @yL (zzI @yK (zzI @yJ (zzI @yI (zzI @yH (zzI @yG (zzI @yF (zzI @yE (zzI @yD (zzI @yC (zzI @yB (zzI @yA (zzI @yz (zzI @yy (zzI @yx (zzI @yw (zzI @yv (zzI @yu (zzI @yt (zzI @yr (zzI @yq (zzI @yo (zzI @yn (zzI @ym (zzI @yk (zzI @yj (zzI @yi (zzI @yh (zzI @yg (zzI @yf (zzI @ye (zzI @yd (zzI @yc (zzI @yb (zzI @ya @xZ))))))))))))))))))))))))))))))))))))))
def Cd:=zzI @xY (zzI @xX (zzI @xW (zzI @xV (zzI @xU (zzI @xT (zzI @xS (zzI @xR (zzI @xQ (zzI @xP (zzI @xO (zzI @xN (zzI @xM (zzI @xL (zzI @xK @xJ))))))))))))))
def ws:=zzI @Ci (zzI @Ch (zzI @Cg (zzI @Cf (zzI @Ce @Cd))))
end L2
namespace L2
namespace Pen3
open PySem L2
def sl1000:1000<=sizeLine:=by rw[sizeLine_eq];decide
end Pen3
end L2
namespace L2
variable{g:MG}{b:MS}{ts:List D}{en:En}{Q:List D×En->Prop}{c:MT}{f:ME}{n:Nat}{i:Int}
open PySem PySem.Spec PyProof.Rows
def dS{Q:Fl->Prop}(I:Nat->En->Prop)(h0:I 0 en)
  (hs:∀i t en,ts[i]?=some t->I i en->W (g t en) (kFg b (I (i+1)) Q)) (hq:∀en,I ts.length en->Q (.nx en)):W (cA g b ts en) Q:=by
 suffices ∀(us:List D) (i:Nat) (en:En),ts.drop i=us->i<=ts.length->I i en->W (cA g b us en) Q from this ts 0 en rfl (zbj _) h0
 intro us
 induction us with
 |nil=>
  intro i en hu hi h
  have:ts.length-i=0:=by rw[<-zaF,hu];rfl
  simp only[ws];exact hq en (by rw[show ts.length=i by lia];exact h)
 |cons t us ih=>
  intro i en hu hi h;have ht:ts[i]?=some t:=by
   have:(ts.drop i)[0]?=some t:=by rw[hu];rfl
   rw[zbD]at this;exact this
  have hl:i<ts.length:=(zah.mp ht).1;have hd:ts.drop (i+1)=us:=by rw[<-List.drop_drop,hu];rfl
  simp only[ws];refine(hs i t en ht h).use λen1 h1=>?_;simp only[ws]at h1 ⊢;refine h1.use λfl h2=>?_;cases fl with
  |nx e=>simp only[ws]at h2 ⊢;exact ih (i+1) e hd hl h2
  |ct e=>simp only[ws]at h2 ⊢;exact ih (i+1) e hd hl h2
  |rt t e=>simp only[ws]at h2 ⊢;exact h2
def tU(I:Nat->List D->En->Prop)(hz:ts.length<=sizeLine)(h0:I 0 [] en)
  (hs:∀i t us en,ts[i]?=some t->us.length<=i->I i us en->W (g t en) (EY c f us (I (i+1)))) (hq:∀us en,us.length<=ts.length->I ts.length us en->Q (us,en)):W (lcF g c f ts [] en) Q:=by
 suffices ∀(vs:List D) (i:Nat) (us:List D) (en:En),ts.drop i=vs->i<=ts.length->us.length<=i->I i us en->W (lcF g c f vs us en) Q from this ts 0 [] en rfl (zbj _) (zbj _) h0
 intro vs
 induction vs with
 |nil=>
  intro i us en hu hi hl h
  have:ts.length-i=0:=by rw[<-zaF,hu];rfl
  simp only[ws];exact hq us en (by lia) (by rw[show ts.length=i by lia];exact h)
 |cons t vs ih=>
  intro i us en hu hi hl h;have ht:ts[i]?=some t:=by
   have:(ts.drop i)[0]?=some t:=by rw[hu];rfl
   rw[zbD]at this;exact this
  have hlt:i<ts.length:=(zah.mp ht).1;have hd:ts.drop (i+1)=vs:=by rw[<-List.drop_drop,hu];rfl
  unfold lcF;rw[aq];refine(hs i t us en ht hl h).use λen1 h1=>?_;simp only[ws]at h1;rw[aq];refine h1.use λr h2=>?_;obtain⟨x,en2⟩:=r;cases x with
  |true=>
   simp only[ws]at h2;show W ((f en2).bind _) Q;rw[aq];refine h2.use λq h3=>?_;obtain⟨u,en3⟩:=q;simp only[ws]at h3;show W (if us.length<sizeLine then _ else _) Q;rw[if_pos (by lia)];exact ih (i+1) _ _ hd hlt (by rw[zae];show _+1<=_;lia) h3
  |false=>
   simp only[ws]at h2;exact ih (i+1) _ _ hd hlt (by lia) h2
def lm{Q:Fl->Prop}(I:Nat->En->Prop)(hs:∀n en,I n en->W (c en) (kWh b (λe=>∃m,m<n/\I m e) Q))(h0:I n en):W (cw c b en) Q:=by
 induction n using Nat.strongRecOn generalizing en with
 |_ n ih=>
  obtain⟨⟨x,en1⟩,e1,h1⟩:=(hs n en h0).ex;cases x with
  |false=>simp only[ws]at h1;exact W.of (qv e1) h1
  |true=>
   simp only[ws]at h1;obtain⟨fl,e2,h2⟩:=h1.ex;cases fl with
   |nx e=>
    obtain⟨m,hm,hi⟩:∃m,m<n/\I m e:=h2;obtain⟨fl,e3,h3⟩:=(ih m hm hi).ex;exact W.of (qw e1 e2 e3) h3
   |ct e=>
    obtain⟨m,hm,hi⟩:∃m,m<n/\I m e:=h2;obtain⟨fl,e3,h3⟩:=(ih m hm hi).ex;obtain⟨k,h4⟩:=iP e3;refine W.of (iw (n:=k+1) ?_) h3;unfold whN;rw[e1];show(b en1).bind _=_;rw[e2];exact h4
   |rt t e=>
    refine W.of (iw (n:=1) ?_) (show Q (.rt t e)from h2);unfold whN;rw[e1];show(b en1).bind _=_;rw[e2];rfl
def mH{o:Option D}{rest:En}(F:D->D)(hz:ts.length<=sizeLine)(hf:∀t∈ts,W (f (some t::rest)) (λr=>r=(F t,some t::rest)))(hq:∀o',Q (ts.map F,o'::rest)):W (lcF (gN 0) cY f ts [] (o::rest)) Q:=by
 obtain⟨o',e⟩:=Br (f:=f) (F:=F) (rest:=rest) ts [] o (λt ht=>by
  obtain⟨r,e,h⟩:=(hf t ht).ex;rw[e,h]) (by simpa using hz)
 exact W.of e (hq o')
def fh{k:Nat}{t:D}(h:(eW i n)[k]?=some t):k<n/\t=.int (i+(k:Nat)):=by
 unfold eW at h;rw[zao]at h;obtain⟨j,hj,rfl⟩:=zab.mp h;obtain⟨hl,e⟩:=zah.mp hj;rw[List.getElem_range]at e;rw[zbe]at hl;exact⟨hl,by rw[e]⟩
def ff(i:Int)(n:Nat):(eW i n).length=n:=by unfold eW;rw[zad,zbe]
def sz(h:n<=1000):n<=sizeLine:=zau h Pen3.sl1000
def AN{α:Type}{ts:List α}{x:α}(h0:0<=i)(h:ts[i.toNat]?=some x):atI ts i=some x:=by
 obtain⟨n,rfl⟩:=Int.eq_ofNat_of_zero_le h0;rw[c8];exact h
end L2
set_option maxHeartbeats 1000000
namespace L2
variable{i:Nat}{fk fe:ME}{en:En}{Q:List Nat×En->Prop}{mp:MP}
open PySem PySem.Spec PyProof.Rows
def F8{Q:Fl->Prop}(h:W (fe en) (λr=>(∃u,(r.2[i]?).join=some u)/\W (fk r.2) (λq=>∃ks,(q.2[i]?).join=some (.dict ks)/\(kOf q.1).isSome=true/\ks.length<sizeLine/\Q (.nx (q.2.set i (some (.dict (iU ks q.1 r.1)))))))):W (gQ i fk fe en) Q:=by
 unfold gQ;rw[aq];refine W.use h ?_;rintro r ⟨⟨u,hu⟩,h2⟩;rw[hu];show W ((fk r.2).bind _) Q;rw[aq];refine W.use h2 ?_;rintro q ⟨ks,h3,h4,h5,h6⟩;rw[h3];show W ((kOf q.1).bind _) Q;obtain⟨k,hk⟩:=Option.isSome_iff_exists.mp h4;rw[hk];show W (if ks.length<sizeLine then _ else none) Q;rw[if_pos h5];exact⟨_,rfl,h6⟩
def AO{f:ME}(h:W (mp en) (λr=>W (f r.2) (λq=>∃n t ts k,q.1=.int n/\(q.2[i]?).join=some t/\(bB t r.1=some (.list ts)\/bB t r.1=some (.tuple ts))/\ixN ts.length n=some k/\k<ts.length/\Q (r.1++[k],q.2)))):W (pIx i mp f en) Q:=by
 unfold pIx;rw[aq];refine W.use h λr h2=>?_;rw[aq];refine W.use h2 ?_;rintro q ⟨n,t,ts,k,h3,h4,h5,h6,h7,h8⟩;rw[h3,h4];show W ((bB t r.1).bind _) Q;rcases h5 with h5|h5<;>rw[h5]<;>show W ((ixN ts.length n).bind _) Q<;>rw[h6]<;>show W (if k<ts.length then _ else none) Q<;>rw[if_pos h7]<;>exact⟨_,rfl,h8⟩
def vS{t:D}(h:(en[i]?).join=some t)(hq:Q ([],en)):W (lM i en) Q:=by
 unfold lM;rw[h];exact⟨_,rfl,hq⟩
def FX{Q:Fl->Prop}(h:W (fe en) (λr=>W (mp r.2) (λw=>W (fk w.2) (λq=>∃n t ts k,q.1=.int n/\(q.2[i]?).join=some t/\bB t w.1=some (.list ts)/\ixN ts.length n=some k/\Q (.nx (q.2.set i (some (bY t w.1 (.list (ts.set k r.1)))))))))):W (jp i mp fk fe en) Q:=by
 unfold jp;rw[aq];refine W.use h λr h1=>?_;rw[aq];refine W.use h1 λw h2=>?_;rw[aq];refine W.use h2 ?_;rintro q ⟨n,t,ts,k,e1,e2,e3,e4,hq⟩;rw[e1,e2];show W ((bB t w.1).bind _) Q;rw[e3];show W ((ixN ts.length n).map _) Q;rw[e4];exact⟨_,rfl,hq⟩
def Hc{kp:Bool}{ks:List (D×D)}{Q:List D×En->Prop}(h:(en[i]?).join=some (.dict ks))(hq:Q (kys ks,if kp then en else en.set i none)):W (iDk kp i en) Q:=by
 unfold iDk;rw[h];exact⟨_,rfl,hq⟩
end L2
set_option maxHeartbeats 4000000
namespace Mch
variable{n:Nat}
open PySem L2 Pen2
def fQ:MS:=(aj (aw 4 (am fK (aX 0 (ab (e2 br (ac 2) (eC (.int 1))) ai))))
 (aj (sIf (bOr (tV (e2 eqD (ac 4) (ac 2))) (dC (tV (e2 eqD (ac 3) (eC (.int 1)))) (tV (e2 leI (ac 4) (ac 1))))) (az (eC .none)) aQ)
 (az (ac 4))))
def bF:List D->Option (D×En):=fnF 1 [1,0,0,0] fQ
def da:MS:=(aj (aw 3 (e2 br (eC (.int 1)) (am fK (aX 0 (ab (ac 2) ai)))))
 (aj (aw 4 (am fK (aX 0 (ab (eC (.int 4)) ai))))
 (aj (aw 5 (e2 br (eC (.int 1)) (am fK (aX 0 (ab (ac 3) ai)))))
 (aj (aw 6 (ba ai))
 (aj (aw 7 (ba ai))
 (aj (dg (cH (ab (ac 3) ai)) (gN 8) (aj (dw (eB 6 (e2 eqD (am fK (aX 0 (ab (eC (.int 3)) ai))) (eC (.int 0)))))
 (aj (aw 9 (eLC false (cH (ab (ac 1) ai)) (gN 0) cY (am bF (aX 1 (ab (ac 4) (ab (ac 2) (ab (ac 3) ai))))) [none,some 0,some 3,some 4,some 8]))
 (aj (sIf (dC (tV (e2 eqD (ac 4) (eC (.int 2)))) (tV (e2 ltI (ac 8) (ac 5)))) (aj (eK 6 (ac 8) (eC (.bool false)))
 (aw 9 (eLC true (eY (ac 9)) (gN 0) cY (e2 ixA (ba (ab (ac 0) (ab (eC .none) ai))) (eN Hv (ab (eOr (e2 isN (ac 0) (eC .none)) (e2 geI (ac 0) (ac 1))) ai))) [none,some 5]))) aQ)
 (dw (eB 7 (ac 9)))))))
 (az (bp (ab (ac 6) (ab (ac 7) ai))))))))))
def bA:List D->Option (D×En):=fnF 7 [1,0,0] da
noncomputable def goD:Option Nat->D
 |none=>.none
 |some j=>.int j
def aS(r:List (Option Nat)):D:=.list (r.map goD)
def Bz{j:Int}(h0:0<=j)(h1:j<n):ixN n j=some j.toNat:=by
 unfold ixN;rw[if_pos h0,if_pos h1]
def rJ{i:Nat}(h:i<n):ixN n (i:Int)=some i:=by
 have e:=Bz (n:=n) (j:=(i:Int)) (Int.natCast_nonneg i) (Int.ofNat_lt.mpr h);rw[zaL]at e;exact e
noncomputable def Hm(v:List Int):D->Option Int
 |.int j=>some (v.getD j.toNat 0)
 |_=>none
def rsD(v:List Int):D->Int
 |.list xs=>(xs.filterMap (Hm v)).sum
 |_=>0
def nxt(gs:List (List (Option Nat)))(v:List Int):List Int:=gs.map λr=>rsD v (aS r)
noncomputable def base(es:List Bool):List Int:=es.map λb=>if b then 1 else 0
def it(gs:List (List (Option Nat)))(v:List Int):Nat->List Int
 |0=>v
 |n+1=>nxt gs (it gs v n)
def inF:ME:=eN Hj (ab (eLC true (eY (ac 0)) (gN 0) (tV (e2 fX (ac 0) (eC .none))) (e2 ixA (ac 1) (ac 0)) [none,some 1]) ai)
end Mch
set_option maxHeartbeats 1000000
namespace W35
variable{i n w s a m N:Nat}{es:List Bool}{x:Option Nat}{fk fe f:ME}{en:En}{t:D}{o x2:Option D}{Q:D×En->Prop}{z:Int}
open PySem L2 Mch
def gm{α β:Type}{f:α->β}{l:List α}{t:β}(h:(l.map f)[i]?=some t):∃a,l[i]?=some a/\f a=t:=by
 rw[zao]at h;exact zab.mp h
def tk{α:Type}{l:List α}{s:α}(h:l[i]?=some s):l.take (i+1)=l.take i++[s]:=by
 rw[List.take_succ,h];rfl
def _root_.L2.W.ue{α:Type}{x:Option α}{a:α}{Q:α->Prop}(h:W x λr=>r=a)(k:Q a):W x Q:=h.use λ_ e=>by
 rw[e];exact k
abbrev Gr:=List (List (Option Nat))
variable{G H:Gr}
def mD(es:List Bool)(G:Gr):D:=.tuple [.list (es.map .bool),.list (G.map aS)]
def szB(h:n<=100000):n<=sizeLine:=zau h (by decide)
def eV(h:n<100000):n<sizeLine:=zag h (by decide)
noncomputable def led(G:Gr)(s i:Nat):Option Nat:=((G[s]?).bind (·[i]?)).join
structure Mx(w:Nat)(es:List Bool)(G:Gr):Prop where
 n1:1<=G.length
 n:G.length<=100
 w12:w<=12
 le:es.length=G.length
 w:∀r∈G,r.length=w
 lt:∀r∈G,∀k,some k∈r->k<G.length
noncomputable def jK(es:List Bool)(s:Nat):Bool:=es.getD s false
def a9(es:List Bool):Option Nat->Bool
 |none=>false
 |some s=>jK es s
def ca(G:Gr):Option Nat->Nat->Option Nat
 |none,_=>none
 |some s,a=>led G s a
abbrev Pr:=Option Nat×Option Nat
variable{p:Pr}{ps S ks:List Pr}{C:Pr->Prop}
def InM(n m:Nat)(p:Pr):Prop:=(∀k,p.1=some k->k<n)/\∀k,p.2=some k->k<m
theorem vQ(M:Mx w es G)(hs:s<G.length)(ha:a<w):∃r,G[s]?=some r/\atI (G.map aS) (s:Int)=some (.list (r.map goD))/\atI (r.map goD) (a:Int)=some (goD (led G s a)):=by
 obtain⟨r,hr⟩:∃r,G[s]?=some r:=⟨_,zak hs⟩;have rl:=M.w r (zaX hr);obtain⟨x,hx⟩:∃x,r[a]?=some x:=⟨_,zak (by lia)⟩;refine⟨r,hr,by rw[c8,zao,hr];rfl,?_⟩;rw[c8,zao,hx,led,hr];show some (goD x)=some (goD ((r[a]?).join));rw[hx];rfl
theorem pJ(M:Mx w es G){k:Nat}(h:led G s a=some k):k<G.length:=by
 unfold led at h;cases hr:G[s]? with
 |none=>rw[hr]at h;cases h
 |some r=>
  rw[hr]at h;have h':(r[a]?).join=some k:=h;cases hx:r[a]? with
  |none=>rw[hx]at h';cases h'
  |some x=>
   rw[hx]at h'
   have:x=some k:=h';exact M.lt r (zaX hr) k (this▸zaX hx)
theorem qo(M:Mx w es G)(hs:s<G.length):atI (es.map PyData.bool) (s:Int)=some (.bool (jK es s)):=by
 have:=M.le;rw[c8,zao,zak (by lia),jK,zbh,zak (by lia)];rfl
theorem u4(M:Mx w es G)(hx:∀k,x=some k->k<G.length)(ha:a<w):W (kM [mD es G,goD x,.int (a:Int)]) (λr=>r=(goD (ca G x a),[none,none,none])):=by
 cases x with
 |none=>simp only[ws,kM,ub,mD,goD,ca]
 |some s=>
  obtain⟨r,_,e1,e2⟩:=vQ M (hx s rfl) ha;simp only[ws,kM,ub,mD,goD,e1,e2,ca]
theorem k5(M:Mx w es G)(hx:∀k,x=some k->k<G.length)(ha:a<w):W (bJ [mD es G,goD x,.int (a:Int)]) (λr=>r=(goD (ca G x a),[none,none,none])):=by
 cases x with
 |none=>simp only[ws,bJ,iJ,mD,goD,ca]
 |some s=>
  obtain⟨r,_,e1,e2⟩:=vQ M (hx s rfl) ha;simp only[ws,bJ,iJ,mD,goD,e1,e2,ca]
theorem pR(M:Mx w es G)(hx:∀k,x=some k->k<G.length):W (fq [mD es G,goD x]) (λr=>r=(.bool (a9 es x),[none,none])):=by
 cases x with
 |none=>simp only[ws,fq,lq,mD,goD,a9]
 |some s=>
  have e:=qo M (hx s rfl);simp only[ws,fq,lq,mD,goD,e,a9]
theorem ix(M:Mx w es G)(hx:∀k,x=some k->k<G.length):W (a7 [mD es G,goD x]) (λr=>r=(.bool (a9 es x),[none,none])):=by
 cases x with
 |none=>simp only[ws,a7,fP,mD,goD,a9]
 |some s=>
  have e:=qo M (hx s rfl);simp only[ws,a7,fP,mD,goD,e,a9]
theorem l5(M:Mx w es G):∃r:List (Option Nat),(G.map aS)[0]?=some (.list (r.map goD))/\r.length=w:=by
 obtain⟨r,hr⟩:∃r,G[0]?=some r:=⟨_,zak M.n1⟩;exact⟨r,by rw[zao,hr];rfl,M.w r (zaX hr)⟩
theorem Bn(M:Mx w es G):W (bM [mD es G]) (λr=>r=(.int (w:Int),[none])):=by
 obtain⟨r,e,rl⟩:=l5 M;simp only[ws,bM,fO,mD,e,rl]
def prD(p:Pr):D:=.tuple [goD p.1,goD p.2]
def nxP(G H:Gr)(p:Pr)(a:Nat):Pr:=(ca G p.1 a,ca H p.2 a)
def nxD(G H:Gr)(p:Pr):D->D
 |.int z=>prD (nxP G H p z.toNat)
 |_=>.none
theorem xF{e1 e2:List Bool}(M:Mx w e1 G)(N:Mx w e2 H)(hp:InM G.length H.length p):W (cM [mD e1 G,mD e2 H,prD p]) (λr=>r=(.list ((List.range w).map λa=>prD (nxP G H p a)),[none,none,none])):=by
 have w12:=M.w12;simp only[ws,cM,iq];refine W.ue (Bn M) ?_;simp only[ws,zaL];refine⟨⟨by lia,by lia⟩,?_⟩;refine mH (nxD G H p) (by rw[ff];exact szB (by lia)) (λt ht=>?_) λo=>?_
 .obtain⟨i,h2⟩:=zbq ht;obtain⟨hi,rfl⟩:=fh h2;rw[zbK];simp only[ws,ji,prD];refine W.ue (u4 M hp.1 hi) ?_;simp only[ws];refine W.ue (u4 N hp.2 hi) ?_;simp only[ws,nxD,zaL];rfl
 .have e:List.map (nxD G H p) (eW 0 w)=(List.range w).map λa=>prD (nxP G H p a):=by
   unfold eW;rw[zaR];exact zbw λa _=>by show prD (nxP G H p (0+(a:Int)).toNat)=_;rw[zbK];rfl
  rw[e];simp only[ws]
noncomputable def okO(x:Option Nat):Option Key:=x.map λk=>.inl (k:Int)
def aW(p:Pr):List (Option Key):=[okO p.1,okO p.2]
theorem Aq(x:Option Nat):oD (okO x)=goD x:=by cases x<;>rfl
theorem gY(p:Pr):prD p=.tuple ((aW p).map oD):=by
 show PyData.tuple [goD p.1,goD p.2]=.tuple [oD (okO p.1),oD (okO p.2)];rw[Aq,Aq]
theorem rh{y:Option Nat}(h:okO x=okO y):x=y:=by
 cases x<;>cases y
 .rfl
 .cases h
 .cases h
 .have:(Sum.inl _:Key)=Sum.inl _:=zat h
  have:=Int.ofNat.inj (Sum.inl.inj this);rw[this]
theorem lR{q:Pr}(h:aW p=aW q):p=q:=by
 obtain⟨a,b⟩:=p;obtain⟨c,d⟩:=q;injection h with h1 h2
 injection h2 with h2 _
 exact Prod.ext (rh h1) (rh h2)
def mkT(ps:List Pr):TKs:=ps.map λp=>(aW p,.bool true)
theorem EE(ps:List Pr):((mkT ps).all λq=>scaD q.2)=true:=by
 unfold mkT;rw[List.all_map,List.all_eq_true];intro p _;rfl
theorem uU(ps:List Pr)(p:Pr):((mkT ps).any λq=>decide (q.1=aW p))=decide (p∈ps):=by
 unfold mkT;rw[List.any_map,Bool.eq_iff_iff,List.any_eq_true,zbi];constructor
 .rintro⟨q,hq,h⟩;rw[<-lR (of_decide_eq_true h)];exact hq
 .exact λh=>⟨p,h,zaB rfl⟩
noncomputable def di(ps:List Pr)(p:Pr):List Pr:=if p∈ps then ps else ps++[p]
theorem EF(ps:List Pr)(p:Pr):eX (mkT ps) (aW p) (.bool true)=mkT (di ps p):=by
 unfold eX di;rw[uU];by_cases h:p∈ps
 .rw[if_pos (zaB h),if_pos h];unfold mkT;rw[zaR];apply zbw;intro q _;show(if aW q=aW p then(aW q,PyData.bool true)else(aW q,PyData.bool true))=_;split<;>rfl
 .rw[if_neg (by rw[zbi];exact h),if_neg h];unfold mkT;rw[zaC];rfl
def dd(ps:List Pr):List Pr:=ps.foldl di []
theorem B4(ps:List Pr)(p:Pr):dd (ps++[p])=di (dd ps) p:=by
 unfold dd;rw[List.foldl_append];rfl
theorem B9(ps:List Pr)(p q:Pr):q∈di ps p↔q∈ps\/q=p:=by
 unfold di;split
 next h=>exact⟨.inl,λz=>z.elim id λe=>e▸h⟩
 next h=>rw[zax,zaH]
theorem FK(q:Pr)(ps:List Pr):q∈dd ps↔q∈ps:=by
 suffices h:∀(ps acc:List Pr),q∈ps.foldl di acc↔q∈acc\/q∈ps by
  refine(h ps []).trans ⟨λz=>z.elim (λz=>nomatch z) id,.inr⟩
 intro ps
 induction ps with
 |nil=>exact λacc=>⟨.inl,λz=>z.elim id λz=>nomatch z⟩
 |cons p ps ih=>
  intro acc;show q∈ps.foldl di (di acc p)↔_;rw[ih,B9,zay,or_assoc]
theorem FM(ps:List Pr):(dd ps).length<=ps.length:=by
 suffices h:∀(ps acc:List Pr),(ps.foldl di acc).length<=acc.length+ps.length by
  have:=h ps [];rw[List.length_nil,za3]at this;exact this
 intro ps
 induction ps with
 |nil=>exact λacc=>zav _
 |cons p ps ih=>
  intro acc;have h1:=ih (di acc p);have h2:(di acc p).length<=acc.length+1:=by
   unfold di;split
   .lia
   .rw[zae];simp
  show(ps.foldl di (di acc p)).length<=_;rw[zac]
  lia
def cQ(ps:List Pr):D:=.dict (tkL (mkT ps))
def Ad(ps:List Pr):dJ (tkL (mkT ps))=some (mkT ps):=lC (EE ps)
theorem As(ps:List Pr)(p:Pr):jL (prD p) (cQ ps)=some (.bool (!decide (p∈ps))):=by
 rw[gY];show(bK ((aW p).map oD)).bind (λk=>(dJ (tkL (mkT ps))).map λkvs=>PyData.bool (!kvs.any λq=>decide (q.1=k)))=_;rw[gq,Ad];show some (PyData.bool (!(mkT ps).any λq=>decide (q.1=aW p)))=_;rw[uU]
theorem An(h0:fe en=some (.bool true,en))(h1:fk en=some (prD p,en))(hi:(en[i]?).join=some (cQ ps))(hl:ps.length<50000):eF i fk fe en=some (.nx (en.set i (some (cQ (di ps p))))):=by
 unfold eF;rw[h0];simp only[Option.bind_some,hi,h1];rw[gY];show(bK ((aW p).map oD)).bind (λk=>(dJ (tkL (mkT ps))).bind λkvs=>if kvs.length<sizeLine/\scaD (.bool true)=true then some (Fl.nx (en.set i (some (.dict (tkL (eX kvs k (.bool true)))))))else none)=_;rw[gq,Ad];show(if(mkT ps).length<sizeLine/\scaD (.bool true)=true then some (Fl.nx (en.set i (some (.dict (tkL (eX (mkT ps) (aW p) (.bool true)))))))else none)=_;rw[if_pos ⟨by unfold mkT;rw[zad];exact eV (by lia),rfl⟩,EF];rfl
theorem AD{ks:List (D×D)}(h:isX (.dict ks)=false){T:String}(hT:cT "dict" T=false):bG T (.dict ks)=some (.bool false):=by
 unfold bG;rw[if_neg (by rw[h];exact zbn)];exact congrArg (λb=>some (PyData.bool b)) hT
noncomputable def fY(n:Nat):D->Bool
 |.none=>true
 |.int z=>decide (0<=z)&&decide (z<n)
 |_=>false
def iR(n m:Nat):D->Bool
 |.tuple [a,b]=>fY n a&&fY m b
 |_=>false
structure Ok(t:D):Prop where
 x:isX t=false
 c:∀ts,t=.tuple ts->∀a∈ts,isX a=false
theorem pq(M:Mx w es G)(h:isX t=false):W (aZ [mD es G,t]) (λr=>r=(.bool (fY G.length t),[none,none])):=by
 have le:=M.le;cases t with
 |none=>simp only[ws,aZ,b8,mD,fY]
 |int z=>
  simp only[ws,aZ,b8,mD,fY,le];by_cases hz:0<=z
  .simp only[ws,hz,le,Bool.true_and]
  .simp only[ws,hz,Bool.false_and]
 |dict ks=>
  have h1:=AD h (T:="int") rfl;simp only[ws,aZ,b8,mD,fY,h1]
 |_=>simp only[ws,aZ,b8,mD,fY]
section
variable{e1 e2:List Bool} 
theorem uW(M:Mx w e1 G)(N:Mx w e2 H){ts:List D}(h:∀t∈ts,Ok t):W (bN [mD e1 G,mD e2 H,.list ts]) (λr=>r=(.bool (ts.all (iR G.length H.length)),[none,none,none])):=by
 simp only[ws,bN,fR];refine dS (λi en=>∃o,en=[some (mD e1 G),some (mD e2 H),some (.list ts),o]/\(ts.take i).all (iR G.length H.length)=true) ⟨none,rfl,rfl⟩ ?_ ?_
 .rintro i t en ht ⟨o,rfl,g⟩;have mt:=zaX ht;have ok:=h t mt;have bad:iR G.length H.length t=false->ts.all (iR G.length H.length)=false:=λz=>List.all_eq_false.mpr ⟨t,mt,by rw[z];exact zbn⟩;have good:iR G.length H.length t=true->(ts.take (i+1)).all (iR G.length H.length)=true:=λz=>by
   rw[tk ht,List.all_append,g,List.all_cons,z];rfl
  cases t with
  |tuple us=>
   by_cases hl:((us.length:Nat):Int)=2
   .obtain⟨a,b,rfl⟩:∃a b,us=[a,b]:=by
     match us,hl with
     |[a,b],_=>exact⟨a,b,rfl⟩
     |[],hl=>cases hl
     |[_],hl=>cases hl
     |_::_::_::r,hl=>simp at hl;lia
    have ha:=ok.c _ rfl a (by simp);have hb:=ok.c _ rfl b (by simp);simp only[ws,bR];refine W.ue (pq M ha) ?_;cases p1:fY G.length a with
    |false=>
     have e:=bad (by simp only[iR,p1,Bool.false_and]);simp only[ws,e]
    |true=>
     simp only[ws];refine W.ue (pq N hb) ?_;cases p2:fY H.length b with
     |false=>
      have e:=bad (by simp only[iR,p1,p2,zbU]);simp only[ws,e]
     |true=>
      simp only[ws];exact⟨_,rfl,good (by simp only[iR,p1,p2,zbk])⟩
   .have e:=bad (by
     match us,hl with
     |[a,b],hl=>exact absurd rfl hl
     |[],_=>rfl
     |[_],_=>rfl
     |_::_::_::r,_=>rfl)
    simp only[ws,bR,hl,e]
  |dict ks=>
   have h1:=AD ok.x (T:="tuple") rfl;have e:=bad rfl;simp only[ws,bR,h1,e]
  |_=>
   have e:=bad rfl;simp only[ws,bR,e]
 .rintro en ⟨o,rfl,g⟩;rw[zaQ]at g;simp only[ws,g]
end
structure Cmp{α:Type}[DecidableEq α](f:α->D)(d:Nat):Prop where
 nd:∀a,av (f a)=true/\bw (f a)<=d
 eq:∀a b,peq (f a) (f b)=decide (a=b)
section
variable{α:Type}[DecidableEq α]{f:α->D}{d:Nat}
theorem du(h:∀a,av (f a)=true/\bw (f a)<=d):∀l:List α,aH (l.map f)=true/\bn (l.map f)<=d
 |[]=>⟨rfl,zbj _⟩
 |a::l=>by
  obtain⟨h1,h2⟩:=du h l;obtain⟨g1,g2⟩:=h a;rw[zar];exact⟨by simp[aH,g1,h1],by simp only[bn];lia⟩
theorem Cmp.any(h:Cmp f d)(a:α):∀xs:List α,((xs.map f).any λt=>peq t (f a))=decide (a∈xs)
 |[]=>by simp
 |x::xs=>by
  rw[zar,List.any_cons,h.any a xs,h.eq];by_cases c:x=a
  .simp[c]
  .simp[c,Ne.symm c]
theorem Cmp.notIn(h:Cmp f d)(hd:d<=60)(a:α)(xs:List α):pC (f a) (.list (xs.map f))=some (.bool (!decide (a∈xs))):=by
 show grd _ _=_;unfold grd;rw[if_pos ⟨(h.nd a).1,(du h.nd xs).1,zau (du h.nd xs).2 hd⟩,h.any]
end
theorem cmpB:Cmp PyData.bool 0:=⟨λa=>⟨rfl,zav _⟩,λa b=>by cases a<;>cases b<;>rfl⟩
theorem same(h:av t=true)(h2:bw t<=60):eqD t t=some (.bool true)/\neD t t=some (.bool false):=by
 unfold eqD neD grd;rw[if_pos ⟨h,h,h2⟩,if_pos ⟨h,h,h2⟩,jr t h];exact⟨rfl,rfl⟩
theorem At(es:List Bool)(G:Gr):av (mD es G)=true/\bw (mD es G)<=60:=by
 obtain⟨a1,a2⟩:=du cmpB.nd es;have go:∀o,av (goD o)=true/\bw (goD o)<=0:=λo=>by cases o<;>exact⟨rfl,zav _⟩
 obtain⟨b1,b2⟩:=du (f:=aS) (d:=1) (λr=>⟨by simp only[aS,av];exact(du go r).1,by simp only[aS,bw];have:=(du go r).2;lia⟩) G;constructor
 .simp[mD,av,aH,a1,b1]
 .simp only[mD,bw,bn];lia
theorem cmpG:Cmp goD 0:=⟨λo=>by cases o<;>exact⟨rfl,zav _⟩,λa b=>by
 cases a<;>cases b<;>simp only[goD,peq]
 .rfl
 .rfl
 .rfl
 .rw[Bool.eq_iff_iff,beq_iff_eq,zbi,Option.some.injEq]
  lia⟩
theorem cmpP:Cmp prD 1:=by
 refine⟨λp=>⟨?_,?_⟩,λp q=>?_⟩
 .simp[prD,av,aH,(cmpG.nd p.1).1,(cmpG.nd p.2).1]
 .have h1:=(cmpG.nd p.1).2;have h2:=(cmpG.nd p.2).2;simp only[prD,bw,bn]
  lia
 .simp only[prD,peq,eA,cmpG.eq,zbT];rw[Bool.eq_iff_iff,zbm,zbi,zbi,zbi];exact⟨λh=>Prod.ext h.1 h.2,λh=>by rw[h];exact⟨rfl,rfl⟩⟩
noncomputable def wiF:D->D
 |.tuple [.none,_]=>.none
 |t=>t
def orN(c:Pr->Bool)(q:Pr):D:=if c q=true then .none else prD q
section
variable{e1 e2:List Bool} 
noncomputable def cW(q:Pr):Bool:=q.1.isNone
theorem vR(M:Mx w e1 G)(N:Mx w e2 H)(hp:InM G.length H.length p):W (bc [mD e1 G,mD e2 H,prD p]) (λr=>r=(.list (((List.range w).map (nxP G H p)).map (orN cW)),[none,none,none])):=by
 have w12:=M.w12;simp only[ws,bc,eE];refine W.ue (xF M N hp) ?_;simp only[ws];have ea:(List.range w).map (λa=>prD (nxP G H p a))=((List.range w).map (nxP G H p)).map prD:=by rw[zaR];rfl
 rw[ea];refine mH wiF (szB (by rw[zad,zad,zbe];lia)) (λt ht=>?_) λo=>?_
 .obtain⟨⟨x,y⟩,_,rfl⟩:=zaz.mp ht;cases x with
  |none=>simp only[ws,dk,prD,goD,wiF]
  |some k=>simp only[ws,dk,prD,goD,wiF]
 .have e:List.map wiF (((List.range w).map (nxP G H p)).map prD)=((List.range w).map (nxP G H p)).map (orN cW):=by
   rw[zaR];refine zbw λq _=>?_;obtain⟨x,y⟩:=q;cases x<;>rfl
  rw[e];simp only[ws]
noncomputable def p00:Pr:=(some 0,some 0)
def okW(e1 e2:List Bool)(p:Pr):Bool:=p.1.isSome&&(a9 e2 p.2 || !a9 e1 p.1)
def cls(G H:Gr)(w:Nat)(c:Pr->Bool)(ps:List Pr)(p:Pr):Bool:=((List.range w).map (nxP G H p)).all λq=>c q || decide (q∈ps)
def hol(G H:Gr)(w:Nat)(c ok:Pr->Bool)(ps:List Pr):Bool:=decide (p00∈ps)&&(ps.all ok&&ps.all (cls G H w c ps))
theorem ud(M:Mx w e1 G)(N:Mx w e2 H)(hp:InM G.length H.length p):W (dW [mD e1 G,mD e2 H,prD p]) (λr=>r=(.bool (a9 e2 p.2 || !a9 e1 p.1),[none,none,none])):=by
 simp only[ws,dW,jX,prD];refine W.ue (pR N hp.2) ?_;cases h:a9 e2 p.2 with
 |true=>simp only[ws,Bool.true_or]
 |false=>
  simp only[ws,Bool.false_or];refine W.ue (pR M hp.1) ?_;simp only[ws]
noncomputable def unG:D->Option Nat
 |.int z=>some z.toNat
 |_=>none
def unP:D->Pr
 |.tuple [a,b]=>(unG a,unG b)
 |_=>(none,none)
theorem Ac(p:Pr):unP (prD p)=p:=by
 obtain⟨x,y⟩:=p;cases x<;>cases y<;>rfl
theorem FZ(g:Pr->Bool){rest:En}{Q:List D×En->Prop}(hz:ps.length<=1000)(hf:∀p∈ps,W (f (some (prD p)::rest)) (λr=>r=(.bool (g p),some (prD p)::rest)))(hq:∀o',Q (ps.map (λp=>.bool (g p)),o'::rest)):W (lcF (gN 0) cY f (ps.map prD) [] (o::rest)) Q:=by
 refine mH (λt=>.bool (g (unP t))) (szB (by rw[zad];lia)) (λt ht=>?_) λo'=>?_
 .obtain⟨p,hp,rfl⟩:=zaz.mp ht;rw[Ac];exact hf p hp
 .rw[zaR];have e:((λt=>PyData.bool (g (unP t)))∘prD)=λp=>.bool (g p):=funext λp=>by show PyData.bool (g (unP (prD p)))=_;rw[Ac]
  rw[e];exact hq o'
theorem Hw(x:Option Nat):isX (goD x)=false:=by cases x<;>rfl
theorem GC(p:Pr):Ok (prD p):=⟨rfl,λts e a ha=>by
 cases e;simp only[zay,zap,or_false]at ha;rcases ha with rfl|rfl<;>exact Hw _⟩
theorem AG(h:∀k,x=some k->k<n):fY n (goD x)=true:=by
 cases x with
 |none=>rfl
 |some k=>
  have:=h k rfl;simp only[goD,fY,zbm,decide_eq_true_eq]
  lia
theorem FV(hp:∀p∈ps,InM n m p):(ps.map prD).all (iR n m)=true:=by
 rw[List.all_map,List.all_eq_true];intro p z;show(fY n (goD p.1)&&fY m (goD p.2))=true;rw[AG (hp p z).1,AG (hp p z).2];rfl
theorem oks:∀t∈ps.map prD,Ok t:=λt ht=>by
 obtain⟨p,_,rfl⟩:=zaz.mp ht;exact GC p
def okL(e1 e2:List Bool)(wh:Bool)(p:Pr):Bool:=!((a9 e1 p.1&&!a9 e2 p.2) || ((wh&&(a9 e2 p.2&&!a9 e1 p.1)) || (!wh&&p.1.isNone)))
noncomputable def cL(wh:Bool)(q:Pr):Bool:=!(q.1.isSome || (wh&&q.2.isSome))
def fZ(e1 e2:List Bool)(G H:Gr)(w:Nat)(wh:Bool)(ps:List Pr):Bool:=decide (p00∈ps)&&ps.all λp=>okL e1 e2 wh p&&cls G H w (cL wh) ps p
theorem rY{α:Type}(f g:α->Bool):∀l:List α,(l.all λa=>f a&&g a)=(l.all f&&l.all g)
 |[]=>rfl
 |a::l=>by
  rw[List.all_cons,List.all_cons,List.all_cons,rY f g l];cases f a<;>cases g a<;>cases l.all f<;>rfl
theorem Fb(ps:List Pr):fZ e1 e2 G H w false ps=hol G H w cW (okW e1 e2) ps:=by
 have h1:okL e1 e2 false=okW e1 e2:=funext λp=>by
  obtain⟨x,y⟩:=p;unfold okL okW;cases x<;>cases a9 e2 y<;>simp[a9]
 have h2:cL false=cW:=funext λq=>by
  obtain⟨x,y⟩:=q;cases x<;>rfl
 unfold fZ hol;rw[h1,h2,rY]
theorem uC(M:Mx w e1 G)(N:Mx w e2 H){wh:Bool}(hp:InM G.length H.length p){x5 x8 x9 x10 x11:Option D}{Q:Fl->Prop}
  (no:cls G H w (cL wh) ps p=false->∀o10 o11,Q (.rt (.bool false) [some (mD e1 G),some (mD e2 H),x2,some (.bool wh),some (cQ (dd ps)),x5,some (goD p.1),some (goD p.2),x8,x9,o10,o11]))
  (yes:cls G H w (cL wh) ps p=true->∀o10 o11,Q (.nx [some (mD e1 G),some (mD e2 H),x2,some (.bool wh),some (cQ (dd ps)),x5,some (goD p.1),some (goD p.2),x8,x9,o10,o11])):
  W (cA (gN 10) fJ (eW 0 w) [some (mD e1 G),some (mD e2 H),x2,some (.bool wh),some (cQ (dd ps)),x5,some (goD p.1),some (goD p.2),x8,x9,x10,x11]) Q:=by
 have ec:cls G H w (cL wh) ps p=(List.range w).all λa=>cL wh (nxP G H p a) || decide (nxP G H p a∈ps):=by
  unfold cls;rw[List.all_map];rfl
 refine dS (λi en=>∃o10 o11,en=[some (mD e1 G),some (mD e2 H),x2,some (.bool wh),some (cQ (dd ps)),x5,some (goD p.1),some (goD p.2),x8,x9,o10,o11]/\∀a,a<i->(cL wh (nxP G H p a) || decide (nxP G H p a∈ps))=true) ⟨_,_,rfl,λ_ z=>absurd z (Nat.not_lt_zero _)⟩ ?_ ?_
 .rintro i t en ht ⟨o10,o11,rfl,g⟩;obtain⟨hi,rfl⟩:=fh ht;have nt:=As (dd ps) (nxP G H p i);have m0:decide (nxP G H p i∈dd ps)=decide (nxP G H p i∈ps):=by rw[decide_eq_decide];exact FK _ ps
  rw[m0]at nt;rw[zbK];simp only[ws,fJ];refine W.ue (k5 M hp.1 hi) ?_;simp only[ws];refine W.ue (k5 N hp.2 hi) ?_;have next:(cL wh (nxP G H p i) || decide (nxP G H p i∈ps))=true->∀a,a<i+1->(cL wh (nxP G H p a) || decide (nxP G H p a∈ps))=true:=λh a ha=>by
   by_cases c:a=i
   .rw[c];exact h
   .exact g a (by lia)
  have bad:(cL wh (nxP G H p i) || decide (nxP G H p i∈ps))=false->cls G H w (cL wh) ps p=false:=λh=>by
   rw[ec];exact List.all_eq_false.mpr ⟨i,zbr.mpr hi,by rw[h];exact zbn⟩
  have eq:prD (nxP G H p i)=.tuple [goD (ca G p.1 i),goD (ca H p.2 i)]:=rfl;rw[eq]at nt;by_cases m:nxP G H p i∈ps
  .simp only[ws,nt,m,decide_true,Bool.not_true];exact⟨_,_,rfl,next (by rw[zaB m,Bool.or_true])⟩
  .simp only[ws,nt,m,decide_false,Bool.not_false];rw[zaA m,Bool.or_false]at next bad;have ex:cL wh (nxP G H p i)=!((ca G p.1 i).isSome || (wh&&(ca H p.2 i).isSome)):=rfl;rw[ex]at next bad;cases h1:ca G p.1 i with
   |some k=>
    rw[h1]at bad;simp only[ws,goD];exact no (bad rfl) _ _
   |none=>
    rw[h1]at bad next;cases wh with
    |false=>
     simp only[ws,goD];exact⟨_,_,rfl,next rfl⟩
    |true=>
     cases h2:ca H p.2 i with
     |some k=>
      rw[h2]at bad;simp only[ws,goD];exact no (bad rfl) _ _
     |none=>
      rw[h2]at next;simp only[ws,goD];exact⟨_,_,rfl,next rfl⟩
 .rintro en ⟨o10,o11,rfl,g⟩;rw[ff]at g;refine yes ?_ _ _;rw[ec,List.all_eq_true];exact λa ha=>g a (zbr.mp ha)
theorem wJ(M:Mx w e1 G)(N:Mx w e2 H)(hp:∀p∈ps,InM G.length H.length p)(hl:ps.length<=1000)(wh:Bool):W (dX [mD e1 G,mD e2 H,.list (ps.map prD),.bool wh]) (λr=>r=(.bool (fZ e1 e2 G H w wh ps),[none,none,none,none])):=by
 have w12:=M.w12;have al:=FV hp;have ni:=cmpP.notIn (by decide) p00 ps;rw[show prD p00=.tuple [.int 0,.int 0]from rfl]at ni;obtain⟨r0,er,rl⟩:=l5 M;simp only[ws,dX,jY];refine W.ue (uW M N oks) ?_;by_cases z0:p00∈ps
 .simp only[ws,al,ni,z0,decide_true,Bool.not_true,tM];refine dS (λi en=>∃o5,en=[some (mD e1 G),some (mD e2 H),some (.list (ps.map prD)),some (.bool wh),some (cQ (dd (ps.take i))),o5,none,none,none,none,none,none]) ⟨_,rfl⟩ ?_ ?_
  .rintro i t en ht ⟨o5,rfl⟩;obtain⟨p,hi,rfl⟩:=gm ht;have l1:=FM (ps.take i);rw[zaE]at l1;simp only[ws,kJ];refine W.of (An (ps:=dd (ps.take i)) (p:=p) rfl rfl rfl (by lia)) ?_;rw[tk hi,B4];exact⟨_,rfl⟩
  .rintro en ⟨o5,rfl⟩;rw[zad,zaQ];simp only[ws];refine dS (λi en=>∃o6 o7 o8 o9 o10 o11,en=[some (mD e1 G),some (mD e2 H),some (.list (ps.map prD)),some (.bool wh),some (cQ (dd ps)),o5,o6,o7,o8,o9,o10,o11]/\(ps.take i).all (λp=>okL e1 e2 wh p&&cls G H w (cL wh) ps p)=true) ⟨_,_,_,_,_,_,rfl,rfl⟩ ?_ ?_
   .rintro i t en ht ⟨o6,o7,o8,o9,o10,o11,rfl,g⟩;obtain⟨p,hi,rfl⟩:=gm ht;have pm:=zaX hi;have ip:=hp p pm;have bad:(okL e1 e2 wh p&&cls G H w (cL wh) ps p)=false->fZ e1 e2 G H w wh ps=false:=λh=>by
     unfold fZ;rw[List.all_eq_false.mpr ⟨p,pm,by rw[h];exact zbn⟩,zbU]
    have good:(okL e1 e2 wh p&&cls G H w (cL wh) ps p)=true->(ps.take (i+1)).all (λp=>okL e1 e2 wh p&&cls G H w (cL wh) ps p)=true:=λh=>by
     rw[tk hi,List.all_append,g,List.all_cons,h];rfl
    simp only[ws,kI,prD];refine W.ue (ix M ip.1) ?_;simp only[ws];refine W.ue (ix N ip.2) ?_;have ret:okL e1 e2 wh p=false->fZ e1 e2 G H w wh ps=false:=λh=>bad (by rw[h];rfl);have c1:cls G H w (cL wh) ps p=false->fZ e1 e2 G H w wh ps=false:=λk=>bad (by rw[k,zbU]);have c2:okL e1 e2 wh p=true->cls G H w (cL wh) ps p=true->(ps.take (i+1)).all (λp=>okL e1 e2 wh p&&cls G H w (cL wh) ps p)=true:=λh k=>good (by rw[h,k];rfl);have run:okL e1 e2 wh p=true->∀b1 b2,W (cA (gN 10) fJ (eW 0 w) [some (mD e1 G),some (mD e2 H),some (.list (ps.map prD)),some (.bool wh),some (cQ (dd ps)),o5,some (goD p.1),some (goD p.2),some (.bool b1),some (.bool b2),o10,o11]) (kIt (λen=>∃o6 o7 o8 o9 o10 o11,en=[some (mD e1 G),some (mD e2 H),some (.list (ps.map prD)),some (.bool wh),some (cQ (dd ps)),o5,o6,o7,o8,o9,o10,o11]/\(ps.take (i+1)).all (λp=>okL e1 e2 wh p&&cls G H w (cL wh) ps p)=true) (sU (az (eC (.bool true))) (kFn [0,0,0,0] λr=>r=(.bool (fZ e1 e2 G H w wh ps),[none,none,none,none])))):=λh b1 b2=>by
     refine uC M N ip (λk _ _=>?_) (λk _ _=>?_)
     .simp only[ws,c1 k]
     .exact⟨_,_,_,_,_,_,rfl,c2 h k⟩
    have eo:okL e1 e2 wh p=!((a9 e1 p.1&&!a9 e2 p.2) || ((wh&&(a9 e2 p.2&&!a9 e1 p.1)) || (!wh&&p.1.isNone))):=rfl;rw[eo]at ret run;clear bad good c1 c2 eo;generalize a9 e1 p.1=b1 at *;generalize a9 e2 p.2=b2 at *;obtain⟨x,y⟩:=p;cases b1<;>cases b2<;>cases wh<;>cases x<;>simp only[ws,goD,mD,er,rl,zaL]
    all_goals first|exact⟨⟨by lia,by lia⟩,run rfl _ _⟩|simp only[ret rfl]
   .rintro en ⟨o6,o7,o8,o9,o10,o11,rfl,g⟩;rw[zad,zaQ]at g
    have:fZ e1 e2 G H w wh ps=true:=by unfold fZ;rw[zaB z0,g];rfl
    simp only[ws,this]
 .have:fZ e1 e2 G H w wh ps=false:=by unfold fZ;rw[zaA z0,Bool.false_and]
  simp only[ws,al,ni,z0,decide_false,Bool.not_false,this]
end
theorem ng{s u:MS}{K:Fl->Prop}{b:Bool}(h1:kIf s u K (true,en))(h2:kIf s u K (false,en)):kIf s u K (b,en):=by
 cases b
 .exact h2
 .exact h1
noncomputable def sC(a b c:Int):D:=.list [.int a,.int b,.int c]
def Pn(n:Nat)(t:D):Prop:=∃a b c,t=sC a b c/\0<=c/\c<=(n:Int)
theorem Pn.mono(h:Pn n t)(e:n<=m):Pn m t:=by
 obtain⟨a,b,c,rfl,h1,h2⟩:=h;exact⟨a,b,c,rfl,h1,by lia⟩
theorem cf{p:D}{m:Int}(hp:Pn n p)(hn:n<=1000000)(h3:0<m)(h4:m<1073741824)(h:∀r p',0<=r->r<m->Pn (n+1) p'->Q (.int r,[some p',none])):W (aG [p,.int m]) Q:=by
 obtain⟨a,b,c,rfl,c0,c1⟩:=hp;have m0:∀z:Int,0<=z % m:=λz=>za9 _ (by lia);have m1:∀z:Int,z % m<m:=λz=>zba _ h3;by_cases ha:0<a
 .simp only[ws,aG,eh,sC,ha,h3,h4];exact⟨⟨h3,h4⟩,h _ _ (m0 _) (m1 _) ⟨_,_,_,rfl,by lia,by lia⟩⟩
 .simp only[ws,aG,eh,sC,ha,h3,h4];refine⟨.inl (by decide),by decide,.inl ?_,by decide,.inl (by decide),.inl ?_,by decide,⟨by decide,by decide⟩,h _ _ (m0 _) (m1 _) ⟨_,_,_,rfl,by lia,by lia⟩⟩
  .constructor<;>lia
  .generalize (b+69621*(c+1)+13) % 2147483629*((b+69621*(c+1)+13) % 2147483629)=x;constructor<;>lia
theorem FY{ns:List Int}{k:Int}(h0:0<=k)(hl:ns.length<=63)(h:∀p,Pn 0 p->Q (p,[none,none])):W (cP [.list (ns.map .int),.int k]) Q:=by
 have pw:kO 10 18:=by unfold kO;decide
 simp only[ws,cP,dI];refine⟨.inl (by decide),?_⟩;by_cases hk:k<(ns.length:Int)
 .have ec:atI (ns.map PyData.int) k=some (.int (ns[k.toNat]'(by lia))):=AN h0 (by rw[zao,zak (by lia)];rfl);simp only[ws,hk,ec];refine⟨pw,ng ?_ ?_⟩<;>simp only[ws]
  .exact⟨pw,by decide,h _ ⟨_,_,0,rfl,by decide,by decide⟩⟩
  .exact⟨by decide,h _ ⟨_,_,0,rfl,by decide,by decide⟩⟩
 .by_cases hn:(0:Int)<ns.length
  .obtain⟨c,ec⟩:∃c,atI (ns.map PyData.int) (k % (ns.length:Int))=some (.int c):=by
    have q1:0<=k % (ns.length:Int):=za9 _ (by lia);have q2:k % (ns.length:Int)<ns.length:=zba _ (by lia);refine⟨ns[(k % (ns.length:Int)).toNat]'(by lia),AN q1 ?_⟩;rw[zao,zak (by lia)];rfl
   simp only[ws,hk,hn,ec];refine⟨by decide,.inl (by decide),pw,ng ?_ ?_⟩<;>simp only[ws]
   .exact⟨pw,by decide,h _ ⟨_,_,0,rfl,by decide,by decide⟩⟩
   .exact⟨by decide,h _ ⟨_,_,0,rfl,by decide,by decide⟩⟩
  .simp only[ws,hk,hn];refine⟨pw,ng ?_ ?_⟩<;>simp only[ws]
   .exact⟨pw,by decide,h _ ⟨_,_,0,rfl,by decide,by decide⟩⟩
   .exact⟨by decide,h _ ⟨_,_,0,rfl,by decide,by decide⟩⟩
theorem FW(h:W (f en) (λr=>scaD r.1=true/\Q r)):W (eSk f en) Q:=by
 unfold eSk;rw[aq];exact W.use h λr ⟨h1,h2⟩=>by
  show W (if _ then _ else none) Q;rw[if_pos h1];exact⟨_,rfl,h2⟩
theorem Hb(h:W (f en) (λr=>my r.1=true/\Q r)):W (eUp f en) Q:=by
 unfold eUp;rw[aq];exact W.use h λr ⟨h1,h2⟩=>by
  show W (if _ then _ else none) Q;rw[if_pos h1];exact⟨_,rfl,h2⟩
theorem BO(r:List (Option Nat)):my (.list (r.map goD))=true:=by
 show(r.map goD).all scaD=true;rw[List.all_map,List.all_eq_true];exact λx _=>by cases x<;>rfl
theorem at3{a b c r:Int}(h0:0<=r)(h1:r<3)(lo:1<=a/\1<=b/\1<=c)(hi:a<=12/\b<=12/\c<=12):∃z:Int,atI [PyData.int a,PyData.int b,PyData.int c] r=some (.int z)/\1<=z/\z<=12:=by
 rcases(by lia:r=0\/r=1\/r=2)with rfl|rfl|rfl
 .exact⟨a,rfl,lo.1,hi.1⟩
 .exact⟨b,rfl,lo.2.1,hi.2.1⟩
 .exact⟨c,rfl,lo.2.2,hi.2.2⟩
theorem B2{p:D}(hp:Pn n p)(hn:n<=5000)(hN:N<=40)(z1:1<=z)(z2:z<=12){Q:List D×En->Prop}(h:∀(es:List Bool) p' o',es.length=N->Pn (n+N) p'->Q (es.map .bool,[o',some p',some (.int z)])):W (lcF (gN 0) cY fM (eW 0 N) [] [o,some p,some (.int z)]) Q:=by
 refine tU (λi us en=>∃(es:List Bool) (p':D) (o':Option D),us=es.map .bool/\es.length=i/\Pn (n+i) p'/\en=[o',some p',some (.int z)]) (szB (by rw[ff];lia)) ⟨[],p,o,rfl,rfl,hp,rfl⟩ ?_ ?_
 .rintro i t us en ht-⟨es,p',o',rfl,el,hp',rfl⟩;obtain⟨hi,rfl⟩:=fh ht;simp only[ws,fM];refine cf hp' (by lia) (by lia) (by lia) λr p1 r0 r1 hp1=>?_;simp only[ws];exact⟨es++[decide (r=0)],p1,_,by rw[zaC];rfl,by rw[zae,el];rfl,hp1,rfl⟩
 .rintro us en-⟨es,p',o',rfl,el,hp',rfl⟩;rw[ff]at el hp';exact h es p' o' el hp'
theorem AF(b:Bool)(t:D):W (bF [.bool b,t]) (λr=>r=(if b then .none else t,[none,none])):=by
 cases b<;>simp only[ws,bF,fQ]<;>rfl
theorem xA{p:D}{S:Nat}(hp:Pn n p)(hn:n<=5000)(hS:S<=12)(N1:1<=N)(hN:N<=40){Q:List D×En->Prop}(h:∀(r:List (Option Nat)) p' o',r.length=S->(∀k,some k∈r->k<N)->Pn (n+2*S) p'->Q (r.map goD,[o',some p',some (.int (N:Int)),some (.int z)])):W (lcF (gN 0) cY fL (eW 0 S) [] [o,some p,some (.int (N:Int)),some (.int z)]) Q:=by
 refine tU (λi us en=>∃(r:List (Option Nat)) (p':D) (o':Option D),us=r.map goD/\r.length=i/\(∀k,some k∈r->k<N)/\Pn (n+2*i) p'/\en=[o',some p',some (.int (N:Int)),some (.int z)]) (szB (by rw[ff];lia)) ⟨[],p,o,rfl,rfl,(λk hk=>nomatch hk),hp,rfl⟩ ?_ ?_
 .rintro i t us en ht-⟨row,p',o',rfl,el,hk,hp',rfl⟩;obtain⟨hi,rfl⟩:=fh ht;simp only[ws,fL];refine cf hp' (by lia) (by lia) (by lia) λr p1 r0 r1 hp1=>?_;simp only[ws];refine cf hp1 (by lia) (by lia) (by lia) λq p2 q0 q1 hp2=>?_;simp only[ws];refine W.ue (AF _ _) ?_;simp only[ws];obtain⟨q,rfl⟩:∃k:Nat,q=k:=⟨q.toNat,by lia⟩;refine⟨row++[if decide (r<z)then none else some q],p2,_,?_,by rw[zae,el];rfl,λk hm=>?_,hp2.mono (by lia),rfl⟩
  .rw[zaC];cases decide (r<z)<;>rfl
  .rcases zax.mp hm with hm|hm
   .exact hk k hm
   .simp at hm
    lia
 .rintro us en-⟨r,p',o',rfl,el,hk,hp',rfl⟩;rw[ff]at el hp';exact h r p' o' el hk hp'
theorem Av{p:D}{S:Nat}{m:Int}(hp:Pn n p)(hn:n<=2500)(s1:1<=S)(s2:S<=12)(m1:1<=m)(m2:m<=40)(h:∀es G p',Mx S es G->(G.length:Int)<=m->Pn (n+2000) p'->Q (mD es G,[some p',none,none])):W (bA [p,.int S,.int m]) Q:=by
 simp only[ws,bA,da];refine cf hp (by lia) (by lia) (by lia) λr p1 r0 r1 hp1=>?_;obtain⟨N,hN⟩:∃N:Nat,1+r=N:=⟨(1+r).toNat,by lia⟩;simp only[ws,hN];refine cf hp1 (by lia) (by lia) (by lia) λr2 p2 r20 r21 hp2=>?_;obtain⟨z,ez,z1,z2⟩:=at3 (a:=2) (b:=3) (c:=6) r20 r21 (by decide) (by decide);simp only[ws,ez,zaL];refine⟨⟨by lia,by lia⟩,B2 hp2 (by lia) (by lia) z1 z2 λes p3 o3 el hp3=>?_⟩;simp only[ws];refine cf hp3 (by lia) (by lia) (by lia) λr4 p4 r40 r41 hp4=>?_;obtain⟨y,ey,-,-⟩:=at3 (a:=1) (b:=3) (c:=8) r40 r41 (by decide) (by decide);simp only[ws,ey,zaL];refine⟨⟨by lia,by lia⟩,dS (λi en=>∃(G:Gr) (p':D) (o':Option D),en=[some p',some (.int (S:Int)),some (.int m),some (.int (N:Int)),some (.int z),some (.list (es.map .bool)),some (.int y),some (.list (G.map aS)),o']/\G.length=i/\(∀r∈G,r.length=S)/\(∀r∈G,∀k,some k∈r->k<N)/\Pn (n+50+24*i) p') ⟨[],p4,_,rfl,rfl,(λr hr=>nomatch hr),(λr hr=>nomatch hr),hp4.mono (by lia)⟩ ?_ ?_⟩
 .rintro i t en ht ⟨G,p',o',rfl,gl,g1,g2,hp'⟩;obtain⟨hi,rfl⟩:=fh ht;simp only[ws,iG];refine Hb ?_;simp only[ws,zaL];refine⟨⟨by lia,by lia⟩,xA hp' (by lia) s2 (by lia) (by lia) λrow p5 o5 rl rk hp5=>?_⟩;simp only[ws];refine⟨BO row,eV (by lia),G++[row],p5,_,by rw[zaC];rfl,by rw[zae,gl];rfl,λr hr=>?_,λr hr=>?_,hp5.mono (by lia)⟩
  .rcases zax.mp hr with hr|hr
   .exact g1 r hr
   .cases zaH.mp hr;exact rl
  .rcases zax.mp hr with hr|hr
   .exact g2 r hr
   .cases zaH.mp hr;exact rk
 .rintro en ⟨G,p',o',rfl,gl,g1,g2,hp'⟩;rw[ff]at gl hp';simp only[ws];refine h es G p' ⟨by lia,by lia,s2,by lia,g1,gl.symm▸g2⟩ (by lia) (hp'.mono (by lia))
structure EnP where
 k:Pr
 p:Option (Pr×Nat)
 r:List Nat
variable{T:List EnP}{e:EnP}
abbrev ar(T:List EnP):List Pr:=T.map (·.k)
noncomputable def stP(e:EnP)(T:List EnP)(i:Nat):Option Pr->List EnP
 |none=>T
 |some k=>if k∈ar T then T else T++[⟨k,some (e.k,i),e.r++[i]⟩]
def flP(e:EnP):List EnP->Nat->List (Option Pr)->List EnP
 |T,_,[]=>T
 |T,i,w::r=>flP e (stP e T i w) (i+1) r
theorem lT(e:EnP):∀(l:List (Option Pr)) (T:List EnP) (j:Nat) (w:Option Pr),flP e T j (l++[w])=stP e (flP e T j l) (j+l.length) w
 |[],T,j,w=>rfl
 |x::l,T,j,w=>by
  show flP e (stP e T j x) (j+1) (l++[w])=stP e (flP e (stP e T j x) (j+1) l) _ w;rw[lT e l];congr 1;show j+1+l.length=j+(l.length+1)
  lia
def dy(nb:Pr->List (Option Pr))(T:List EnP)(n:Nat):List EnP:=match T[n]? with
 |some e=>flP e T 0 (nb e.k)
 |none=>T
def TP(nb:Pr->List (Option Pr)):Nat->List EnP
 |0=>[⟨p00,none,[]⟩]
 |n+1=>dy nb (TP nb n) n
theorem mX(e:EnP)(T:List EnP)(i:Nat)(w:Option Pr):T <+: stP e T i w:=by
 cases w with
 |none=>exact List.prefix_rfl
 |some k=>
  show T <+: if k∈ar T then T else T++[⟨k,some (e.k,i),e.r++[i]⟩]
  split
  .exact List.prefix_rfl
  .exact List.prefix_append _ _
theorem gZ(e:EnP):∀(r:List (Option Pr)) (T:List EnP) (i:Nat),T <+: flP e T i r
 |[],_,_=>List.prefix_rfl
 |w::r,T,i=>(mX e T i w).trans (gZ e r _ _)
theorem Cb(nb:Pr->List (Option Pr))(n:Nat):TP nb n <+: TP nb (n+1):=by
 show TP nb n <+: dy nb (TP nb n) n;unfold dy;split
 .exact gZ _ _ _ _
 .exact List.prefix_rfl
theorem jd(nb:Pr->List (Option Pr))(n:Nat):∀m,TP nb n <+: TP nb (n+m)
 |0=>List.prefix_rfl
 |m+1=>(jd nb n m).trans (Cb nb (n+m))
theorem vx(e:EnP):∀(r:List (Option Pr)) (T:List EnP) (i:Nat) (x:Pr),some x∈r->x∈ar (flP e T i r)
 |w::r,T,i,x,h=>by
  rcases zay.mp h with h|h
  .subst h
   have:x∈ar (stP e T i (some x)):=by
    show x∈ar (if x∈ar T then T else T++[⟨x,some (e.k,i),e.r++[i]⟩]);split
    .assumption
    .show x∈List.map (λe:EnP=>e.k) _;rw[zaC];exact zbg _ (by simp)
   obtain⟨l,hl⟩:=gZ e r (stP e T i (some x)) (i+1);show x∈ar (flP e (stP e T i (some x)) (i+1) r);rw[<-hl];show x∈List.map (λe:EnP=>e.k) _;rw[zaC];exact zbf _ this
  .exact vx e r _ _ x h
structure TPk(C:Pr->Prop)(T:List EnP):Prop where
 nd:(ar T).Nodup
 c:∀e∈T,C e.k
 h0:T[0]?=some ⟨p00,none,[]⟩
 sgn:∀e∈T,∀a∈e.r,a<12
section
variable{nb:Pr->List (Option Pr)}
theorem Ea(t:TPk C T)(he:e∈T)(hi:i<12){w:Option Pr}(hw:∀k,w=some k->C k):TPk C (stP e T i w):=by
 cases w with
 |none=>exact t
 |some k=>
  show TPk C (if k∈ar T then T else T++[⟨k,some (e.k,i),e.r++[i]⟩]);by_cases hk:k∈ar T
  .rw[if_pos hk];exact t
  .rw[if_neg hk];refine⟨?_,λf hf=>?_,?_,λf hf a ha=>?_⟩
   .show(List.map _ (T++_)).Nodup;rw[zaC,List.nodup_append];exact⟨t.nd,by simp,λa ha b hb z=>hk (by
     have hb':b=k:=zaH.mp hb;rw[<-hb',<-z];exact ha)⟩
   .rcases zax.mp hf with hf|hf
    .exact t.c f hf
    .rw[zaH.mp hf];exact hw k rfl
   .have:=(zah.mp t.h0).1;rw[zaS this];exact t.h0
   .rcases zax.mp hf with hf|hf
    .exact t.sgn f hf a ha
    .rw[zaH.mp hf]at ha;rcases zax.mp ha with ha|ha
     .exact t.sgn e he a ha
     .rw[zaH.mp ha];exact hi
theorem p9{e:EnP}:∀(r:List (Option Pr)) {T:List EnP} {i:Nat},TPk C T->e∈T->i+r.length<=12->(∀k,some k∈r->C k)->TPk C (flP e T i r)
 |[],T,i,t,he,_,_=>t
 |w::r,T,i,t,he,hl,hw=>by
  rw[zac]at hl;exact p9 r (Ea t he (by lia) λk z=>hw k (by rw[z];exact zaq)) ((mX e T i w).subset he) (by lia) λk z=>hw k (zaj _ z)
theorem AQ(h0:C p00)(hl:∀p,(nb p).length<=12)(hc:∀p,C p->∀k,some k∈nb p->C k):∀n,TPk C (TP nb n)
 |0=>by
  refine⟨by simp[TP,ar],λe he=>?_,rfl,λe he=>?_⟩
  .rw[show TP nb 0=[⟨p00,none,[]⟩]from rfl]at he;rw[zaH.mp he];exact h0
  .rw[show TP nb 0=[⟨p00,none,[]⟩]from rfl]at he;rw[zaH.mp he];exact λa ha=>by cases ha
 |n+1=>by
  have ih:=AQ h0 hl hc n;show TPk _ (dy nb (TP nb n) n);unfold dy;cases h:(TP nb n)[n]? with
  |none=>exact ih
  |some e=>
   have hm:=zaX h;exact p9 _ ih hm (by have:=hl e.k;lia) (hc e.k (ih.c e hm))
theorem jc{n:Nat}(h:(TP nb n).length<=n):∀m,TP nb (n+m)=TP nb n
 |0=>rfl
 |m+1=>by
  show dy nb (TP nb (n+m)) (n+m)=_;rw[jc h m];unfold dy;rw[zbl (by lia)]
theorem He(hi:i<n)(he:(TP nb n)[i]?=some e){x:Pr}(hx:some x∈nb e.k):x∈ar (TP nb n):=by
 obtain⟨m,rfl⟩:∃m,n=i+1+m:=⟨n-(i+1),by lia⟩;have e1:∀j,i<=j->j<=i+1+m->((TP nb j)[i]?=some e\/(TP nb j).length<=i):=λj h1 h2=>by
  obtain⟨l,hl⟩:=jd nb j (i+1+m-j);rw[show j+(i+1+m-j)=i+1+m by lia]at hl;rw[<-hl]at he;rcases Nat.lt_or_ge i (TP nb j).length with q|q
  .rw[zaS q]at he;exact .inl he
  .exact .inr q
 rcases e1 i (zav _) (by lia)with q|q
 .have:x∈ar (TP nb (i+1)):=by
   show x∈ar (dy nb (TP nb i) i);unfold dy;rw[q];exact vx e _ _ _ x hx
  obtain⟨l,hl⟩:=jd nb (i+1) m;rw[<-hl];show x∈List.map (λe:EnP=>e.k) _;rw[zaC];exact zbf _ this
 .exfalso
  have:=jc q (1+m);rw[show i+(1+m)=i+1+m by lia]at this;rw[this]at he
  have:=(zah.mp he).1
  lia
theorem oW:∀{cs A:List Pr},cs.Nodup->(∀c∈cs,c∈A)->cs.length<=A.length
 |[],_,_,_=>zbj _
 |c::cs,A,nd,h=>by
  have hc:=h c zaq;obtain⟨n1,n2⟩:=zbb.mp nd;have ih:=oW (A:=A.erase c) n2 λx hx=>(List.mem_erase_of_ne (λz:x=c=>n1 (by rw[<-z];exact hx))).mpr (h x (zaj _ hx));rw[List.length_erase_of_mem hc]at ih
  have:=List.length_pos_of_mem hc;rw[zac]
  lia
structure Fnd(C:Pr->Prop)(nb:Pr->List (Option Pr))(S:List Pr):Prop where
 s0:C p00
 l:∀p,(nb p).length<=12
 c:∀p,C p->∀k,some k∈nb p->C k
 s:∀p,C p->p∈S
 sz:S.length<=300
def Fnd.ok(f:Fnd C nb S)(n:Nat):TPk C (TP nb n):=AQ f.s0 f.l f.c n
theorem Fnd.len(f:Fnd C nb S)(n:Nat):(TP nb n).length<=S.length:=by
 have t:=f.ok n
 have:=oW t.nd λx hx=>by
  obtain⟨e,he,rfl⟩:=zaz.mp hx;exact f.s _ (t.c e he)
 rwa[zad]at this
def TPf(nb:Pr->List (Option Pr))(S:List Pr):List EnP:=TP nb S.length
theorem Fnd.fin(f:Fnd C nb S)(h:(TP nb n).length<=n)(h2:n<=(TP nb n).length):TP nb n=TPf nb S:=by
 have:=f.len n;unfold TPf;rw[<-jc h (S.length-n)];congr 1
 lia
theorem Fnd.pre(f:Fnd C nb S)(n:Nat):TP nb n <+: TPf nb S:=by
 unfold TPf;rcases Nat.le_total n S.length with q|q
 .have:=jd nb n (S.length-n)
  rwa[show n+(S.length-n)=S.length by lia]at this
 .have:=jc (f.len S.length) (n-S.length);rw[show S.length+(n-S.length)=n by lia]at this;rw[this];exact List.prefix_rfl
theorem Fnd.closed(f:Fnd C nb S)(he:e∈TPf nb S){x:Pr}(hx:some x∈nb e.k):x∈ar (TPf nb S):=by
 obtain⟨i,hi⟩:=zbq he;have l:=(zah.mp hi).1
 have:=f.len S.length;exact He (n:=S.length) (zag l this) hi hx
end
def cR(ks:List Pr):TKs:=ks.map λp=>(aW p,.int (ks.idxOf p:Int))
def ju(ks:List Pr):D:=.dict (tkL (cR ks))
theorem Bi(ks:List Pr):((cR ks).all λq=>scaD q.2)=true:=by
 unfold cR;rw[List.all_map,List.all_eq_true];intro p _;rfl
def so(ks:List Pr):dJ (tkL (cR ks))=some (cR ks):=lC (Bi ks)
theorem rj(ks:List Pr)(p:Pr):((cR ks).any λq=>decide (q.1=aW p))=decide (p∈ks):=by
 unfold cR;rw[List.any_map,Bool.eq_iff_iff,List.any_eq_true,zbi];constructor
 .rintro⟨q,hq,h⟩;rw[<-lR (of_decide_eq_true h)];exact hq
 .exact λh=>⟨p,h,zaB rfl⟩
theorem GG(ks:List Pr)(p:Pr):jL (prD p) (ju ks)=some (.bool (!decide (p∈ks))):=by
 rw[gY];show(bK ((aW p).map oD)).bind (λk=>(dJ (tkL (cR ks))).map λkvs=>PyData.bool (!kvs.any λq=>decide (q.1=k)))=_;rw[gq,so];show some (PyData.bool (!(cR ks).any λq=>decide (q.1=aW p)))=_;rw[rj]
theorem wz(h:p∈ks):((cR ks).find? λq=>decide (q.1=aW p))=some (aW p,.int (ks.idxOf p:Int)):=by
 have key:∀(l:List Pr) (g:Pr->D),p∈l->((l.map λp=>(aW p,g p)).find? λq=>decide (q.1=aW p))=some (aW p,g p):=by
  intro l g
  induction l with
  |nil=>intro h;cases h
  |cons q r ih=>
   intro h;rw[zar,zbo];by_cases e:q=p
   .subst e;simp
   .have:decide (aW q=aW p)=false:=zaA λz=>e (lR z)
    dsimp only
    rw[this];exact ih ((zay.mp h).resolve_left λz=>e z.symm)
 exact key ks _ h
theorem Bj(h:p∉ks):eX (cR ks) (aW p) (.int (ks.length:Int))=cR (ks++[p]):=by
 unfold eX;rw[rj,if_neg (by simpa using h)];unfold cR;rw[zaC];congr 1
 .refine zbw λq hq=>?_;rw[List.idxOf_append,if_pos hq]
 .rw[List.map_singleton,List.idxOf_append,if_neg h];simp
theorem Gu(h0:fe en=some (.int (ks.length:Int),en))(h1:fk en=some (prD p,en))(hi:(en[i]?).join=some (ju ks))(hl:ks.length<50000)(hp:p∉ks):eF i fk fe en=some (.nx (en.set i (some (ju (ks++[p]))))):=by
 unfold eF;rw[h0];simp only[Option.bind_some,hi,h1];rw[gY];show(bK ((aW p).map oD)).bind (λk=>(dJ (tkL (cR ks))).bind λkvs=>if kvs.length<sizeLine/\scaD (.int (ks.length:Int))=true then some (Fl.nx (en.set i (some (.dict (tkL (eX kvs k (.int (ks.length:Int))))))))else none)=_;rw[gq,so];show(if(cR ks).length<sizeLine/\scaD (.int (ks.length:Int))=true then some (Fl.nx (en.set i (some (.dict (tkL (eX (cR ks) (aW p) (.int (ks.length:Int))))))))else none)=_;rw[if_pos ⟨by unfold cR;rw[zad];exact eV (by lia),rfl⟩,Bj hp];rfl
theorem AH(h1:f en=some (prD p,en))(hi:(en[i]?).join=some (ju ks))(hp:p∈ks):nk i f en=some (.int (ks.idxOf p:Int),en):=by
 unfold nk;rw[hi,h1];simp only[Option.bind_some,hi];rw[gY];show(bK ((aW p).map oD)).bind (λk=>(dJ (tkL (cR ks))).bind λkvs=>(kvs.find? λq=>decide (q.1=k)).map λq=>(q.2,en))=_;rw[gq,so];show((cR ks).find? λq=>decide (q.1=aW p)).map (λq=>(q.2,en))=_;rw[wz hp];rfl
def oPD:Option Pr->D
 |none=>.none
 |some q=>prD q
def nbW(G H:Gr)(w:Nat)(p:Pr):List (Option Pr):=(List.range w).map λa=>if cW (nxP G H p a)=true then none else some (nxP G H p a)
theorem GH(G H:Gr)(w:Nat)(p:Pr):((List.range w).map (nxP G H p)).map (orN cW)=(nbW G H w p).map oPD:=by
 unfold nbW;rw[zaR,zaR];refine zbw λa _=>?_;show orN cW (nxP G H p a)=oPD (if cW (nxP G H p a)=true then none else some (nxP G H p a));unfold orN;split<;>rfl
theorem rP(e:EnP):∀(a b:List (Option Pr)) (T:List EnP) (j:Nat),flP e T j (a++b)=flP e (flP e T j a) (j+a.length) b
 |[],b,T,j=>rfl
 |x::a,b,T,j=>by
  show flP e (stP e T j x) (j+1) (a++b)=flP e (flP e (stP e T j x) (j+1) a) _ b;rw[rP e a b];congr 1;show j+1+a.length=j+(a.length+1)
  lia
theorem p8(e:EnP)(l:List (Option Pr))(T:List EnP)(i:Nat):flP e T 0 (l.take i) <+: flP e T 0 l:=by
 have:=rP e (l.take i) (l.drop i) T 0;rw[List.take_append_drop]at this;rw[this];exact gZ _ _ _ _
theorem lG{A B:List EnP}(h:A <+: B):ar A <+: ar B:=by
 obtain⟨l,rfl⟩:=h;show List.map _ A <+: List.map _ (A++l);rw[zaC];exact List.prefix_append _ _
theorem A6{a b:List Pr}(h:a <+: b)(hp:p∈a):a.idxOf p=b.idxOf p:=by
 obtain⟨l,rfl⟩:=h;rw[List.idxOf_append,if_pos hp]
theorem Ca{F:List D->Option (D×En)}{fa:MA}(h:en[i]?=some (some (.dict (fnK a))))(k:W (am F fa en) Q):W (gA i a F fa en) Q:=by
 have:gA i a F fa en=am F fa en:=by
  unfold gA;rw[h];show(if(a:Int)=(a:Int)then _ else _)=_;rw[if_pos rfl]
 rw[this];exact k
section
variable{e1 e2:List Bool} 
theorem EO(M:Mx w e1 G)(N:Mx w e2 H)(hp:InM G.length H.length p):W (dH [prD p,mD e1 G,mD e2 H]) (λr=>r=(.list ((nbW G H w p).map oPD),[some (prD p),some (mD e1 G),some (mD e2 H)])):=by
 show W (jZ [some (prD p),some (mD e1 G),some (mD e2 H)]) _;simp only[ws,jZ];refine W.ue (vR M N hp) ?_;rw[GH];simp only[ws]
noncomputable def dh(F:List Pr)(l:List (Option Pr)):List (Option Nat):=l.map λo=>o.map λq=>F.idxOf q
theorem wX{l:List (Option Pr)}{F:List Pr}(hl:l.length<=12)(t:TPk C T)(he:e∈T)(hw:∀k,some k∈l->C k)(hF:ar (flP e T 0 l) <+: F)(hz:F.length<=300){x0 x1 x3 x6 x7 o9:Option D}{Q:Fl->Prop}
  (q:∀o9,Q (.nx [x0,x1,x2,x3,some (ju (ar (flP e T 0 l))),some (.list ((ar (flP e T 0 l)).map prD)),x6,x7,some (.list ((dh F l).map goD)),o9])):
  W (cA (gN 9) (eJ a dH) (l.map oPD) [x0,x1,x2,x3,some (ju (ar T)),some (.list ((ar T).map prD)),x6,x7,some (.list []),o9]) Q:=by
 refine dS (λi en=>∃o9,en=[x0,x1,x2,x3,some (ju (ar (flP e T 0 (l.take i)))),some (.list ((ar (flP e T 0 (l.take i))).map prD)),x6,x7,some (.list ((dh F (l.take i)).map goD)),o9]) ⟨o9,rfl⟩ ?_ ?_
 .rintro i t' en ht ⟨o9,rfl⟩;obtain⟨w,hw',rfl⟩:=gm ht;have hi:=(zah.mp hw').1;have et:l.take (i+1)=l.take i++[w]:=tk hw';have ef:flP e T 0 (l.take (i+1))=stP e (flP e T 0 (l.take i)) i w:=by
   rw[et,lT,zaE,Nat.min_eq_left (by lia),za3]
  have pre1:=(lG (p8 e l T (i+1))).trans hF;have tk1:=p9 (l.take i) (i:=0) t he (by rw[zaE];lia) λk z=>hw k (List.mem_of_mem_take z);have er:dh F (l.take (i+1))=dh F (l.take i)++[w.map λq=>F.idxOf q]:=by
   unfold dh;rw[et,zaC];rfl
  have rl:(dh F (l.take i)).length<=12:=by
   unfold dh;rw[zad,zaE]
   lia
  rw[er,ef];rw[ef]at pre1;generalize flP e T 0 (l.take i)=Ti at pre1 tk1;generalize dh F (l.take i)=rw0 at rl;have lz:(ar Ti).length<=300:=by
   have:=(lG (mX e Ti i w)).trans pre1
   have:=this.length_le
   lia
  have lz2:Ti.length<=300:=by rwa[zad]at lz
  cases w with
  |none=>
   simp only[ws,eJ,oPD];refine⟨eV (by lia),some .none,?_⟩;rw[zaC];rfl
  |some p=>
   have mp:p∈ar (stP e Ti i (some p)):=by
    show p∈ar (if p∈ar Ti then Ti else Ti++[⟨p,some (e.k,i),e.r++[i]⟩]);split
    .assumption
    .show p∈List.map (λe:EnP=>e.k) _;rw[zaC];exact zbg _ (by simp)
   have ex:=A6 pre1 mp;have nn:=GG (ar Ti) p;by_cases hk:p∈ar Ti
   .have es:stP e Ti i (some p)=Ti:=if_pos hk;rw[es]at ex ⊢;have e0:prD p=.tuple [goD p.1,goD p.2]:=rfl;rw[e0]at nn;simp only[ws,eJ,oPD,e0,nn,hk,decide_true,Bool.not_true];refine W.of (AH (ks:=ar Ti) (p:=p) rfl rfl hk) ?_;simp only[ws];refine⟨eV (by lia),some (.tuple [goD p.1,goD p.2]),?_⟩;rw[zaC,ex];rfl
   .have es:stP e Ti i (some p)=Ti++[⟨p,some (e.k,i),e.r++[i]⟩]:=if_neg hk;have ek:ar (Ti++[⟨p,some (e.k,i),e.r++[i]⟩])=ar Ti++[p]:=zaC;rw[es,ek]at ex mp ⊢;have e0:prD p=.tuple [goD p.1,goD p.2]:=rfl;rw[e0]at nn;simp only[ws,eJ,oPD,e0,nn,hk,decide_false,Bool.not_false];refine W.of (Gu (ks:=ar Ti) (p:=p) (by show some (PyData.int (((ar Ti).map prD).length:Int),_)=_;rw[zad]) rfl rfl (by lia) hk) ?_;simp only[ws];refine⟨eV (by lia),?_⟩;refine W.of (AH (ks:=ar Ti++[p]) (p:=p) rfl rfl mp) ?_;simp only[ws];refine⟨eV (by lia),some (.tuple [goD p.1,goD p.2]),?_⟩;rw[zaC,zaC,ex];rfl
 .rintro en ⟨o9,rfl⟩;rw[zad,zaQ];exact q o9
end
section
variable{e1 e2:List Bool}  
def aV(nb:Pr->List (Option Pr))(S:List Pr):List Pr:=ar (TPf nb S)
def bT(nb:Pr->List (Option Pr))(S:List Pr)(n:Nat):Gr:=(List.range n).map λi=>match (TPf nb S)[i]? with
 |some e=>dh (aV nb S) (nb e.k)
 |none=>[]
theorem k4(p:Pr):(nbW G H w p).length=w:=by
 unfold nbW;rw[zad,zbe]
theorem qK(M:Mx w e1 G)(N:Mx w e2 H)(f:Fnd C (nbW G H w) S)(hC:∀p,C p->InM G.length H.length p):
  W (dG a dH [prD p00,.dict (fnK a),mD e1 G,mD e2 H]) (λr=>∃o,r=(.tuple [.list ((aV (nbW G H w) S).map prD),.list ((bT (nbW G H w) S (TPf (nbW G H w) S).length).map aS)],o)):=by
 have w12:=M.w12;have fz:=f.sz;have fl:=f.len S.length;have fl2:(TPf (nbW G H w) S).length<=300:=zau fl fz;simp only[ws,dG,kP];refine W.of (show ii (ac 0) (eC (.int 0)) [some (prD p00),some (.dict (fnK a)),some (mD e1 G),some (mD e2 H),none,none,none,none,none,none]=some (ju [p00],[some (prD p00),some (.dict (fnK a)),some (mD e1 G),some (mD e2 H),none,none,none,none,none,none])from rfl) ?_;simp only[ws];refine lm (λm en=>∃n o7 o8 o9,en=[some (prD p00),some (.dict (fnK a)),some (mD e1 G),some (mD e2 H),some (ju (ar (TP (nbW G H w) n))),some (.list ((ar (TP (nbW G H w) n)).map prD)),some (.list ((bT (nbW G H w) S n).map aS)),o7,o8,o9]/\n<=(TP (nbW G H w) n).length/\m=301-n) ?_ ⟨0,_,_,_,rfl,zbj _,rfl⟩;rintro m en ⟨n,o7,o8,o9,rfl,h1,rfl⟩;have t:=f.ok n;have ln:=f.len n;have rl:(bT (nbW G H w) S n).length=n:=by unfold bT;rw[zad,zbe]
 by_cases hn:n<(TP (nbW G H w) n).length
 .obtain⟨e,he⟩:∃e,(TP (nbW G H w) n)[n]?=some e:=⟨_,zak hn⟩;have em:=zaX he;have ce:=t.c e em;have up:TP (nbW G H w) (n+1)=flP e (TP (nbW G H w) n) 0 (nbW G H w e.k):=by
   show dy _ (TP (nbW G H w) n) n=_;unfold dy;rw[he]
  have d1:decide ((n:Int)<((TP (nbW G H w) n).length:Nat))=true:=by
   rw[zbi]
   lia
  have ea:atI ((ar (TP (nbW G H w) n)).map prD) (n:Int)=some (prD e.k):=by
   rw[c8,zao,zao,he];rfl
  have pf:=f.pre (n+1);have ef:(TPf (nbW G H w) S)[n]?=some e:=by
   obtain⟨l,hl⟩:=f.pre n;rw[<-hl,zaS hn];exact he
  have er:bT (nbW G H w) S (n+1)=bT (nbW G H w) S n++[dh (aV (nbW G H w) S) (nbW G H w e.k)]:=by
   unfold bT;rw[List.range_succ,zaC,List.map_singleton,ef]
  simp only[ws,iW,lA,zad,rl,d1,ea];refine Ca rfl ?_;simp only[ws,lj];refine W.ue (EO M N (hC _ ce)) ?_;simp only[ws];refine wX (T:=TP (nbW G H w) n) (e:=e) (F:=aV (nbW G H w) S) (C:=C) (by rw[k4];exact w12) t em (f.c e.k ce) (by rw[<-up];exact lG pf) (by unfold aV;rw[zad];exact fl2) λo9'=>?_;simp only[ws];have l1:n+1<=(TP (nbW G H w) (n+1)).length:=by
   have:=(gZ e (nbW G H w e.k) (TP (nbW G H w) n) 0).length_le;rw[up]
   lia
  rw[<-up];refine⟨eV (by lia),301-(n+1),by lia,n+1,some (prD e.k),some (.list ((dh (aV (nbW G H w) S) (nbW G H w e.k)).map goD)),o9',?_,l1,rfl⟩;rw[er,zaC];rfl
 .have d1:decide ((n:Int)<((TP (nbW G H w) n).length:Nat))=false:=by
   rw[zbp]
   lia
  have ef:=f.fin (by lia) h1;have nl:n=(TPf (nbW G H w) S).length:=by rw[<-ef];lia
  simp only[ws,iW,zad,rl,d1];rw[ef];rw[<-nl];exact⟨_,rfl⟩
end
end W35
namespace W35c
variable{N j i n:Nat}{w:Option Nat}{G:Gr}{es:List Bool}
open PySem L2 Mch
open W35 (bX dZ bI dE cJ dU hV gC fm bW dY cK)
abbrev Gr:=List (List (Option Nat))
structure Ent where
 k:Nat
 p:Option (Nat×Nat)
 r:List Nat
variable{T:List Ent}{e:Ent}
abbrev keys(T:List Ent):List Nat:=T.map (·.k)
noncomputable def st35(e:Ent)(T:List Ent)(i:Nat):Option Nat->List Ent
 |none=>T
 |some k=>if k∈keys T then T else T++[⟨k,some (e.k,i),e.r++[i]⟩]
def fol(e:Ent):List Ent->Nat->List (Option Nat)->List Ent
 |T,_,[]=>T
 |T,i,w::r=>fol e (st35 e T i w) (i+1) r
theorem p0(e:Ent):∀(l:List (Option Nat)) (T:List Ent) (j:Nat) (w:Option Nat),fol e T j (l++[w])=st35 e (fol e T j l) (j+l.length) w
 |[],T,j,w=>rfl
 |x::l,T,j,w=>by
  show fol e (st35 e T j x) (j+1) (l++[w])=st35 e (fol e (st35 e T j x) (j+1) l) _ w;rw[p0 e l];congr 1;show j+1+l.length=j+(l.length+1)
  lia
def nxtT(G:Gr)(T:List Ent)(n:Nat):List Ent:=match T[n]? with
 |some e=>fol e T 0 ((G[e.k]?).getD [])
 |none=>T
def TT(G:Gr):Nat->List Ent
 |0=>[⟨0,none,[]⟩]
 |n+1=>nxtT G (TT G n) n
structure TOk35(N:Nat)(T:List Ent):Prop where
 nd:(keys T).Nodup
 lt:∀e∈T,e.k<N
 h0:T[0]?=some ⟨0,none,[]⟩
 par:∀(i:Nat) (e:Ent),T[i]?=some e->(e.p=none/\e.r=[])\/∃(j:Nat) (f:Ent) (s:Nat),j<i/\T[j]?=some f/\e.p=some (f.k,s)/\e.r=f.r++[s]
 rl:∀(i:Nat) (e:Ent),T[i]?=some e->e.r.length<=i
theorem qR:∀{cs A:List Nat},cs.Nodup->(∀c∈cs,c∈A)->cs.length<=A.length
 |[],_,_,_=>zbj _
 |c::cs,A,nd,h=>by
  have hc:=h c zaq;obtain⟨n1,n2⟩:=zbb.mp nd;have ih:=qR (A:=A.erase c) n2 λx hx=>(List.mem_erase_of_ne (λz:x=c=>n1 (by rw[<-z];exact hx))).mpr (h x (zaj _ hx));rw[List.length_erase_of_mem hc]at ih
  have:=List.length_pos_of_mem hc;rw[zac]
  lia
theorem TOk35.len(t:TOk35 N T):T.length<=N:=by
 have:=qR (A:=List.range N) t.nd λc hc=>by
  obtain⟨e,he,rfl⟩:=zaz.mp hc;exact zbr.mpr (t.lt e he)
 rwa[zbe,zad]at this
theorem D9(t:TOk35 N T)(he:T[j]?=some e)(hw:∀k,w=some k->k<N):TOk35 N (st35 e T i w):=by
 cases w with
 |none=>exact t
 |some k=>
  show TOk35 N (if k∈keys T then T else T++[⟨k,some (e.k,i),e.r++[i]⟩]);by_cases hk:k∈keys T
  .rw[if_pos hk];exact t
  .rw[if_neg hk];have hj:=(zah.mp he).1;refine⟨?_,λf hf=>?_,?_,λm f hm=>?_,λm f hm=>?_⟩
   .show(List.map _ (T++_)).Nodup;rw[zaC,List.nodup_append];exact⟨t.nd,by simp,λa ha b hb z=>hk (by
     have hb':b=k:=zaH.mp hb;rw[<-hb',<-z];exact ha)⟩
   .rcases zax.mp hf with hf|hf
    .exact t.lt f hf
    .rw[zaH.mp hf];exact hw k rfl
   .rw[zaS (by lia)];exact t.h0
   .by_cases hm':m<T.length
    .rw[zaS hm']at hm;rcases t.par m f hm with h|⟨j',g,s,h1,h2,h3⟩
     .exact .inl h
     .exact .inr ⟨j',g,s,h1,by rw[zaS (by lia)];exact h2,h3⟩
    .rw[zbH (by lia)]at hm;have em:m-T.length=0:=by
      have:=(zah.mp hm).1;simp at this
      lia
     rw[em]at hm;cases hm;exact .inr ⟨j,e,i,by lia,by rw[zaS hj];exact he,rfl,rfl⟩
   .by_cases hm':m<T.length
    .rw[zaS hm']at hm;exact t.rl m f hm
    .rw[zbH (by lia)]at hm;have em:m-T.length=0:=by
      have:=(zah.mp hm).1;simp at this
      lia
     rw[em]at hm;cases hm
     have:=t.rl j e he;show(e.r++[i]).length<=m;rw[zae];show e.r.length+1<=m
     lia
theorem AW{f:Ent}(h:T[j]?=some f):(st35 e T i w)[j]?=some f:=by
 cases w with
 |none=>exact h
 |some k=>
  show(if k∈keys T then T else T++[(⟨k,some (e.k,i),e.r++[i]⟩:Ent)])[j]?=some f;split
  .exact h
  .rw[zaS (zah.mp h).1];exact h
theorem mw{N:Nat}{e:Ent}{j:Nat}:∀(r:List (Option Nat)) {T:List Ent} {i:Nat},TOk35 N T->T[j]?=some e->(∀k,some k∈r->k<N)->TOk35 N (fol e T i r)/\(fol e T i r)[j]?=some e
 |[],T,i,t,he,_=>⟨t,he⟩
 |w::r,T,i,t,he,hw=>mw r (D9 t he λk z=>hw k (by rw[z];exact zaq)) (AW he) λk z=>hw k (zaj _ z)
structure GOk(G:Gr):Prop where
 n1:1<=G.length
 n:G.length<=1000
 w:∀r∈G,r.length<=12
 lt:∀r∈G,∀k,some k∈r->k<G.length
theorem mJ{G:Gr}(g:GOk G):∀n,TOk35 G.length (TT G n)
 |0=>by
  have:=g.n1;refine⟨by simp[TT,keys],λe he=>?_,rfl,λi e he=>?_,λi e he=>?_⟩
  .rw[show TT G 0=[⟨0,none,[]⟩]from rfl]at he;rw[zaH.mp he];show 0<_
   lia
  .cases i with
   |zero=>cases he;exact .inl ⟨rfl,rfl⟩
   |succ i=>simp[TT]at he
  .cases i with
   |zero=>cases he;exact zbj _
   |succ i=>simp[TT]at he
 |n+1=>by
  have ih:=mJ g n;show TOk35 _ (nxtT G (TT G n) n);unfold nxtT;cases h:(TT G n)[n]? with
  |none=>exact ih
  |some e=>
   have hk:=ih.lt e (zaX h);refine(mw _ ih h λk hk'=>?_).1;rw[zak hk]at hk';exact g.lt _ (zaK hk) k hk'
theorem rZ{G:Gr}{n:Nat}(h:(TT G n).length<=n):∀m,TT G (n+m)=TT G n
 |0=>rfl
 |m+1=>by
  show nxtT G (TT G (n+m)) (n+m)=_;rw[rZ h m];unfold nxtT;rw[zbl (by lia)]
theorem Ga(g:GOk G)(h:(TT G n).length<=n)(h2:n<=(TT G n).length):TT G n=TT G G.length:=by
 have:=(mJ g n).len;rw[<-rZ h (G.length-n)];congr 1
 lia
noncomputable def iD(k:Nat):D:=.int (k:Int)
def nD(l:List Nat):D:=.list (l.map iD)
def hZ:Option (Nat×Nat)->D
 |none=>.none
 |some (h,s)=>.tuple [iD h,iD s]
def kvf(f:Ent->D)(e:Ent):D×D:=(iD e.k,f e)
def FJ(f:Ent->D)(T:List Ent):D:=.dict (T.map (kvf f))
theorem sY(a b:Nat):kEq (iD a) (iD b)=decide (a=b):=by
 show((a:Int)==(b:Int))=_;rw[Bool.eq_iff_iff,beq_iff_eq,zbi]
 lia
theorem Ez(f:Ent->D)(T:List Ent):noT (T.map (kvf f))=true:=by
 cases T<;>rfl
theorem rQ(f:Ent->D)(T:List Ent)(k:Nat):((T.map (kvf f)).find? λq=>kEq q.1 (iD k)).isSome=decide (k∈keys T):=by
 induction T with
 |nil=>rfl
 |cons a T ih=>
  rw[zar,zbo];show(match kEq (iD a.k) (iD k)with|true=>some (kvf f a)|false=>_).isSome=decide (k∈a.k::keys T);rw[sY];by_cases h:a.k=k
  .subst h;simp
  .simp only[h,decide_false];rw[ih];simp[Ne.symm h]
theorem EA(f:Ent->D)(T:List Ent)(k:Nat):kx (iD k) (FJ f T)=some (.bool (!decide (k∈keys T))):=by
 show(if noT (T.map (kvf f))=true then some (PyData.bool (!(bo (T.map (kvf f)) (iD k)).isSome))else none)=_;rw[if_pos (Ez f T)];unfold bo;rw[Option.isSome_map,rQ]
theorem FU(f:Ent->D)(T:List Ent)(k:Nat):((T.map (kvf f)).any λq=>kEq q.1 (iD k))=decide (k∈keys T):=by
 rw[<-rQ f]
 induction T with
 |nil=>rfl
 |cons a T ih=>
  rw[zar,List.any_cons,zbo,ih];cases kEq (kvf f a).1 (iD k)<;>simp
theorem Eh{f:Ent->D}{k:Nat}(h:k∉keys T)(v:D):iU (T.map (kvf f)) (iD k) v=T.map (kvf f)++[(iD k,v)]:=by
 unfold iU;rw[if_neg (by rw[FU];simpa using h)]
theorem rE{f:Ent->D}:∀{T:List Ent} {i:Nat} {e:Ent},(keys T).Nodup->T[i]?=some e->bo (T.map (kvf f)) (iD e.k)=some (f e)
 |[],i,e,_,h=>by simp at h
 |a::T,0,e,_,h=>by
  cases h;unfold bo;rw[zar,zbo];show Option.map _ (match kEq (iD a.k) (iD a.k)with|true=>some (kvf f a)|false=>_)=_;rw[sY,zaB rfl];rfl
 |a::T,i+1,e,nd,h=>by
  have h':T[i]?=some e:=by simpa using h
  have nd':=zbb.mp (show(a.k::keys T).Nodup from nd);have ne:a.k≠e.k:=λz=>nd'.1 (by rw[z];exact List.mem_map_of_mem (zaX h'));have ih:=rE (f:=f) nd'.2 h';unfold bo at ih ⊢;rw[zar,zbo];show Option.map _ (match kEq (iD a.k) (iD e.k)with|true=>some (kvf f a)|false=>_)=_;rw[sY,zaA ne];exact ih
def szB(h:n<=100000):n<=sizeLine:=zau h (by decide)
def eV(h:n<100000):n<sizeLine:=zag h (by decide)
def gf(T:List Ent):D:=FJ (λe=>hZ e.p) T
def ahD(T:List Ent):D:=nD (keys T)
theorem wP(T:List Ent)(e:Ent):nD (keys (T++[e]))=.list ((keys T).map iD++[iD e.k]):=by
 show PyData.list _=_;rw[show keys (T++[e])=keys T++[e.k]from zaC,zaC];rfl
def rp(T:List Ent)(k:Nat):kx (.int (k:Int)) (gf T)=some (.bool (!decide (k∈keys T))):=EA _ _ _
theorem B7(T:List Ent)(k h s:Nat)(r:List Nat):gf (T++[⟨k,some (h,s),r⟩])=.dict (T.map (kvf λe=>hZ e.p)++[(iD k,.tuple [iD h,iD s])]):=by
 show PyData.dict _=_;rw[zaC];rfl
theorem tQ{r:List (Option Nat)}(t:TOk35 N T)(hN:N<=1000)(he:T[n]?=some e)(hr:∀k,some k∈r->k<N){x0 x1 x4 o6 o7:Option D}{P:Fl->Prop}
  (hP:∀o6 o7,P (.nx [x0,x1,some (gf (fol e T 0 r)),some (ahD (fol e T 0 r)),x4,some (.int (e.k:Int)),o6,o7])):
  W (cA (gT (gsC (gN 6) (gsC (gN 7) gs0))) bI (dP (r.map goD)) [x0,x1,some (gf T),some (ahD T),x4,some (.int (e.k:Int)),o6,o7]) P:=by
 refine dS (λi en=>∃o6 o7,en=[x0,x1,some (gf (fol e T 0 (r.take i))),some (ahD (fol e T 0 (r.take i))),x4,some (.int (e.k:Int)),o6,o7]) ⟨o6,o7,rfl⟩ ?_ ?_
 .rintro i t' en ht ⟨p6,p7,rfl⟩;obtain⟨u,hu,rfl⟩:=iC ht;rw[zao]at hu;obtain⟨w,hw,rfl⟩:=zab.mp hu;have hi:=(zah.mp hw).1;have et:r.take (i+1)=r.take i++[w]:=by rw[List.take_succ,hw];rfl
  have ef:fol e T 0 (r.take (i+1))=st35 e (fol e T 0 (r.take i)) i w:=by
   rw[et,p0,zaE,Nat.min_eq_left (by lia),za3]
  rw[ef];obtain⟨tk,_⟩:=mw (r.take i) (i:=0) t he λk z=>hr k (List.mem_of_mem_take z);generalize fol e T 0 (r.take i)=Ti at tk;have ln:=tk.len;cases w with
  |none=>
   simp only[ws,bI,goD];exact⟨_,_,rfl⟩
  |some k=>
   by_cases hk:k∈keys Ti
   .simp only[ws,bI,goD,rp,hk];exact⟨_,_,by rw[show st35 e Ti i (some k)=if k∈keys Ti then Ti else _ from rfl,if_pos hk]⟩
   .simp only[ws,bI,goD,rp,hk];refine F8 ?_;simp only[ws];refine⟨⟨_,rfl⟩,_,rfl,rfl,eV (by rw[zad];lia),?_⟩;have ed:iU (Ti.map (kvf λe=>hZ e.p)) (.int (k:Int)) (.tuple [.int (e.k:Int),.int (i:Int)])=Ti.map (kvf λe=>hZ e.p)++[(iD k,.tuple [iD e.k,iD i])]:=Eh hk _;simp only[ws,ed,ahD,nD];have es:st35 e Ti i (some k)=Ti++[⟨k,some (e.k,i),e.r++[i]⟩]:=if_neg hk;have e3:=B7 Ti k e.k i (e.r++[i]);have e4:PyData.list ((keys (Ti++[⟨k,some (e.k,i),e.r++[i]⟩])).map iD)=.list ((keys Ti).map iD++[.int (k:Int)]):=wP Ti _;refine⟨eV (by lia),some (.int (i:Int)),some (.int (k:Int)),?_⟩;rw[es,e3,e4]
 .rintro en ⟨p6,p7,rfl⟩;rw[iB,zad,zaQ];exact hP _ _
theorem B6(g:GOk G):W (bX [.list (G.map aS),.int 0]) (λr=>r=(gf (TT G G.length),[none,none])):=by
 have gn:=g.n;simp only[ws,bX,dZ];refine W.of (show k8 [(eS3 (ac 1),eC .none)] [some (.list (G.map aS)),some (.int 0),none,none,none,none,none,none]=some (gf (TT G 0),[some (.list (G.map aS)),some (.int 0),none,none,none,none,none,none])from rfl) ?_;simp only[ws];refine lm (λm en=>∃n o5 o6 o7,en=[some (.list (G.map aS)),some (.int 0),some (gf (TT G n)),some (ahD (TT G n)),some (.int (n:Int)),o5,o6,o7]/\n<=(TT G n).length/\m=G.length-n) ?_ ⟨0,_,_,_,rfl,zbj _,rfl⟩;rintro m en ⟨n,o5,o6,o7,rfl,h1,rfl⟩;have t:=mJ g n;have ln:=t.len;by_cases hn:n<(TT G n).length
 .obtain⟨e,he⟩:∃e,(TT G n)[n]?=some e:=⟨_,zak hn⟩;have hk:=t.lt e (zaX he);obtain⟨r,hr⟩:∃r,G[e.k]?=some r:=⟨_,zak hk⟩;have d1:decide ((n:Int)<((TT G n).length:Nat))=true:=by
   rw[zbi]
   lia
  have e1:atI ((keys (TT G n)).map iD) (n:Int)=some (.int (e.k:Int)):=by
   rw[c8,zao,zao,he];rfl
  have e2:atI (G.map aS) (e.k:Int)=some (.list (r.map goD)):=by rw[c8,zao,hr];rfl
  simp only[ws,cJ,dE,ahD,nD,d1,e1,e2];have ci:=tQ (x0:=some (.list (G.map aS))) (x1:=some (.int 0)) (x4:=some (.int (n:Int))) (o6:=o6) (o7:=o7) t gn he (g.lt r (zaX hr)) (P:=λf=>∃o6 o7,f=.nx [some (.list (G.map aS)),some (.int 0),some (gf (TT G (n+1))),some (ahD (TT G (n+1))),some (.int (n:Int)),some (.int (e.k:Int)),o6,o7]) λp6 p7=>⟨p6,p7,by
   have:TT G (n+1)=fol e (TT G n) 0 r:=by
    show nxtT G (TT G n) n=_;unfold nxtT;rw[he];show fol e _ 0 ((G[e.k]?).getD [])=_;rw[hr];rfl
   rw[this]⟩
  refine W.use ci ?_;rintro _ ⟨p6,p7,rfl⟩;simp only[ws];have t':=(mJ g (n+1)).len;have up:n+1<=(TT G (n+1)).length:=by
   have:TT G (n+1)=fol e (TT G n) 0 r:=by
    show nxtT G (TT G n) n=_;unfold nxtT;rw[he];show fol e _ 0 ((G[e.k]?).getD [])=_;rw[hr];rfl
   rw[this]
   have:=(zah.mp (mw r (i:=0) t he (g.lt r (zaX hr))).2).1
   lia
  exact⟨G.length-(n+1),by lia,n+1,_,_,_,rfl,up,rfl⟩
 .have d1:decide ((n:Int)<((TT G n).length:Nat))=false:=by
   rw[zbp]
   lia
  simp only[ws,cJ,ahD,nD,d1];rw[Ga g (by lia) h1]
def rL(nd:(keys T).Nodup)(h:T[i]?=some e):qi (gf T) (.int (e.k:Int))=some (hZ e.p):=rE (f:=λe=>hZ e.p) nd h
theorem Hk(t:TOk35 N T)(hN:N<=1000)(he:T[i]?=some e):W (dU [gf T,.int (e.k:Int)]) (λr=>r=(nD e.r,[none,none])):=by
 have tl:=t.len;have il:=(zah.mp he).1;have el:=t.rl i e he;simp only[ws,dU,hV,rL t.nd he];refine lm (λm en=>∃j f rs,en=[some (gf T),some (.int (e.k:Int)),some (.list (rs.map iD)),some (hZ f.p)]/\T[j]?=some f/\e.r=f.r++rs.reverse/\m=j) ?_ ⟨i,e,[],rfl,he,by simp,rfl⟩;rintro m en ⟨j,f,rs,rfl,h1,h2,rfl⟩;have lr:f.r.length+rs.length=e.r.length:=by rw[h2,zae,List.length_reverse]
 rcases t.par m f h1 with⟨p1,p2⟩|⟨j,f',s,p1,p2,p3,p4⟩
 .rw[p1];have er:oI [.list (rs.map iD)]=some (nD e.r):=by
   show some (PyData.list (rs.map iD).reverse)=_;rw[<-List.map_reverse,h2,p2,List.nil_append];rfl
  simp only[ws,fm,hZ,er]
 .rw[p3];simp only[ws,fm,gC,hZ,iD,rL t.nd p2];refine⟨eV (by lia),j,p1,j,f',rs++[s],?_,p2,?_,rfl⟩
  .rw[zaC];rfl
  .rw[h2,p4,List.reverse_append,List.append_assoc];rfl
noncomputable def isE(es:List Bool)(e:Ent):Bool:=es.getD e.k false
theorem Ha(h:e.k<es.length):atI (es.map PyData.bool) (e.k:Int)=some (.bool (isE es e)):=by
 unfold isE;rw[c8,zao,zak h,zbh,zak h];rfl
def frD(es:List Bool)(T:List Ent):D:=match T.find? (isE es)with
 |some e=>nD e.r
 |none=>.none
theorem Bw(T:List Ent):kys (T.map (kvf λe=>hZ e.p))=T.map λe=>iD e.k:=by
 unfold kys;rw[zaR];rfl
theorem first_ok(g:GOk G)(hes:es.length=G.length):W (bW [.tuple [.list (es.map .bool),.list (G.map aS)],.int 0]) (λr=>r=(frD es (TT G G.length),[none,none])):=by
 have gn:=g.n;have t:=mJ g G.length;simp only[ws,bW,dY];refine W.use (B6 g) ?_;rintro _ rfl;simp only[ws];generalize TT G G.length=T at t;refine Hc (ks:=T.map (kvf λe=>hZ e.p)) rfl ?_;rw[Bw];simp only[ws,if_true];refine dS (λi en=>∃o,en=[some (.tuple [.list (es.map .bool),.list (G.map aS)]),some (.int 0),some (gf T),o]/\∀e∈T.take i,isE es e=false) ⟨none,rfl,λe z=>by simp at z⟩ ?_ ?_
 .rintro i t' en ht ⟨o,rfl,h1⟩;rw[zao]at ht;obtain⟨e,he,rfl⟩:=zab.mp ht;have et:T.take (i+1)=T.take i++[e]:=by rw[List.take_succ,he];rfl
  have hk:=t.lt e (zaX he);have ae:=Ha (es:=es) (e:=e) (by lia);cases hb:isE es e with
  |true=>
   rw[hb]at ae;simp only[ws,cK,iD,ae];refine W.use (Hk t gn he) ?_;rintro _ rfl;simp only[ws]
   have:frD es T=nD e.r:=by
    unfold frD
    have:T.find? (isE es)=some e:=by
     rw[List.find?_eq_some_iff_getElem];obtain⟨q1,q2⟩:=zah.mp he;refine⟨hb,i,q1,q2,λj hj=>?_⟩;rw[h1 (T[j]'(by lia)) (by rw[List.mem_take_iff_getElem];exact⟨j,by lia,rfl⟩)];rfl
    rw[this]
   rw[this]
  |false=>
   rw[hb]at ae;simp only[ws,cK,iD,ae];refine⟨_,rfl,λf hf=>?_⟩;rw[et]at hf;rcases zax.mp hf with hf|hf
   .exact h1 f hf
   .rw[zaH.mp hf];exact hb
 .rintro en ⟨o,rfl,h1⟩;rw[zad,zaQ]at h1
  have:frD es T=.none:=by
   unfold frD
   have:T.find? (isE es)=none:=by
    rw[zbF];intro e he;rw[h1 e he];simp
   rw[this]
  simp only[ws,this]
end W35c
namespace W35
variable{en:En}{Q:D×En->Prop}{F S:List Pr}{p q:Pr}{T:List EnP}{k i n m:Nat}{e:EnP}{w:Option Pr}{C:Pr->Prop}{nb:Pr->List (Option Pr)}{G H:Gr}{t:D}{x3:Option D}
open PySem L2 Mch
theorem F7{bs:List Bool}{ds':List Nat}{m:MS}{Q:Fl->Prop}(h:W (m en) (λfl=>∃en',fl=.nx en'/\Q (.nx (cS bs ds' en en')))):W (kZ bs ds' m en) Q:=by
 unfold kZ;rw[aq];refine W.use h ?_;rintro fl ⟨en',e,q⟩;subst e;exact(aC _ _).mpr q
theorem Eb(l:List Nat):oG 1 (some (W35c.nD l))=some (W35c.nD l):=by
 have:hW 0 (l.map W35c.iD)=true:=by
  induction l with
  |nil=>rfl
  |cons a l ih=>
   show(dM 0 (W35c.iD a)&&hW 0 (l.map W35c.iD))=true;rw[ih];rfl
 show(if dM 1 (.list (l.map W35c.iD))=true then some _ else none)=_;rw[if_pos (show dM 1 (.list (l.map W35c.iD))=true from this)]
noncomputable def cv(F:List Pr)(e:EnP):W35c.Ent:=⟨F.idxOf e.k,e.p.map λq=>(F.idxOf q.1,q.2),e.r⟩
theorem BC(hp:p∈F)(h:F.idxOf p=F.idxOf q)(hq:q∈F):p=q:=by
 have h1:=List.getElem_idxOf (List.idxOf_lt_length_of_mem hp);have h2:=List.getElem_idxOf (List.idxOf_lt_length_of_mem hq);rw[<-h1,<-h2];congr 1
theorem FQ(hT:∀e∈T,e.k∈F){k:Pr}(hk:k∈F):F.idxOf k∈W35c.keys (T.map (cv F))↔k∈ar T:=by
 show F.idxOf k∈List.map (λe:W35c.Ent=>e.k) (List.map (cv F) T)↔_;rw[zaR,zaz,zaz];constructor
 .rintro⟨e,he,h⟩;exact⟨e,he,BC (hT e he) h hk⟩
 .rintro⟨e,he,h⟩;exact⟨e,he,by show F.idxOf e.k=_;rw[h]⟩
theorem FP(hT:∀e∈T,e.k∈F)(hw:∀k,w=some k->k∈F):W35c.st35 (cv F e) (T.map (cv F)) i (w.map λq=>F.idxOf q)=(stP e T i w).map (cv F):=by
 cases w with
 |none=>rfl
 |some k=>
  have:=FQ hT (hw k rfl);show(if F.idxOf k∈W35c.keys (T.map (cv F))then _ else _)=List.map _ (if k∈ar T then T else T++[⟨k,some (e.k,i),e.r++[i]⟩]);by_cases h:k∈ar T
  .rw[if_pos h,if_pos (this.mpr h)]
  .rw[if_neg h,if_neg λz=>h (this.mp z),zaC];rfl
theorem AX(hT:∀e∈T,C e.k)(hw:∀k,w=some k->C k):∀f∈stP e T i w,C f.k:=by
 cases w with
 |none=>exact hT
 |some k=>
  intro f hf;have hf:f∈(if k∈ar T then T else T++[⟨k,some (e.k,i),e.r++[i]⟩]):=hf;split at hf
  .exact hT f hf
  .rcases zax.mp hf with hf|hf
   .exact hT f hf
   .rw[zaH.mp hf];exact hw k rfl
theorem vM{F:List Pr}{e:EnP}:∀(l:List (Option Pr)) {T:List EnP} {i:Nat},(∀e∈T,e.k∈F)->(∀k,some k∈l->k∈F)->W35c.fol (cv F e) (T.map (cv F)) i (dh F l)=(flP e T i l).map (cv F)
 |[],T,i,_,_=>rfl
 |w::l,T,i,hT,hl=>by
  show W35c.fol (cv F e) (W35c.st35 (cv F e) (T.map (cv F)) i (w.map λq=>F.idxOf q)) (i+1) (dh F l)=_;have hw:∀k,w=some k->k∈F:=λk z=>hl k (by rw[z];exact zaq);rw[FP hT hw];exact vM l (AX (C:=(·∈F)) hT hw) λk z=>hl k (zaj _ z)
theorem Fnd.atF(f:Fnd C nb S)(he:e∈TPf nb S):∃e',(TPf nb S)[(aV nb S).idxOf e.k]?=some e'/\e'.k=e.k/\(aV nb S).idxOf e.k<(TPf nb S).length:=by
 have hm:e.k∈aV nb S:=List.mem_map_of_mem he;have hl:=List.idxOf_lt_length_of_mem hm;have hl2:(aV nb S).idxOf e.k<(TPf nb S).length:=by
  have:(aV nb S).length=(TPf nb S).length:=zad _
  lia
 have h1:=List.getElem_idxOf hl;refine⟨(TPf nb S)[(aV nb S).idxOf e.k],zak hl2,?_,hl2⟩;have h2:(aV nb S)[(aV nb S).idxOf e.k]'hl=((TPf nb S)[(aV nb S).idxOf e.k]'hl2).k:=List.getElem_map ..;exact h2.symm.trans h1
theorem Fnd.lenL(f:Fnd C nb S):TP nb (TPf nb S).length=TPf nb S:=by
 have h1:=(f.pre (TPf nb S).length).length_le;have h2:=jc h1 (S.length-(TPf nb S).length);have h3:=f.len S.length
 have:(TPf nb S).length+(S.length-(TPf nb S).length)=S.length:=by
  have:(TPf nb S).length=(TP nb S.length).length:=rfl
  lia
 rw[this]at h2;exact h2.symm
theorem AM(f:Fnd C nb S):∀n,W35c.TT (bT nb S (TPf nb S).length) n=(TP nb n).map (cv (aV nb S))
 |0=>by
  have t:=f.ok S.length;have h0:(aV nb S).idxOf p00=0:=by
   unfold aV;have h:(TPf nb S)[0]?=some ⟨p00,none,[]⟩:=t.h0;cases q:TPf nb S with
   |nil=>rw[q]at h;cases h
   |cons a r=>
    rw[q]at h;cases h;show List.idxOf p00 (p00::_)=0;exact List.idxOf_cons_self
  show _=[cv (aV nb S) ⟨p00,none,[]⟩];unfold cv;rw[h0];rfl
 |n+1=>by
  have ih:=AM f n;have pre:=f.pre n;show W35c.nxtT _ (W35c.TT _ n) n=(dy nb (TP nb n) n).map _;rw[ih];unfold W35c.nxtT dy;rw[zao];cases h:(TP nb n)[n]? with
  |none=>rfl
  |some e=>
   have hm:=pre.subset (zaX h);obtain⟨e',g1,g2,g3⟩:=f.atF hm;have gr:(bT nb S (TPf nb S).length)[(aV nb S).idxOf e.k]?=some (dh (aV nb S) (nb e.k)):=by
    unfold bT;rw[zao,List.getElem?_range g3];show some (match (TPf nb S)[(aV nb S).idxOf e.k]? with|some e=>_|none=>_)=_;rw[g1];show some (dh _ (nb e'.k))=_;rw[g2]
   show W35c.fol (cv _ e) _ 0 (((bT nb S (TPf nb S).length)[(cv (aV nb S) e).k]?).getD [])=_;rw[show(cv (aV nb S) e).k=(aV nb S).idxOf e.k from rfl,gr];exact vM (nb e.k) (λe he=>List.mem_map_of_mem (pre.subset he)) λk hk=>f.closed hm hk
theorem gp(n:Nat):(bT nb S n).length=n:=by unfold bT;rw[zad,zbe]
theorem v6(f:Fnd C nb S):W35c.GOk (bT nb S (TPf nb S).length):=by
 have t:=f.ok S.length;have h0:=(zah.mp t.h0).1;have h0:0<(TPf nb S).length:=h0;have ln:=f.len S.length;have ln:(TPf nb S).length<=S.length:=ln;have sz:=f.sz;have row:∀r∈bT nb S (TPf nb S).length,∃e∈TPf nb S,r=dh (aV nb S) (nb e.k):=λr hr=>by
  unfold bT at hr;obtain⟨i,hi,rfl⟩:=zaz.mp hr;have hi:=zbr.mp hi;refine⟨(TPf nb S)[i],zaK hi,?_⟩;rw[zak hi]
 refine⟨by rw[gp];lia,by rw[gp];lia,λr hr=>?_,λr hr k hk=>?_⟩
 .obtain⟨e,_,rfl⟩:=row r hr;unfold dh;rw[zad];exact f.l e.k
 .obtain⟨e,he,rfl⟩:=row r hr;unfold dh at hk;obtain⟨o,ho,e1⟩:=zaz.mp hk;obtain⟨q,rfl,e2⟩:=zab.mp e1;have hq:=f.closed he ho
  have:=List.idxOf_lt_length_of_mem hq;rw[gp];have e3:(ar (TPf nb S)).length=(TPf nb S).length:=zad _;have e2:(ar (TPf nb S)).idxOf q=k:=e2
  lia
def bP(e1 e2:List Bool)(p:Pr):Bool:=!(a9 e2 p.2 || !a9 e1 p.1)
def jE(bad:Pr->Bool)(T:List EnP):D:=match T.find? (λe=>bad e.k)with
 |some e=>W35c.nD e.r
 |none=>.none
theorem Ft(f:Fnd C nb S)(bad:Pr->Bool):W35c.frD ((aV nb S).map bad) (W35c.TT (bT nb S (TPf nb S).length) (bT nb S (TPf nb S).length).length)=jE bad (TPf nb S):=by
 rw[gp,AM f,f.lenL];unfold W35c.frD jE;have key:∀T:List EnP,(∀e∈T,e∈TPf nb S)->(T.map (cv (aV nb S))).find? (W35c.isE ((aV nb S).map bad))=(T.find? λe=>bad e.k).map (cv (aV nb S)):=by
  intro T
  induction T with
  |nil=>intro _;rfl
  |cons e T ih=>
   intro h;rw[zar,zbo,zbo];have he:=h e zaq;have hm:e.k∈aV nb S:=List.mem_map_of_mem he;have hl:=List.idxOf_lt_length_of_mem hm
   have:W35c.isE ((aV nb S).map bad) (cv (aV nb S) e)=bad e.k:=by
    unfold W35c.isE;show((aV nb S).map bad).getD ((aV nb S).idxOf e.k) false=_;rw[zbh,zao,zak hl,List.getElem_idxOf hl];rfl
   rw[this];cases bad e.k
   .exact ih λx hx=>h x (zaj _ hx)
   .rfl
 rw[key _ λe he=>he];cases(TPf nb S).find? λe=>bad e.k<;>rfl
section
variable{w:Nat}{e1 e2:List Bool}  
def iK(bad:Pr->Bool)(T:List EnP):D:=match T.find? (λe=>bad e.k)with
 |some e=>.tuple [.str "out",W35c.nD e.r]
 |none=>.tuple [.str "within",.list ((ar T).map prD)]
theorem Bs{Fx:Nat->List D->Option (D×En)}{js:List Nat}{f:ME}{en1:En}{cs:List D}{r:D}(h1:f en=some (t,en1))(h2:kX en1 js=some cs)(h3:∀a:Nat,∃o,Fx a (t::.dict (fnK a)::cs)=some (r,o))(q:Q (r,en1)):W (e8 Fx js f en) Q:=by
 refine W.of ?_ q;unfold e8;rw[h1];show(kX en1 js).bind _=_;rw[h2];obtain⟨o,h0⟩:=h3 0;show(Fx 0 (t::.dict (fnK 0)::cs)).bind _=_;rw[h0];simp only[Option.bind_some];exact if_pos h3
theorem uf(M:Mx w e1 G)(N:Mx w e2 H)(g40:G.length<=40)(h40:H.length<=40)(f:Fnd C (nbW G H w) S)(hC:∀p,C p->InM G.length H.length p):
  W (b7 [mD e1 G,mD e2 H]) (λr=>r=(iK (bP e1 e2) (TPf (nbW G H w) S),[none,none])):=by
 have m1:=M.le;have m2:=N.le;have fz:=f.sz;have fl:(TPf (nbW G H w) S).length<=S.length:=f.len S.length;have ref:W (cq [.int 10000,mD e1 G,mD e2 H]) (λr=>r=(.none,[none,none,none])):=by
  have d:decide (((G.length:Int)+1)*((H.length:Int)+1)>10000)=false:=by
   rw[zbp]
   have:(G.length+1)*(H.length+1)<=41*41:=Nat.mul_le_mul (by lia) (by lia);have e:((G.length:Int)+1)*((H.length:Int)+1)=(((G.length+1)*(H.length+1):Nat):Int):=by push_cast;rfl
   rw[e]
   lia
  simp only[ws,cq,gM,mD,zad,m1,m2,d];exact .inl (by constructor<;>lia)
 simp only[ws,b7,nE];refine W.ue ref ?_;simp only[ws];have ex:∀a:Nat,∃o,dG a dH (.tuple [.int 0,.int 0]::.dict (fnK a)::[mD e1 G,mD e2 H])=some (.tuple [.list ((aV (nbW G H w) S).map prD),.list ((bT (nbW G H w) S (TPf (nbW G H w) S).length).map aS)],o):=λa=>by
  obtain⟨_,e,o,rfl⟩:=(qK M N f hC (a:=a)).ex;exact⟨o,e⟩
 refine Bs (t:=.tuple [.int 0,.int 0]) rfl rfl ex ?_;simp only[ws];refine F7 ?_;unfold oh;simp only[ws];have fr:=W35c.first_ok (es:=(aV (nbW G H w) S).map (bP e1 e2)) (v6 f) (by rw[zad,gp];exact zad _);rw[Ft f]at fr;refine FZ (bP e1 e2) (by unfold aV;rw[zad];lia) (λp hp=>?_) λo=>?_
 .obtain⟨e,he,rfl⟩:=zaz.mp hp;simp only[ws,om];refine W.ue (ud M N (hC _ ((f.ok S.length).c e he))) ?_;simp only[ws,bP]
 .have em:(aV (nbW G H w) S).map (λp=>PyData.bool (bP e1 e2 p))=((aV (nbW G H w) S).map (bP e1 e2)).map PyData.bool:=by rw[zaR];rfl
  rw[em];simp only[ws];refine W.ue fr ?_;simp only[ws];refine⟨_,rfl,?_⟩;unfold jE iK;cases hf:(TPf (nbW G H w) S).find? λe=>bP e1 e2 e.k with
  |none=>
   have s0:oG 1 (some (PyData.none))=some .none:=rfl;simp only[cS,s0,if_true,Bool.false_eq_true,if_false];simp only[ws]
   try rfl
  |some e=>
   have sn:=Eb e.r;simp only[cS,sn,if_true,Bool.false_eq_true,if_false];simp only[ws,W35c.nD]
   try rfl
end
noncomputable def dom:List Pr:=(List.range 18).flatMap λa=>(none::(List.range 18).map some).map λy=>(some a,y)
def hp(p:Pr):Int:=(hT (aW p)).getD 0
theorem xy:(dom.all λp=>(hT (aW p)).isSome)=true:=by decide +kernel
theorem FH:(dom.map hp).Nodup:=by decide +kernel
theorem E8(h1:p∈dom)(h2:q∈dom)(h:hp p=hp q):p=q:=by
 obtain⟨i,hi⟩:=zbq h1;obtain⟨j,hj⟩:=zbq h2;obtain⟨i1,i2⟩:=zah.mp hi;obtain⟨j1,j2⟩:=zah.mp hj;have nd:=List.pairwise_iff_getElem.mp FH;have il:i<(dom.map hp).length:=by rw[zad];exact i1
 have jl:j<(dom.map hp).length:=by rw[zad];exact j1
 have ei:(dom.map hp)[i]=hp p:=by rw[List.getElem_map,i2]
 have ej:(dom.map hp)[j]=hp q:=by rw[List.getElem_map,j2]
 rcases Nat.lt_trichotomy i j with c|c|c
 .exact absurd (by rw[ei,ej,h]) (nd i j il jl c)
 .subst c;rw[<-i2,<-j2]
 .exact absurd (by rw[ei,ej,h]) (nd j i jl il c)
theorem qP:∀F:List Pr,fS (F.map prD)=some (F.map aW)
 |[]=>rfl
 |p::F=>by
  rw[zar,gY];show(bK ((aW p).map oD)).bind (λk=>(fS (F.map prD)).map (k::·))=_;rw[gq,qP F];rfl
theorem AE:∀F:List Pr,(∀p∈F,p∈dom)->hTs (F.map aW)=some (F.map hp)
 |[],_=>rfl
 |p::F,h=>by
  have hs:=List.all_eq_true.mp xy p (h p zaq);obtain⟨a,ha⟩:=Option.isSome_iff_exists.mp hs;show(hT (aW p)).bind (λa=>(hTs (F.map aW)).map (a::·))=_;rw[AE F λq hq=>h q (zaj _ hq),ha]
  have:hp p=a:=by unfold hp;rw[ha];rfl
  rw[zar,this];rfl
theorem Au:∀{F:List Pr},(∀p∈F,p∈dom)->F.Nodup->(F.map hp).Nodup
 |[],_,_=>List.nodup_nil
 |p::F,h,nd=>by
  obtain⟨n1,n2⟩:=zbb.mp nd;rw[zar,zbb];refine⟨λz=>?_,Au (λq hq=>h q (zaj _ hq)) n2⟩;obtain⟨q,hq,e⟩:=zaz.mp z
  have:=E8 (h q (zaj _ hq)) (h p zaq) e;exact n1 (this▸hq)
theorem Bp(h:∀p∈F,p∈dom)(nd:F.Nodup)(hl:F.length<=300):m9 (.list (F.map prD))=some (.int (F.length:Int)):=by
 show(fS (F.map prD)).bind (λks=>(hTs ks).bind λhs=>grd (hs.Nodup/\(F.map prD).length<=300) (PyData.int ((F.map prD).length:Int)))=_;rw[qP];show(hTs (F.map aW)).bind _=_;rw[AE F h];show grd _ _=_;unfold grd;rw[zad];exact if_pos ⟨Au h nd,hl⟩
theorem Bm(hn:n<=18)(hm:m<=18)(h:InM n m p)(h1:p.1.isSome=true):p∈dom:=by
 obtain⟨x,y⟩:=p;cases x with
 |none=>cases h1
 |some a=>
  have ha:=h.1 a rfl;unfold dom;rw[List.mem_flatMap];refine⟨a,zbr.mpr (by lia),zaz.mpr ⟨y,?_,rfl⟩⟩;cases y with
  |none=>exact zaq
  |some b=>
   have hb:=h.2 b rfl;exact zaj _ (zaz.mpr ⟨b,zbr.mpr (by lia),rfl⟩)
section
variable{w:Nat}{e1 e2:List Bool}  
theorem E9(f:Fnd C (nbW G H w) S)(hs:∀p,C p->p.1.isSome=true)(h:(TPf (nbW G H w) S).find? (λe=>bP e1 e2 e.k)=none):fZ e1 e2 G H w false (ar (TPf (nbW G H w) S))=true:=by
 have t:=f.ok S.length;rw[Fb];unfold hol;rw[zbm,zbm,zbi,List.all_eq_true,List.all_eq_true];refine⟨?_,λp hp=>?_,λp hp=>?_⟩
 .exact zaz.mpr ⟨_,zaX t.h0,rfl⟩
 .obtain⟨e,he,rfl⟩:=zaz.mp hp;have hb:=zbF.mp h e he;have hc:=hs _ (t.c e he);unfold okW;rw[hc,Bool.true_and];unfold bP at hb;revert hb;cases a9 e2 e.k.2<;>cases a9 e1 e.k.1<;>simp
 .obtain⟨e,he,rfl⟩:=zaz.mp hp;unfold cls;rw[List.all_eq_true];intro q hq;obtain⟨a,ha,rfl⟩:=zaz.mp hq;cases hc:cW (nxP G H e.k a)with
  |true=>rfl
  |false=>
   rw[Bool.false_or,zbi];refine f.closed he ?_;unfold nbW;exact zaz.mpr ⟨a,ha,by rw[hc];rfl⟩
def itD(e:EnP):D:=.tuple [prD e.k,W35c.nD e.r]
theorem Bo(M:Mx w e1 G)(N:Mx w e2 H)(t:TPk C T)(he:e∈T)(ce:InM G.length H.length e.k)(hw:∀k,some k∈nbW G H w e.k->C k)(hm:m<=T.length)(hz:(flP e T 0 (nbW G H w e.k)).length<=300)(hr:e.r.length<=300){x7 x8:Option D}{Q:Fl->Prop}
  (q:∀x7 x8,Q (.nx [some (mD e1 G),some (mD e2 H),some (cQ (ar (flP e T 0 (nbW G H w e.k)))),x3,some (.list (((flP e T 0 (nbW G H w e.k)).drop m).map itD)),some (prD e.k),some (W35c.nD e.r),x7,x8])):
  W (cA (gN 7) eT (eW 0 w) [some (mD e1 G),some (mD e2 H),some (cQ (ar T)),x3,some (.list ((T.drop m).map itD)),some (prD e.k),some (W35c.nD e.r),x7,x8]) Q:=by
 have w12:=M.w12;have nl:(nbW G H w e.k).length=w:=k4 e.k;refine dS (λi en=>∃x7 x8,en=[some (mD e1 G),some (mD e2 H),some (cQ (ar (flP e T 0 ((nbW G H w e.k).take i)))),x3,some (.list (((flP e T 0 ((nbW G H w e.k).take i)).drop m).map itD)),some (prD e.k),some (W35c.nD e.r),x7,x8]) ⟨_,_,rfl⟩ ?_ ?_
 .rintro i t' en ht ⟨x7,x8,rfl⟩;obtain⟨hi,rfl⟩:=fh ht;have ew:(nbW G H w e.k)[i]?=some (if cW (nxP G H e.k i)=true then none else some (nxP G H e.k i)):=by
   unfold nbW;rw[zao,List.getElem?_range hi];rfl
  have et:(nbW G H w e.k).take (i+1)=(nbW G H w e.k).take i++[if cW (nxP G H e.k i)=true then none else some (nxP G H e.k i)]:=tk ew;have ef:flP e T 0 ((nbW G H w e.k).take (i+1))=stP e (flP e T 0 ((nbW G H w e.k).take i)) i (if cW (nxP G H e.k i)=true then none else some (nxP G H e.k i)):=by
   rw[et,lT,zaE,Nat.min_eq_left (by lia),za3]
  have pl:=(p8 e (nbW G H w e.k) T i).length_le;have pm:=(gZ e ((nbW G H w e.k).take i) T 0).length_le;rw[ef];generalize flP e T 0 ((nbW G H w e.k).take i)=Ti at pl pm;have nn:=As (ar Ti) (nxP G H e.k i);have e0:prD (nxP G H e.k i)=.tuple [goD (ca G e.k.1 i),goD (ca H e.k.2 i)]:=rfl;have ek:prD e.k=.tuple [goD e.k.1,goD e.k.2]:=rfl;rw[e0]at nn;rw[zbK,ek];simp only[ws,eT];refine W.ue (k5 M ce.1 hi) ?_;simp only[ws];refine W.ue (k5 N ce.2 hi) ?_;cases h1:ca G e.k.1 i with
  |none=>
   have c:cW (nxP G H e.k i)=true:=by show(ca G e.k.1 i).isNone=true;rw[h1];rfl
   rw[if_pos c];simp only[ws,goD];exact⟨_,_,rfl⟩
  |some k=>
   have c:cW (nxP G H e.k i)=false:=by show(ca G e.k.1 i).isNone=false;rw[h1];rfl
   rw[c,if_neg zbn];rw[h1]at nn;by_cases hk:nxP G H e.k i∈ar Ti
   .have es:stP e Ti i (some (nxP G H e.k i))=Ti:=if_pos hk;rw[es];simp only[ws,goD];simp only[goD]at nn;simp only[ws,nn,hk,decide_true,Bool.not_true];exact⟨_,_,rfl⟩
   .have es:stP e Ti i (some (nxP G H e.k i))=Ti++[⟨nxP G H e.k i,some (e.k,i),e.r++[i]⟩]:=if_neg hk;have ea:di (ar Ti) (nxP G H e.k i)=ar (Ti++[⟨nxP G H e.k i,some (e.k,i),e.r++[i]⟩]):=by
     unfold di;rw[if_neg hk];show _=List.map (λe:EnP=>e.k) (Ti++_);rw[zaC];rfl
    have hl:(ar Ti).length<=300:=by rw[zad];lia
    rw[es];simp only[ws,goD];simp only[goD]at nn;simp only[ws,nn,hk,decide_false,Bool.not_false];refine W.of (An (ps:=ar Ti) (p:=nxP G H e.k i) rfl (by rw[e0,h1];rfl) rfl (by lia)) ?_;rw[ea];have hit:itD ⟨nxP G H e.k i,some (e.k,i),e.r++[i]⟩=.tuple [.tuple [.int (k:Int),goD (ca H e.k.2 i)],.list (e.r.map W35c.iD++[.int (i:Int)])]:=by
     show PyData.tuple [.tuple [goD (ca G e.k.1 i),goD (ca H e.k.2 i)],.list ((e.r++[i]).map W35c.iD)]=_;rw[h1,zaC];rfl
    simp only[ws,W35c.nD];refine⟨szB (by simp only[zac,List.length_nil];lia),eV (by rw[zaF];lia),some (.int (i:Int)),some (.tuple [.int (k:Int),goD (ca H e.k.2 i)]),?_⟩;rw[List.drop_append_of_le_length (by lia),zaC,List.map_singleton,hit];rfl
 .rintro en ⟨x7,x8,rfl⟩
  have:(eW 0 w).length=w:=ff ..;rw[this,List.take_of_length_le (by lia)];exact q _ _
def it2(q:Pr×List Nat):D:=.tuple [prD q.1,W35c.nD q.2]
theorem GL(q:Pr×List Nat):av (it2 q)=true/\bw (it2 q)<=5:=by
 obtain⟨a1,a2⟩:=cmpP.nd q.1;obtain⟨b1,b2⟩:=du (f:=W35c.iD) (d:=0) (λa=>⟨rfl,zav _⟩) q.2;constructor
 .simp[it2,W35c.nD,av,aH,a1,b1]
 .simp only[it2,W35c.nD,bw,bn];lia
theorem EL(T:List EnP):neD (.list (T.map itD)) (.list [])=some (.bool (decide (T≠[]))):=by
 have e:T.map itD=(T.map λe=>(e.k,e.r)).map it2:=by rw[zaR];rfl
 obtain⟨h1,h2⟩:=du GL (T.map λe=>(e.k,e.r));rw[<-e]at h1 h2;unfold neD grd;rw[if_pos ⟨by simp only[av];exact h1,rfl,by simp only[bw,bn];lia⟩];cases T with
 |nil=>rfl
 |cons a T=>rfl
theorem BP{α:Type}{f:α->Bool}{T:List α}{e:α}(h:T[i]?=some e)(hb:f e=true)(h0:∀j,j<i->∀x,T[j]?=some x->f x=false):T.find? f=some e:=by
 obtain⟨q1,q2⟩:=zah.mp h;rw[List.find?_eq_some_iff_getElem];refine⟨hb,i,q1,q2,λj hj=>?_⟩;rw[h0 j hj _ (zak (by lia))];rfl
theorem FT(p:Pr):bP e1 e2 p=(a9 e1 p.1&&!a9 e2 p.2):=by
 unfold bP;cases a9 e1 p.1<;>cases a9 e2 p.2<;>rfl
theorem sy:∀(n:Nat),∀e∈TP (nbW G H w) n,e.r.length<=n
 |0,e,he=>by
  rw[show TP (nbW G H w) 0=[⟨p00,none,[]⟩]from rfl]at he;rw[zaH.mp he];exact zav _
 |n+1,e,he=>by
  have ih:=sy n;have he:e∈dy (nbW G H w) (TP (nbW G H w) n) n:=he;unfold dy at he;cases h:(TP (nbW G H w) n)[n]? with
  |none=>rw[h]at he;have:=ih e he;lia
  |some f=>
   rw[h]at he;have hf:=ih f (zaX h);have key:∀(l:List (Option Pr)) (T:List EnP) (i:Nat),(∀e∈T,e.r.length<=n+1)->∀e∈flP f T i l,e.r.length<=n+1:=by
    intro l
    induction l with
    |nil=>intro T i hT;exact hT
    |cons x l ih2=>
     intro T i hT;refine ih2 _ _ λe he=>?_;cases x with
     |none=>exact hT e he
     |some k=>
      have he:e∈(if k∈ar T then T else T++[⟨k,some (f.k,i),f.r++[i]⟩]):=he;split at he
      .exact hT e he
      .rcases zax.mp he with he|he
       .exact hT e he
       .rw[zaH.mp he];show(f.r++[i]).length<=_;rw[zae];show f.r.length+1<=n+1
        lia
   exact key _ _ _ (λe he=>by have:=ih e he;lia) e he
theorem u0(M:Mx w e1 G)(N:Mx w e2 H)(f:Fnd C (nbW G H w) S)(hC:∀p,C p->InM G.length H.length p):W (df [mD e1 G,mD e2 H]) (λr=>r=(jE (bP e1 e2) (TPf (nbW G H w) S),[none,none])):=by
 have w12:=M.w12;have fz:=f.sz;obtain⟨r0,er,rl⟩:=l5 M;simp only[ws,df,iZ];refine W.of (show ii (bp (ab (eC (.int 0)) (ab (eC (.int 0)) ai))) (eC (.bool true)) [some (mD e1 G),some (mD e2 H),none,none,none,none,none,none,none]=some (cQ [p00],[some (mD e1 G),some (mD e2 H),none,none,none,none,none,none,none])from rfl) ?_;simp only[ws];refine lm (λm en=>∃n o4 o5 o6 o7 o8,en=[some (mD e1 G),some (mD e2 H),some (cQ (ar (TP (nbW G H w) n))),some (.list (((TP (nbW G H w) n).drop n).map itD)),o4,o5,o6,o7,o8]/\n<=(TP (nbW G H w) n).length/\(∀j,j<n->∀x,(TPf (nbW G H w) S)[j]?=some x->bP e1 e2 x.k=false)/\m=301-n) ?_ ⟨0,_,_,_,_,_,rfl,zbj _,(λj hj=>absurd hj (Nat.not_lt_zero _)),rfl⟩;rintro m en ⟨n,o4,o5,o6,o7,o8,rfl,h1,h2,rfl⟩;have ln:=f.len n;have nn:=EL ((TP (nbW G H w) n).drop n);by_cases hn:n<(TP (nbW G H w) n).length
 .have d1:decide ((TP (nbW G H w) n).drop n≠[])=true:=by
   rw[zbi];intro z
   have:=congrArg List.length z;rw[zaF]at this;simp at this
   lia
  rw[d1]at nn;simp only[ws,gI,j7,nn];have ξ:(TP (nbW G H w) n).length<=300:=by lia
  refine dS (λj en=>∃o5 o6 o7 o8,en=[some (mD e1 G),some (mD e2 H),some (cQ (ar (TP (nbW G H w) (n+j)))),some (.list (((TP (nbW G H w) n).drop n).map itD)),some (.list (((TP (nbW G H w) (n+j)).drop (TP (nbW G H w) n).length).map itD)),o5,o6,o7,o8]/\(∀i,i<n+j->∀x,(TPf (nbW G H w) S)[i]?=some x->bP e1 e2 x.k=false)) ⟨_,_,_,_,by rw[Nat.add_zero,List.drop_length];rfl,h2⟩ ?_ ?_
  .rintro j t' en ht ⟨o5,o6,o7,o8,rfl,h3⟩;obtain⟨e,he,rfl⟩:=gm ht;rw[zbD]at he;have hl:=(zah.mp he).1;have pre:=jd (nbW G H w) n j;have he2:(TP (nbW G H w) (n+j))[n+j]?=some e:=by
    obtain⟨l,hl'⟩:=pre;rw[<-hl',zaS hl];exact he
   have hef:(TPf (nbW G H w) S)[n+j]?=some e:=by
    obtain⟨l,hl'⟩:=f.pre n;rw[<-hl',zaS hl];exact he
   have em:=zaX he2;have t:=f.ok (n+j);have ce:=t.c e em;have up:TP (nbW G H w) (n+j+1)=flP e (TP (nbW G H w) (n+j)) 0 (nbW G H w e.k):=by
    show dy _ (TP (nbW G H w) (n+j)) (n+j)=_;unfold dy;rw[he2]
   have bq:=FT (e1:=e1) (e2:=e2) e.k;have e0:itD e=.tuple [.tuple [goD e.k.1,goD e.k.2],W35c.nD e.r]:=rfl;rw[e0];simp only[ws,j8];refine W.ue (ix M (hC _ ce).1) ?_;have rle:=sy (n+j) e em;have next:bP e1 e2 e.k=false->∀i,i<n+(j+1)->∀x,(TPf (nbW G H w) S)[i]?=some x->bP e1 e2 x.k=false:=λhb i hi x hx=>by
    by_cases c:i=n+j
    .subst c;rw[hef]at hx;cases hx;exact hb
    .exact h3 i (by lia) x hx
   have go:bP e1 e2 e.k=false->∀{x3 x7 x8:Option D} {Q:Fl->Prop},(∀x7 x8,Q (.nx [some (mD e1 G),some (mD e2 H),some (cQ (ar (TP (nbW G H w) (n+j+1)))),x3,some (.list (((TP (nbW G H w) (n+j+1)).drop (TP (nbW G H w) n).length).map itD)),some (prD e.k),some (W35c.nD e.r),x7,x8])) ->
     W (cA (gN 7) eT (eW 0 w) [some (mD e1 G),some (mD e2 H),some (cQ (ar (TP (nbW G H w) (n+j)))),x3,some (.list (((TP (nbW G H w) (n+j)).drop (TP (nbW G H w) n).length).map itD)),some (prD e.k),some (W35c.nD e.r),x7,x8]) Q:=λhb x3 x7 x8 Q q=>by
    refine Bo M N t em (hC _ ce) (f.c e.k ce) pre.length_le (by rw[<-up];have:=f.len (n+j+1);lia) (by lia) λy7 y8=>?_;rw[<-up];exact q y7 y8
   have ek:prD e.k=.tuple [goD e.k.1,goD e.k.2]:=rfl;rw[ek]at go;cases hb1:a9 e1 e.k.1 with
   |false=>
    have hb:bP e1 e2 e.k=false:=by rw[bq,hb1];rfl
    simp only[ws,mD,er,zad,rl,zaL];exact⟨⟨by lia,by lia⟩,go hb λy7 y8=>⟨_,_,_,_,rfl,next hb⟩⟩
   |true=>
    simp only[ws];refine W.ue (ix N (hC _ ce).2) ?_;cases hb2:a9 e2 e.k.2 with
    |false=>
     have hb:bP e1 e2 e.k=true:=by rw[bq,hb1,hb2];rfl
     simp only[ws]
     have:jE (bP e1 e2) (TPf (nbW G H w) S)=W35c.nD e.r:=by
      unfold jE;rw[BP hef hb h3]
     rw[this]
    |true=>
     have hb:bP e1 e2 e.k=false:=by rw[bq,hb1,hb2];rfl
     simp only[ws,mD,er,zad,rl,zaL];exact⟨⟨by lia,by lia⟩,go hb λy7 y8=>⟨_,_,_,_,rfl,next hb⟩⟩
  .rintro en ⟨o5,o6,o7,o8,rfl,h3⟩;have el:(((TP (nbW G H w) n).drop n).map itD).length=(TP (nbW G H w) n).length-n:=by rw[zad,zaF]
   rw[el,show n+((TP (nbW G H w) n).length-n)=(TP (nbW G H w) n).length by lia]at h3;rw[el,show n+((TP (nbW G H w) n).length-n)=(TP (nbW G H w) n).length by lia];simp only[ws];refine⟨301-(TP (nbW G H w) n).length,by lia,(TP (nbW G H w) n).length,_,_,_,_,_,rfl,?_,h3,rfl⟩
   have:=(jd (nbW G H w) n ((TP (nbW G H w) n).length-n)).length_le
   rwa[show n+((TP (nbW G H w) n).length-n)=(TP (nbW G H w) n).length by lia]at this
 .have d1:decide ((TP (nbW G H w) n).drop n≠[])=false:=by
   rw[zbp];exact λz=>z (List.drop_eq_nil_of_le (by lia))
  rw[d1]at nn;have ef:=f.fin (by lia) h1;simp only[ws,gI,nn]
  have:jE (bP e1 e2) (TPf (nbW G H w) S)=.none:=by
   unfold jE
   have:(TPf (nbW G H w) S).find? (λe=>bP e1 e2 e.k)=none:=by
    rw[zbF];intro x hx;obtain⟨i,hi⟩:=zbq hx
    have:=(zah.mp hi).1;rw[<-ef]at this;rw[h2 i (by lia) x hi];exact zbn
   rw[this]
  rw[this]
theorem ED(l:List Nat):av (W35c.nD l)=true/\bw (W35c.nD l)<=1:=by
 obtain⟨b1,b2⟩:=du (f:=W35c.iD) (d:=0) (λa=>⟨rfl,zav _⟩) l;exact⟨by simp only[W35c.nD,av];exact b1,by simp only[W35c.nD,bw];lia⟩
theorem Ak(M:Mx w e1 G)(N:Mx w e2 H)(g18:G.length<=18)(h18:H.length<=18)(f:Fnd C (nbW G H w) S)(hC:∀p,C p->InM G.length H.length p)(hs:∀p,C p->p.1.isSome=true):
  W (aU [mD e1 G,mD e2 H,iK (bP e1 e2) (TPf (nbW G H w) S)]) (λr=>r=(.bool true,[none,none,none])):=by
 have fz:=f.sz;have fl:(TPf (nbW G H w) S).length<=S.length:=f.len S.length;have t:=f.ok S.length;have t:TPk C (TPf (nbW G H w) S):=t;have lf:=u0 M N f hC;unfold iK;unfold jE at lf;cases hf:(TPf (nbW G H w) S).find? λe=>bP e1 e2 e.k with
 |none=>
  rw[hf]at lf;have ho:=E9 f hs hf;have cm:∀p∈ar (TPf (nbW G H w) S),C p:=λp hp=>by
   obtain⟨e,he,rfl⟩:=zaz.mp hp;exact t.c e he
  have kl:(ar (TPf (nbW G H w) S)).length<=300:=by rw[zad];lia
  have lh:=wJ M N (ps:=ar (TPf (nbW G H w) S)) (λp hp=>hC p (cm p hp)) (by lia) false;rw[ho]at lh;have ls:=Bp (F:=ar (TPf (nbW G H w) S)) (λp hp=>Bm g18 h18 (hC p (cm p hp)) (hs p (cm p hp))) t.nd kl;simp only[ws,aU,gk];refine W.ue lf ?_;simp only[ws];refine W.ue lh ?_;simp only[ws,ls]
 |some e=>
  rw[hf]at lf;have em:=List.mem_of_find?_eq_some hf;have el:e.r.length<=S.length:=sy S.length e em;have sm:=same (t:=.tuple [.str "out",W35c.nD e.r]) (by simp[av,aH,(ED e.r).1]) (by have:=(ED e.r).2;simp only[bw,bn];lia);simp only[ws,aU,gk,W35c.nD]at lf sm ⊢;refine W.ue lf ?_;simp only[ws];have ne:neD (.list []) (.list [])=some (.bool false):=rfl;refine tU (λi us en=>us=[]/\∃o,en=[o]) (szB (by rw[zad];lia)) ⟨rfl,_,rfl⟩ ?_ ?_
  .rintro i t us en ht-⟨rfl,o,rfl⟩;obtain⟨a,ha,rfl⟩:=gm ht;simp only[ws,j5,W35c.iD];exact⟨_,rfl⟩
  .rintro us en-⟨rfl,o,rfl⟩;simp only[ws,ne,sm.1]
theorem nV(M:Mx w e1 G):W (cg [mD e1 G]) (λr=>r=(mD e1 G,[none])):=by
 have n:=M.n;have le:=M.le;have w12:=M.w12;simp only[ws,cg,ir,mD];refine mH id (szB (by rw[zad];lia)) (λt ht=>?_) λo'=>?_
 .obtain⟨r,hr,rfl⟩:=zaz.mp ht;simp only[ws,jj,aS,id]
 .simp only[ws,List.map_id]
noncomputable def pk(n m:Nat):List Pr:=(List.range n).flatMap λa=>(none::(List.range m).map some).map λy=>(some a,y)
theorem wf(n m:Nat):(pk n m).length=n*(m+1):=by
 have key:∀l:List Nat,(l.map λ_=>m+1).sum=l.length*(m+1):=λl=>by
  induction l with
  |nil=>simp
  |cons a l ih=>rw[zar,List.sum_cons,ih,zac,Nat.succ_mul,Nat.add_comm]
 unfold pk;rw[List.length_flatMap];simp;rw[key,zbe]
theorem wd(h:InM n m p)(h1:p.1.isSome=true):p∈pk n m:=by
 obtain⟨x,y⟩:=p;cases x with
 |none=>cases h1
 |some a=>
  have ha:=h.1 a rfl;unfold pk;rw[List.mem_flatMap];refine⟨a,zbr.mpr ha,zaz.mpr ⟨y,?_,rfl⟩⟩;cases y with
  |none=>exact zaq
  |some b=>exact zaj _ (zaz.mpr ⟨b,zbr.mpr (h.2 b rfl),rfl⟩)
theorem GE(M:Mx w e1 G)(N:Mx w e2 H)(p:Pr)(a:Nat):InM G.length H.length (nxP G H p a):=by
 constructor
 .intro k hk;obtain⟨x,y⟩:=p;cases x with
  |none=>cases hk
  |some s=>exact pJ M hk
 .intro k hk;obtain⟨x,y⟩:=p;cases y with
  |none=>cases hk
  |some s=>exact pJ N hk
theorem rq{k:Pr}(h:some k∈nbW G H w p):∃a,k=nxP G H p a/\k.1.isSome=true:=by
 unfold nbW at h;obtain⟨a,_,e⟩:=zaz.mp h;split at e
 .cases e
 .next hc=>
  have e:=zat e;refine⟨a,e.symm,?_⟩;rw[<-e];unfold cW at hc;cases q:(nxP G H p a).1 with
  |none=>rw[q]at hc;exact absurd rfl hc
  |some x=>rfl
theorem BN(M:Mx w e1 G)(N:Mx w e2 H)(g18:G.length<=18)(h18:H.length<=18)(h9:G.length<=9\/H.length<=9):Fnd (λp=>InM G.length H.length p/\p.1.isSome=true) (nbW G H w) (pk G.length H.length):=by
 have n1:=M.n1;have n2:=N.n1;have w12:=M.w12;refine⟨⟨⟨λk e=>by cases e;lia,λk e=>by cases e;lia⟩,rfl⟩,λp=>by rw[k4];exact w12,λp _ k hk=>?_,λp hp=>wd hp.1 hp.2,?_⟩
 .obtain⟨a,e,h⟩:=rq hk;exact⟨e▸GE M N p a,h⟩
 .rw[wf];rcases h9 with h|h
  .calc G.length*(H.length+1)<=9*19:=Nat.mul_le_mul h (by lia)
    _<=300:=by decide
  .calc G.length*(H.length+1)<=18*10:=Nat.mul_le_mul g18 (by lia)
    _<=300:=by decide
theorem xo(M:Mx w e1 G)(g18:G.length<=18):Fnd (λp=>∃a,a<G.length/\p=(some a,some a)) (nbW G G w) ((List.range G.length).map λa=>(some a,some a)):=by
 have n1:=M.n1;have w12:=M.w12;refine⟨⟨0,by lia,rfl⟩,λp=>by rw[k4];exact w12,λp hp k hk=>?_,λp hp=>?_,by rw[zad,zbe];lia⟩
 .obtain⟨a,e,h⟩:=rq hk;obtain⟨s,hs,rfl⟩:=hp;subst e;have e2:nxP G G (some s,some s) a=(led G s a,led G s a):=rfl;rw[e2]at h ⊢;cases q:led G s a with
  |none=>rw[q]at h;cases h
  |some b=>exact⟨b,pJ M q,rfl⟩
 .obtain⟨a,ha,rfl⟩:=hp;exact zaz.mpr ⟨a,zbr.mpr ha,rfl⟩
def kT(M:Mx w e1 G)(N:Mx w e2 H)(g18:G.length<=18)(h18:H.length<=18)(h9:G.length<=9\/H.length<=9):∃bad T,W (b7 [mD e1 G,mD e2 H]) (λr=>r=(iK bad T,[none,none]))/\W (aU [mD e1 G,mD e2 H,iK bad T]) (λr=>r=(.bool true,[none,none,none])):=
 let f:=BN M N g18 h18 h9
 ⟨_,_,uf M N (by lia) (by lia) f λp hp=>hp.1,Ak M N g18 h18 f (λp hp=>hp.1) λp hp=>hp.2⟩
theorem uo(M:Mx w e1 G)(g18:G.length<=18):∃bad T,W (b7 [mD e1 G,mD e1 G]) (λr=>r=(iK bad T,[none,none]))/\W (aU [mD e1 G,mD e1 G,iK bad T]) (λr=>r=(.bool true,[none,none,none])):=by
 have f:=xo M g18;have hC:∀p:Pr,(∃a,a<G.length/\p=(some a,some a))->InM G.length G.length p:=λp ⟨a,ha,e⟩=>by
  subst e;exact⟨λk z=>by cases z;exact ha,λk z=>by cases z;exact ha⟩
 exact⟨_,_,uf M M (by lia) (by lia) f hC,Ak M M g18 g18 f hC λp ⟨a,_,e⟩=>by subst e;rfl⟩
end
theorem pb{us:List D}(h:k<us.length):iO us (k:Int) t=some (us.set k t):=by
 unfold iO ixN;rw[if_pos (by lia),if_pos (by lia)];rfl
theorem AU(x:Option Nat)(b:Nat):W (cZ [goD x,.int (b:Int)]) (λr=>r=(goD (x.map λk=>2*k+b),[none,none])):=by
 cases x with
 |none=>simp only[ws,cZ,gX,goD,Option.map]
 |some k=>
  simp only[ws,cZ,gX,goD,Option.map];exact⟨.inl (by decide),by rw[show((2*k+b:Nat):Int)=2*(k:Int)+b by lia]⟩
theorem vZ{p:D}{N:Nat}{row:List (Option Nat)}(hp:Pn n p)(hn:n<=5000)(hl:row.length<=12)(hr:∀k,some k∈row->k<N){o:Option D}{Q:List D×En->Prop}(h:∀(r:List (Option Nat)) p' o',r.length=row.length->(∀k,some k∈r->k<2*N)->Pn (n+row.length) p'->Q (r.map goD,[o',some p'])):W (lcF (gN 0) cY fN (row.map goD) [] [o,some p]) Q:=by
 refine tU (λi us en=>∃(r:List (Option Nat)) (p':D) (o':Option D),us=r.map goD/\r.length=i/\(∀k,some k∈r->k<2*N)/\Pn (n+i) p'/\en=[o',some p']) (szB (by rw[zad];lia)) ⟨[],p,o,rfl,rfl,(λk hk=>nomatch hk),hp,rfl⟩ ?_ ?_
 .rintro i t us en ht-⟨r,p',o',rfl,el,hk,hp',rfl⟩;obtain⟨x,hx,rfl⟩:=gm ht;have xm:=zaX hx;have il:i<row.length:=by
   have:=zah.mp hx;exact this.1
  simp only[ws,fN];refine cf hp' (by lia) (by lia) (by lia) λb p1 b0 b1 hp1=>?_;obtain⟨b,rfl⟩:∃k:Nat,b=k:=⟨b.toNat,by lia⟩;simp only[ws];refine W.ue (AU x b) ?_;simp only[ws];refine⟨r++[x.map λk=>2*k+b],p1,_,by rw[zaC];rfl,by rw[zae,el];rfl,λk hm=>?_,hp1,rfl⟩;rcases zax.mp hm with hm|hm
  .exact hk k hm
  .have e:=zaH.mp hm;obtain⟨j,rfl,e2⟩:=zab.mp e.symm
   have:=hr j xm
   lia
 .rintro us en-⟨r,p',o',rfl,el,hk,hp',rfl⟩;rw[zad]at el hp';exact h r p' o' el hk hp'
theorem tN{p:D}{S:Nat}{es:List Bool}(M:Mx S es G)(hS:1<=S)(g9:G.length<=9)(hp:Pn n p)(hn:n<=2500){b:Int}(hb:b=0\/b=1\/b=2\/b=3)(h:∀es' G' p',Mx S es' G'->G'.length=2*G.length->Pn (n+500) p'->Q (mD es' G',[some p',none,none])):W (cu [p,mD es G,.int b]) Q:=by
 simp only[ws,cu,gO,mD];have gl9:=g9;refine dS (λi en=>∃(es':List Bool) (G':Gr) (p':D) (o5 o6 o7:Option D),en=[some p',some (mD es G),some (.int b),some (.list (es'.map .bool)),some (.list (G'.map aS)),o5,o6,o7,none,none]/\es'.length=2*i/\G'.length=2*i/\(∀r∈G',r.length=S)/\(∀r∈G',∀k,some k∈r->k<2*G.length)/\Pn (n+24*i) p') ⟨[],[],p,_,_,_,rfl,rfl,rfl,(λr hr=>nomatch hr),(λr hr=>nomatch hr),hp⟩ ?_ ?_
 .rintro i t en ht ⟨es',G',p',o5,o6,o7,rfl,el,gl,g1,g2,hp'⟩;obtain⟨row,hi,rfl⟩:∃row,G[i]?=some row/\t=.tuple [.int (i:Int),aS row]:=by
   obtain⟨t',h1,rfl⟩:=iC ht;obtain⟨row,h2,rfl⟩:=gm h1;exact⟨row,h2,rfl⟩
  have il:i<G.length:=(zah.mp hi).1;have rm:=zaX hi;simp only[ws,iH];refine⟨by decide,dS (λj en=>∃(es':List Bool) (G':Gr) (p':D) (o7:Option D),en=[some p',some (mD es G),some (.int b),some (.list (es'.map .bool)),some (.list (G'.map aS)),some (.int (i:Int)),some (aS row),o7,none,none]/\es'.length=2*i+j/\G'.length=2*i+j/\(∀r∈G',r.length=S)/\(∀r∈G',∀k,some k∈r->k<2*G.length)/\Pn (n+24*i+12*j) p') ⟨es',G',p',o7,rfl,el,gl,g1,g2,hp'⟩ ?_ ?_⟩
  .clear hp' el gl g1 g2 ht es' G' p' o7;rintro j t en ht ⟨es',G',p',o7,rfl,el,gl,g1,g2,hp'⟩;obtain⟨hj,rfl⟩:=fh ht;have j2:j<2:=hj;have ea:=qo M il;have w12:=M.w12;have rl:=M.w row rm;have er:aS row=.list (row.map goD):=rfl;rw[er];simp only[ws,iI,mD];refine FW ?_;simp only[ws,ea];refine⟨rfl,eV (by lia),vZ hp' (by lia) (by lia) (M.lt row rm) λr p1 o1 r1 r2 hp1=>?_⟩;simp only[ws];refine⟨eV (by lia),es'++[jK es i],G'++[r],p1,_,by rw[zaC,zaC];rfl,by rw[zae,el];rfl,by rw[zae,gl];rfl,λx hx=>?_,λx hx=>?_,hp1.mono (by lia)⟩
   .rcases zax.mp hx with hx|hx
    .exact g1 x hx
    .cases zaH.mp hx;rw[r1,rl]
   .rcases zax.mp hx with hx|hx
    .exact g2 x hx
    .cases zaH.mp hx;exact r2
  .rintro en ⟨es',G',p',o7,rfl,el,gl,g1,g2,hp'⟩;have xl:(eW 0 (Int.toNat 2)).length=2:=rfl;rw[xl]at el gl hp';exact⟨es',G',p',_,_,_,rfl,by lia,by lia,g1,g2,hp'.mono (by lia)⟩
 .rintro en ⟨es',G',p',o5,o6,o7,rfl,el,gl,g1,g2,hp'⟩;have xl:(dP (G.map aS)).length=G.length:=by rw[iB,zad]
  rw[xl]at el gl hp';simp only[ws,zad,el];refine cf hp' (by lia) (by have:=M.n1;lia) (by lia) λr p1 r0 r1 hp1=>?_;have n1:=M.n1;obtain⟨r,rfl⟩:∃k:Nat,r=k:=⟨r.toNat,by lia⟩;have MM:∀es2:List Bool,es2.length=2*G.length->Mx S es2 G':=λes2 z=>⟨by lia,by lia,M.w12,by lia,g1,gl.symm▸g2⟩;have er:atI (es'.map PyData.bool) (r:Int)=some (.bool (jK es' r)):=by
   rw[c8,zao,zak (by lia),jK,zbh,zak (by lia)];rfl
  rcases hb with rfl|rfl|rfl|rfl
  .simp only[ws,show decide ((0:Int)=1)=false from rfl,show decide ((0:Int)=2)=false from rfl,show decide ((0:Int)=3)=false from rfl];exact h es' G' p1 (MM es' el) gl (hp1.mono (by lia))
  .simp only[ws,show decide ((1:Int)=1)=true from rfl,show decide ((1:Int)=2)=false from rfl,show decide ((1:Int)=3)=false from rfl,er];have si:iO (es'.map PyData.bool) (r:Int) (.bool (!jK es' r))=some ((es'.set r (!jK es' r)).map .bool):=by
    rw[pb (by rw[zad];lia),List.map_set]
   simp only[ws,si,show decide ((1:Int)=2)=false from rfl,show decide ((1:Int)=3)=false from rfl];exact h (es'.set r (!jK es' r)) G' p1 (MM _ (by rw[zaV];exact el)) gl (hp1.mono (by lia))
  .simp only[ws,show decide ((2:Int)=1)=false from rfl,show decide ((2:Int)=2)=true from rfl,show decide ((2:Int)=3)=false from rfl];obtain⟨r0',e0,rl0⟩:=l5 (MM es' el);have w12:=M.w12;have sS:1<=S:=hS;simp only[ws,e0,zad,rl0];refine cf hp1 (by lia) (by lia) (by lia) λc p2 c0 c1 hp2=>?_;obtain⟨c,rfl⟩:∃k:Nat,c=k:=⟨c.toNat,by lia⟩;simp only[ws];refine FX (FW ?_);simp only[ws];refine cf hp2 (by lia) (by lia) (by lia) λd p3 d0 d1 hp3=>?_;simp only[ws,zad,el];refine cf hp3 (by lia) (by lia) (by lia) λg p4 g0 g1' hp4=>?_;obtain⟨g,rfl⟩:∃k:Nat,g=k:=⟨g.toNat,by lia⟩;simp only[ws];refine W.ue (AF _ _) ?_;have ex:(if decide (d=0)=true then PyData.none else .int (g:Int))=goD (if decide (d=0)=true then none else some g):=by split<;>rfl
   rw[ex];generalize hx:(if decide (d=0)=true then none else some g)=x;have hx2:∀k,x=some k->k<2*G.length:=λk z=>by
    rw[z]at hx;split at hx
    .cases hx
    .cases hx;lia
   have sx:scaD (goD x)=true:=by cases x<;>rfl
   have rlt:r<G'.length:=by lia
   have rowl:=g1 G'[r] (zaK rlt);have eg:(G'.map aS)[r]?=some (.list (G'[r].map goD)):=by
    rw[zao,zak rlt];rfl
   simp only[ws,sx];refine AO (vS (t:=.list (G'.map aS)) rfl ?_);simp only[ws];refine⟨_,_,G'.map aS,r,rfl,rfl,.inl rfl,rJ (by rw[zad];lia),by rw[zad];lia,?_⟩;refine⟨_,_,G'[r].map goD,c,rfl,rfl,?_,rJ (by rw[zad];lia),?_⟩
   .show((G'.map aS)[r]?).bind _=_;rw[eg];rfl
   have ep:bY (.list (G'.map aS)) ([]++[r]) (.list ((G'[r].map goD).set c (goD x)))=.list ((G'.set r (G'[r].set c x)).map aS):=by
    show PyData.list ((G'.map aS).set r (((G'.map aS)[r]?).elim .none λc=>bY c [] _))=_;rw[eg,List.map_set];show PyData.list (_)=PyData.list ((G'.map aS).set r (aS (G'[r].set c x)));unfold aS;rw[List.map_set];rfl
   rw[ep];simp only[ws,show decide ((2:Int)=3)=false from rfl];refine h es' (G'.set r (G'[r].set c x)) p4 ⟨by rw[zaV];lia,by rw[zaV];lia,M.w12,by rw[zaV];lia,λy hy=>?_,λy hy k hk=>?_⟩ (by rw[zaV];exact gl) (hp4.mono (by lia))
   .rcases zbM hy with hy|rfl
    .exact g1 y hy
    .rw[zaV];exact rowl
   .rw[zaV,gl];rcases zbM hy with hy|rfl
    .exact g2 y hy k hk
    .rcases zbM hk with hk|hk
     .exact g2 _ (zaK rlt) k hk
     .exact hx2 k hk.symm
  .simp only[ws,show decide ((3:Int)=1)=false from rfl,show decide ((3:Int)=2)=false from rfl,show decide ((3:Int)=3)=true from rfl];have si:iO (es'.map PyData.bool) (r:Int) (.bool true)=some ((es'.set r true).map .bool):=by
    rw[pb (by rw[zad];lia),List.map_set]
   simp only[ws,si];exact h (es'.set r true) G' p1 (MM _ (by rw[zaV];exact el)) gl (hp1.mono (by lia))
theorem FN(es:List Bool)(G:Gr):bw (mD es G)<=10:=by
 have a2:=(du cmpB.nd es).2;have go:∀o,av (goD o)=true/\bw (goD o)<=0:=λo=>by cases o<;>exact⟨rfl,zav _⟩
 have b2:=(du (f:=aS) (d:=1) (λr=>⟨by simp only[aS,av];exact(du go r).1,by simp only[aS,bw];have:=(du go r).2;lia⟩) G).2;simp only[mD,bw,bn]
 lia
theorem AT(bad:Pr->Bool)(T:List EnP):∃a b,iK bad T=.tuple [a,.list b]:=by
 unfold iK;split
 .exact⟨_,_,rfl⟩
 .exact⟨_,_,rfl⟩
theorem F9{mp:MP}(h:W (mp en) (λr=>∃t ts,(r.2[i]?).join=some t/\bB t r.1=some (.list ts)/\Q (.none,r.2.set i (some (bY t r.1 (.list [])))))):W (k9 i mp en) Q:=by
 unfold k9;rw[aq];refine W.use h ?_;rintro r ⟨t,ts,h1,h2,h3⟩;rw[h1];show W ((bB t r.1).bind _) Q;rw[h2];exact⟨_,rfl,h3⟩
theorem DU{p:D}(hp:Pn 0 p)(h:∀S e1 G e2 H p',Mx S e1 G->Mx S e2 H->G.length<=18->H.length<=18->(G.length<=9\/H.length<=9)->Q (.tuple [mD e1 G,mD e2 H],[some p'])):W (ft [p]) Q:=by
 simp only[ws,ft,kQ];refine cf hp (by lia) (by lia) (by lia) λr p1 r0 r1 hp1=>?_;obtain⟨z,ez,z1,z2⟩:∃z:Int,atI [PyData.int 2,PyData.int 3,PyData.int 3,PyData.int 12] r=some (.int z)/\1<=z/\z<=12:=by
  rcases(by lia:r=0\/r=1\/r=2\/r=3)with rfl|rfl|rfl|rfl<;>exact⟨_,rfl,by decide,by decide⟩
 simp only[ws,ez];refine cf hp1 (by lia) (by lia) (by lia) λs p2 s0 s1 hp2=>?_;obtain⟨S,hS⟩:∃S:Nat,1+s=S:=⟨(1+s).toNat,by lia⟩;simp only[ws,hS];refine cf hp2 (by lia) (by lia) (by lia) λq p3 q0 q1 hp3=>?_;obtain⟨y,ey,y1,y2⟩:∃y:Int,atI [PyData.int 3,PyData.int 6,PyData.int 9] q=some (.int y)/\1<=y/\y<=9:=by
  rcases(by lia:q=0\/q=1\/q=2)with rfl|rfl|rfl<;>exact⟨_,rfl,by decide,by decide⟩
 simp only[ws,ey];refine Av hp3 (by lia) (by lia) (by lia) (by lia) (by lia) λe1 G p4 M g9 hp4=>?_;simp only[ws];refine cf hp4 (by lia) (by lia) (by lia) λa p5 a0 a1 hp5=>?_;by_cases ha:a=0
 .simp only[ws,ha];refine Av hp5 (by lia) (by lia) (by lia) (by lia) (by lia) λe2 H p6 N h6 hp6=>?_;simp only[ws];exact h S e1 G e2 H _ M N (by lia) (by lia) (.inl (by lia))
 .obtain⟨b,eb,hb⟩:∃b:Int,atI [PyData.int 0,PyData.int 0,PyData.int 1,PyData.int 2,PyData.int 3,PyData.int 0,PyData.int 1,PyData.int 2] a=some (.int b)/\(b=0\/b=1\/b=2\/b=3):=by
   rcases(by lia:a=0\/a=1\/a=2\/a=3\/a=4\/a=5\/a=6\/a=7)with rfl|rfl|rfl|rfl|rfl|rfl|rfl|rfl<;>exact⟨_,rfl,by decide⟩
  simp only[ws,ha,eb];refine tN M (by lia) (by lia) hp5 (by lia) hb λe2 H p6 N hH hp6=>?_;by_cases h5:a<5
  .simp only[ws,h5];exact h S e1 G e2 H _ M N (by lia) (by lia) (.inl (by lia))
  .simp only[ws,h5];exact h S e2 H e1 G _ N M (by lia) (by lia) (.inr (by lia))
theorem Bk{S:Nat}(s12:S<=12):Mx S [false] [List.replicate S none]:=by
 refine⟨zav _,by simp,s12,rfl,λr hr=>?_,λr hr k hk=>?_⟩
 .rw[zaH.mp hr,zaN]
 .rw[zaH.mp hr]at hk
  have:=List.eq_of_mem_replicate hk;cases this
def GO{c:Prop}[Decidable c]{x:D}(h:c):grd c x=some x:=if_pos h
theorem wD{S:Nat}(s12:S<=12):wE (.list [.none]) (.int (S:Int))=some (aS (List.replicate S none)):=by
 rcases(by lia:S=0\/S=1\/S=2\/S=3\/S=4\/S=5\/S=6\/S=7\/S=8\/S=9\/S=10\/S=11\/S=12)with rfl|rfl|rfl|rfl|rfl|rfl|rfl|rfl|rfl|rfl|rfl|rfl|rfl<;>exact GO ⟨by decide,by decide,szB (Nat.le_of_ble_eq_true rfl)⟩
theorem G9{ns:List Int}(hl:ns.length<=63){x2 x4 x5 x6:Option D}{Q:Fl->Prop}(h:∀x2 x3 x4 x5 x6,Q (.nx [some (.list (ns.map .int)),some (.int (k:Int)),x2,x3,x4,x5,x6])):W (qr [some (.list (ns.map .int)),some (.int (k:Int)),x2,x3,x4,x5,x6]) Q:=by
 unfold qr;simp only[ws];refine FY (by lia) hl λp hp=>?_;simp only[ws];refine DU hp λS e1 G e2 H p' M N g18 h18 h9=>?_;simp only[ws];refine W.ue (nV M) ?_;simp only[ws];refine W.ue (nV N) ?_;simp only[ws];obtain⟨b1,T1,w1,r1⟩:=kT M N g18 h18 h9;obtain⟨b2,T2,w2,r2⟩:=kT N M h18 g18 h9.symm;obtain⟨b3,T3,w3,r3⟩:=uo M g18;have Z:=Bk M.w12;obtain⟨b4,T4,w4,r4⟩:=kT Z M (by simp) g18 (.inl (by simp));obtain⟨b5,T5,w5,r5⟩:=kT M Z g18 (by simp) (.inr (by simp));refine W.ue w1 ?_;simp only[ws];refine W.ue r1 ?_;have sm:=same (t:=.tuple [mD e1 G,mD e2 H]) (by simp[av,aH,(At e1 G).1,(At e2 H).1]) (by have h1:=FN e1 G;have h2:=FN e2 H;simp only[bw,bn];lia);obtain⟨wa,wb,we⟩:=AT b1 T1;simp only[ws,sm.2,we];refine F9 (AO (vS (t:=.tuple [wa,.list wb]) rfl ?_));simp only[ws];refine⟨_,_,[wa,.list wb],1,rfl,rfl,.inr rfl,rfl,Nat.lt_succ_self 1,?_⟩;refine⟨_,wb,rfl,rfl,?_⟩;refine W.ue w2 ?_;simp only[ws];refine W.ue r2 ?_;simp only[ws];refine W.ue w1 ?_;simp only[ws];refine W.ue r1 ?_;simp only[ws];refine W.ue w3 ?_;simp only[ws];refine W.ue r3 ?_;obtain⟨r0',e0,rl0⟩:=l5 M;have mu:=wD M.w12;simp only[ws,mD,e0,zad,rl0,mu];refine W.ue w4 ?_;simp only[ws];refine W.ue r4 ?_;simp only[ws];refine W.ue w5 ?_;simp only[ws];refine W.ue r5 ?_;simp only[ws];exact h _ _ _ _ _
theorem wM:EN ua:=by
 intro ns hn
 suffices W (ua [.list (ns.map .int)]) (λr=>∃o,r=(.bool true,o))by
  obtain⟨_,e,o,rfl⟩:=this.ex;exact⟨o,e⟩
 simp only[ws,ua,xI];refine⟨by decide,dS (λi en=>∃x1 x2 x3 x4 x5 x6,en=[some (.list (ns.map .int)),x1,x2,x3,x4,x5,x6]) ⟨_,_,_,_,_,_,rfl⟩ ?_ ?_⟩
 .rintro i t en ht ⟨x1,x2,x3,x4,x5,x6,rfl⟩;obtain⟨hi,rfl⟩:=fh ht;simp only[ws,zbK];exact G9 hn λx2 x3 x4 x5 x6=>⟨_,_,_,_,_,_,rfl⟩
 .rintro en ⟨x1,x2,x3,x4,x5,x6,rfl⟩;simp only[ws];exact⟨_,rfl⟩
end W35
set_option maxHeartbeats 4000000
namespace W35
variable{T0:Addr}
open PySem L2
theorem sQ{α β:Type}{us:List α}{x0:β}(h:us.length=[x0].length):∃a0,us=[a0]:=by
 cases us with
 |nil=>cases h
 |cons a0 r=>exact⟨a0,by rw[za6.mp (show r.length=0 from Nat.succ.inj h)]⟩
theorem fw{α β:Type}{us:List α}{x0 x1:β}(h:us.length=[x0,x1].length):∃a0 a1,us=[a0,a1]:=by
 cases us with
 |nil=>cases h
 |cons a0 r=>obtain⟨a1,rfl⟩:=sQ (us:=r) (x0:=x1) (Nat.succ.inj h);exact⟨a0,a1,rfl⟩
theorem ib{α β:Type}{us:List α}{x0 x1 x2:β}(h:us.length=[x0,x1,x2].length):∃a0 a1 a2,us=[a0,a1,a2]:=by
 cases us with
 |nil=>cases h
 |cons a0 r=>obtain⟨a1,a2,rfl⟩:=fw (us:=r) (x0:=x1) (x1:=x2) (Nat.succ.inj h);exact⟨a0,a1,a2,rfl⟩
theorem Ho{α β:Type}{us:List α}{x0 x1 x2 x3:β}(h:us.length=[x0,x1,x2,x3].length):∃a0 a1 a2 a3,us=[a0,a1,a2,a3]:=by
 cases us with
 |nil=>cases h
 |cons a0 r=>obtain⟨a1,a2,a3,rfl⟩:=ib (us:=r) (x0:=x1) (x1:=x2) (x2:=x3) (Nat.succ.inj h);exact⟨a0,a1,a2,a3,rfl⟩
theorem all_mk{l:PySem.W.OpenLaw}{w:World}{K0:zbV}{h:Heap}{mg:Str->Option Value}{fa f0 f1 f2 f3 f4 f5 f6 f7 f8 f9 f10 f11 f12 f13 f14 f15 f16 f17 f18 f19 f20 f21 f22 f23 f24 f25 f26 f27 c0:Addr}{tk0:Tok}(X0:K0.In h)(G:h.Ns mainGlobals mg)(hfa:mg "law"=some (.ref fa))
  (d0:Df K0 "_law_draw" jV f0)
  (d1:Df K0 "_law_goal" jU f1)
  (d2:Df K0 "_law_machine" c9 f2)
  (d3:Df K0 "_law_twin" jS f3)
  (d4:Df K0 "_law_doubled" eQ f4)
  (d5:Df K0 "_law_two" kE f5)
  (d6:Df K0 "refuse_above" gJ f6)
  (d7:Df K0 "explored" kC f7)
  (d8:Df K0 "came_from" jR f8)
  (d9:Df K0 "row_to" nz f9)
  (d10:Df K0 "first_row" jQ f10)
  (d11:Df K0 "led" xH f11)
  (d12:Df K0 "how_many_signs" fG f12)
  (d13:Df K0 "pairs_ahead" fF f13)
  (d14:Df K0 "ahead_for_within" cD f14)
  (d15:Df K0 "is_end" nA f15)
  (d16:Df K0 "is_within" jP f16)
  (d17:DfL K0 "within" je f17 c0 T0)
  (d18:Df K0 "_law_pen" kF f18)
  (d19:Df K0 "_law_copied" fH f19)
  (d20:Df K0 "_law_is_end" ik f20)
  (d21:Df K0 "_law_led" kG f21)
  (d22:Df K0 "_law_first" iX f22)
  (d23:Df K0 "_law_is_place" gg f23)
  (d24:Df K0 "_law_are_pairs" fI f24)
  (d25:Df K0 "_law_hold" jT f25)
  (d26:Df K0 "_law_right" gj f26)
  (d27:Df K0 "law" lX f27)
  (n0:K0.lookup T0=none)
  (nd:([(T0,lamwithin.qual)].map (·.1)).Nodup)
  (y0:PySem.W.nsIn K0 mainGlobals "MOST_PAIRS_COMPARED"=some (some (.int 10000 tk0)))
  (z0:PySem.W.nsIn K0 mainGlobals "bool"=some none)
  (z1:PySem.W.nsIn K0 mainGlobals "enumerate"=some none)
  (z2:PySem.W.nsIn K0 mainGlobals "int"=some none)
  (z3:PySem.W.nsIn K0 mainGlobals "isinstance"=some none)
  (z4:PySem.W.nsIn K0 mainGlobals "len"=some none)
  (z5:PySem.W.nsIn K0 mainGlobals "list"=some none)
  (z6:PySem.W.nsIn K0 mainGlobals "range"=some none)
  (z7:PySem.W.nsIn K0 mainGlobals "reversed"=some none)
  (z8:PySem.W.nsIn K0 mainGlobals "set"=some none)
  (z9:PySem.W.nsIn K0 mainGlobals "tuple"=some none):
  ((∀b,(bu K0 [(T0,lamwithin.qual)]).lookup b=K0.lookup b)/\(∀q∈[(T0,lamwithin.qual)],K0.lookup q.1=none/\isCodeTable h q.1)/\([(T0,lamwithin.qual)].map (·.1)).Nodup)/\∃fd:FuncData,(∀(s:Shared) (v:Value),BindsTo s fd ⟨[v],[]⟩ [("_law_script",v)])/\∀base:Heap,(bu K0 [(T0,lamwithin.qual)]).In base->base.Ns mainGlobals mg->FnOk l.prog w (bu K0 [(T0,lamwithin.qual)]) mg base CX0 7 fa fd ["_law_script"] (lZ (bu K0 [(T0,lamwithin.qual)])):=by
 have hlk:=tw z0 [(T0,lamwithin.qual)];have e:=hfa.symm.trans (za8 X0 G d27.a);cases e;refine⟨⟨hlk,List.forall_mem_cons.mpr ⟨⟨n0,d17.cd.tab X0⟩,λ_ z=>nomatch z⟩,nd⟩,?_⟩;have X:(bu K0 [(T0,lamwithin.qual)]).In h:=λb o e=>X0 b o (by rw[<-hlk];exact e);have v0:=za8 X0 G y0;have T:Bl mg:=⟨za7 X0 G z0,za7 X0 G z1,za7 X0 G z2,za7 X0 G z3,za7 X0 G z4,za7 X0 G z5,za7 X0 G z6,za7 X0 G z7,za7 X0 G z8,za7 X0 G z9⟩
 replace d0:=d0.reg hlk
 replace d1:=d1.reg hlk
 replace d2:=d2.reg hlk
 replace d3:=d3.reg hlk
 replace d4:=d4.reg hlk
 replace d5:=d5.reg hlk
 replace d6:=d6.reg hlk
 replace d7:=d7.reg hlk
 replace d8:=d8.reg hlk
 replace d9:=d9.reg hlk
 replace d10:=d10.reg hlk
 replace d11:=d11.reg hlk
 replace d12:=d12.reg hlk
 replace d13:=d13.reg hlk
 replace d14:=d14.reg hlk
 replace d15:=d15.reg hlk
 replace d16:=d16.reg hlk
 replace d17:=d17.reg hlk
 replace d18:=d18.reg hlk
 replace d19:=d19.reg hlk
 replace d20:=d20.reg hlk
 replace d21:=d21.reg hlk
 replace d22:=d22.reg hlk
 replace d23:=d23.reg hlk
 replace d24:=d24.reg hlk
 replace d25:=d25.reg hlk
 replace d26:=d26.reg hlk
 replace d27:=d27.reg hlk
 generalize hK:(bu K0 [(T0,lamwithin.qual)])=K at *;have rg0:Rg K T0 lamwithin.qual:=hK▸Rg.mk (List.Mem.head _);obtain⟨oc,od,kV,dc,pm,an,cd,ct,sl,ll,lc⟩:=d27.l;have FL:=pX (st:=lX) ll lc d27.k;refine⟨PySem.W.fnOf "law" "law" (b6 lX) (be lX) (ak lX) .none kV dc pm an cd ct,λs v=>.of_eq rfl,λbase _ _=>?_⟩;have g0:Kn l.prog w K mg base 1 "_law_draw" ["_law_pen_here","_law_many"] (spF K [1,0] 0 aG):=d0.kn X G (λ_ _ _ _ _ _ us hl=>by obtain⟨a0,a1,rfl⟩:=fw hl;rfl) λ_ F=>qE (k:=0) T    F;have g1:Kn l.prog w K mg base 1 "_law_goal" ["_law_none","_law_stand"] (spF K [0,0] 0 bF):=d1.kn X G (λ_ _ _ _ _ _ us hl=>by obtain⟨a0,a1,rfl⟩:=fw hl;rfl) λ_ F=>qD (k:=0) T    F;have g2:Kn l.prog w K mg base 2 "_law_machine" ["_law_pen_here","_law_many","_law_most"] (spF K [1,0,0] 3 bA):=d2.kn X G (λ_ _ _ _ _ _ us hl=>by obtain⟨a0,a1,a2,rfl⟩:=ib hl;rfl) λ_ F=>m5 (k:=1) T  (g0.mono (by decide)) (g1.mono (by decide))  F;have g3:Kn l.prog w K mg base 1 "_law_twin" ["_law_goal_here","_law_which"] (spF K [0,0] 3 cZ):=d3.kn X G (λ_ _ _ _ _ _ us hl=>by obtain⟨a0,a1,rfl⟩:=fw hl;rfl) λ_ F=>qB (k:=0) T    F;have g4:Kn l.prog w K mg base 2 "_law_doubled" ["_law_pen_here","_law_machine_here","_law_bent"] (spF K [1,0,0] 3 cu):=d4.kn X G (λ_ _ _ _ _ _ us hl=>by obtain⟨a0,a1,a2,rfl⟩:=ib hl;rfl) λ_ F=>m6 (k:=1) T  (g0.mono (by decide)) (g1.mono (by decide)) (g3.mono (by decide))  F;have g5:Kn l.prog w K mg base 3 "_law_two" ["_law_pen_here"] (spF K [1] 0 ft):=d5.kn X G (λ_ _ _ _ _ _ us hl=>by obtain⟨a0,rfl⟩:=sQ hl;rfl) λ_ F=>sI (k:=2) T  (g2.mono (by decide)) (g0.mono (by decide)) (g4.mono (by decide))  F;have g6:Kn l.prog w K mg base 1 "refuse_above" ["most","one","other"] (spF K [0,0,0] 3 cq):=d6.kn X G (λ_ _ _ _ _ _ us hl=>by obtain⟨a0,a1,a2,rfl⟩:=ib hl;rfl) λ_ F=>m4 (k:=0) T    F;have g8:Kn l.prog w K mg base 1 "came_from" ["goes","first"] (spF K [0,0] 1 bX):=d8.kn X G (λ_ _ _ _ _ _ us hl=>by obtain⟨a0,a1,rfl⟩:=fw hl;rfl) λ_ F=>qA (k:=0) T    F;have g9:Kn l.prog w K mg base 1 "row_to" ["came","stand"] (spF K [0,0] 1 dU):=d9.kn X G (λ_ _ _ _ _ _ us hl=>by obtain⟨a0,a1,rfl⟩:=fw hl;rfl) λ_ F=>wx (k:=0) T    F;have g10:Kn l.prog w K mg base 2 "first_row" ["machine","stand"] (spF K [0,0] 1 bW):=d10.kn X G (λ_ _ _ _ _ _ us hl=>by obtain⟨a0,a1,rfl⟩:=fw hl;rfl) λ_ F=>qz (k:=1) T  (g8.mono (by decide)) (g9.mono (by decide))  F;have g11:Kn l.prog w K mg base 1 "led" ["machine","stand","sign"] (spF K [0,0,0] 0 kM):=d11.kn X G (λ_ _ _ _ _ _ us hl=>by obtain⟨a0,a1,a2,rfl⟩:=ib hl;rfl) λ_ F=>GA (k:=0) T    F;have g12:Kn l.prog w K mg base 1 "how_many_signs" ["machine"] (spF K [0] 3 bM):=d12.kn X G (λ_ _ _ _ _ _ us hl=>by obtain⟨a0,rfl⟩:=sQ hl;rfl) λ_ F=>lN (k:=0) T    F;have g13:Kn l.prog w K mg base 2 "pairs_ahead" ["one","other","pair"] (spF K [0,0,0] 1 cM):=d13.kn X G (λ_ _ _ _ _ _ us hl=>by obtain⟨a0,a1,a2,rfl⟩:=ib hl;rfl) λ_ F=>on (k:=1) T  (g11.mono (by decide)) (g12.mono (by decide))  F;have g14:Kn l.prog w K mg base 3 "ahead_for_within" ["one","other","pair"] (spF K [0,0,0] 1 bc):=d14.kn X G (λ_ _ _ _ _ _ us hl=>by obtain⟨a0,a1,a2,rfl⟩:=ib hl;rfl) λ_ F=>ke (k:=2) T  (g13.mono (by decide))  F;have g15:Kn l.prog w K mg base 1 "is_end" ["machine","stand"] (spF K [0,0] 0 fq):=d15.kn X G (λ_ _ _ _ _ _ us hl=>by obtain⟨a0,a1,rfl⟩:=fw hl;rfl) λ_ F=>wy (k:=0) T    F;have g16:Kn l.prog w K mg base 2 "is_within" ["one","other","pair"] (spF K [0,0,0] 3 dW):=d16.kn X G (λ_ _ _ _ _ _ us hl=>by obtain⟨a0,a1,a2,rfl⟩:=ib hl;rfl) λ_ F=>qy (k:=1) T  (g15.mono (by decide))  F;have gL0:=uR (k:=3) (P:=l.prog) (w:=w) (K:=K) (mg:=mg) (base:=base) T (g14.mono (by decide));have g7_0:KnL l.prog w K mg base 5 "explored" ["first","ahead"] lamwithin (λa ws vs H Q E=>vs.length=2/\ws.length=2/\spF K [0,0,0,0] 2 (dG a dH) (vs++ws) H Q E):=d7.knL X G (λ_ _ _ _ _ _ us hl=>by obtain⟨a0,a1,rfl⟩:=fw hl;rfl) λ_ F=>sH (k:=3) T   rfl rfl gL0 F;have g17:Kn l.prog w K mg base 6 "within" ["one","other"] (spF K [0,0] 2 b7):=d17.kn X G (λ_ _ _ _ _ _ us hl=>by obtain⟨a0,a1,rfl⟩:=fw hl;rfl) λ_ F=>ww (k:=5) T v0 (g6.mono (by decide)) (g7_0.mono (by decide)) (g10.mono (by decide)) (g14.mono (by decide)) (g16.mono (by decide)) rg0  F;have g18:Kn l.prog w K mg base 1 "_law_pen" ["_law_script","_law_k"] (spF K [0,0] 3 cP):=d18.kn X G (λ_ _ _ _ _ _ us hl=>by obtain⟨a0,a1,rfl⟩:=fw hl;rfl) λ_ F=>sJ (k:=0) T    F;have g19:Kn l.prog w K mg base 1 "_law_copied" ["_law_machine_here"] (spF K [0] 2 cg):=d19.kn X G (λ_ _ _ _ _ _ us hl=>by obtain⟨a0,rfl⟩:=sQ hl;rfl) λ_ F=>ou (k:=0) T    F;have g20:Kn l.prog w K mg base 1 "_law_is_end" ["_law_machine_here","_law_stand"] (spF K [0,0] 0 a7):=d20.kn X G (λ_ _ _ _ _ _ us hl=>by obtain⟨a0,a1,rfl⟩:=fw hl;rfl) λ_ F=>oq (k:=0) T    F;have g21:Kn l.prog w K mg base 1 "_law_led" ["_law_machine_here","_law_stand","_law_number"] (spF K [0,0,0] 0 bJ):=d21.kn X G (λ_ _ _ _ _ _ us hl=>by obtain⟨a0,a1,a2,rfl⟩:=ib hl;rfl) λ_ F=>sK (k:=0) T    F;have g22:Kn l.prog w K mg base 2 "_law_first" ["_law_one","_law_other"] (spF K [0,0] 0 df):=d22.kn X G (λ_ _ _ _ _ _ us hl=>by obtain⟨a0,a1,rfl⟩:=fw hl;rfl) λ_ F=>pB (k:=1) T  (g20.mono (by decide)) (g21.mono (by decide))  F;have g23:Kn l.prog w K mg base 1 "_law_is_place" ["_law_machine_here","_law_thing"] (spF K [0,0] 3 aZ):=d23.kn X G (λ_ _ _ _ _ _ us hl=>by obtain⟨a0,a1,rfl⟩:=fw hl;rfl) λ_ F=>ma (k:=0) T    F;have g24:Kn l.prog w K mg base 2 "_law_are_pairs" ["_law_one","_law_other","_law_pairs"] (spF K [0,0,0] 3 bN):=d24.kn X G (λ_ _ _ _ _ _ us hl=>by obtain⟨a0,a1,a2,rfl⟩:=ib hl;rfl) λ_ F=>lP (k:=1) T  (g23.mono (by decide))  F;have g25:Kn l.prog w K mg base 3 "_law_hold" ["_law_one","_law_other","_law_pairs","_law_whole"] (spF K [0,0,0,0] 3 dX):=d25.kn X G (λ_ _ _ _ _ _ us hl=>by obtain⟨a0,a1,a2,a3,rfl⟩:=Ho hl;rfl) λ_ F=>qC (k:=2) T  (g20.mono (by decide)) (g24.mono (by decide)) (g21.mono (by decide))  F;have g26:Kn l.prog w K mg base 4 "_law_right" ["_law_one","_law_other","_law_found"] (spF K [0,0,0] 3 aU):=d26.kn X G (λ_ _ _ _ _ _ us hl=>by obtain⟨a0,a1,a2,rfl⟩:=ib hl;rfl) λ_ F=>pA (k:=3) T  (g22.mono (by decide)) (g25.mono (by decide))  F;exact(GB (k:=6) T  (g5.mono (by decide)) (g17.mono (by decide)) (g18.mono (by decide)) (g19.mono (by decide)) (g26.mono (by decide))  FL).imp λvs H Q E h=>EM wM h
def walk{l:PySem.W.OpenLaw}{q:Program}{gV:List Str}{XP:(Str->Option Value)->Heap->Prop}{YP:World->Heap->Prop}{d:DefRec}{K:Params->zbV}(hn:l.most=some 63)(hdf:d.params.defaults=[])(hq:PyProof.Rows.importsNone q=true)
  (hY:∀(w:World) (h:Heap),YP w h->(K w.params).In h) (hT0:∀(w:World) (h:Heap),YP w h->h.get? T0=some (PySem.W.tabObj #[]))
  (F:∀(w:World) (mg:Str->Option Value) (fa:Addr) (h:Heap),(K w.params).In h->h.Ns mainGlobals mg->mg d.name=some (.ref fa) ->
   ((∀b,(bu (K w.params) [(T0,lamwithin.qual)]).lookup b=(K w.params).lookup b)/\(∀q∈[(T0,lamwithin.qual)],(K w.params).lookup q.1=none/\isCodeTable h q.1)/\([(T0,lamwithin.qual)].map (·.1)).Nodup)/\∃fd:FuncData,(∀(s:Shared) (u:Value),BindsTo s fd ⟨[u],[]⟩ [("_law_script",u)])/\∀base:Heap,(bu (K w.params) [(T0,lamwithin.qual)]).In base->base.Ns mainGlobals mg->FnOk l.prog w (bu (K w.params) [(T0,lamwithin.qual)]) mg base CX0 7 fa fd ["_law_script"] (lZ (bu (K w.params) [(T0,lamwithin.qual)]))):
  PySem.W.WalkO q gV XP YP l.row.toRowW d [] (λf vs=>PySem.call f vs):=
 DT (n:=63) (k:=7) (x:="_law_script") (ts:=[(T0,lamwithin.qual)]) hn (by decide) hdf ⟨rfl,by decide,by decide,rfl⟩ hq hY (λw h Y=>List.forall_mem_cons.mpr ⟨hT0 w h Y,λ_ z=>nomatch z⟩) F
end W35
open PySem PySem.W PyProof.Rows
set_option maxRecDepth 100000 in
set_option maxHeartbeats 0 in
theorem PySem.Challenge.cw_wordrules_k35_one_within_the_other_holds : PySem.Challenge.rw_wordrules_k35_one_within_the_other.Holds := by
 w_on;o_law;k_head;(case hw=>w_witness2)
 k_fill
 refine W35.walk (l:=PySem.Challenge.rw_wordrules_k35_one_within_the_other) rfl rfl rfl (λw h Y=>And.left Y) (λw h Y=>And.right Y _ (.head _)) ?F
 case F=>
  intro w mg fa h KX G hmg;refine' W35.all_mk KX G hmg (.mk' ?_ ?_ ?_ ?_) (.mk' ?_ ?_ ?_ ?_) (.mk' ?_ ?_ ?_ ?_) (.mk' ?_ ?_ ?_ ?_) (.mk' ?_ ?_ ?_ ?_) (.mk' ?_ ?_ ?_ ?_) (.mk' ?_ ?_ ?_ ?_) (.mk' ?_ ?_ ?_ ?_) (.mk' ?_ ?_ ?_ ?_) (.mk' ?_ ?_ ?_ ?_) (.mk' ?_ ?_ ?_ ?_) (.mk' ?_ ?_ ?_ ?_) (.mk' ?_ ?_ ?_ ?_) (.mk' ?_ ?_ ?_ ?_) (.mk' ?_ ?_ ?_ ?_) (.mk' ?_ ?_ ?_ ?_) (.mk' ?_ ?_ ?_ ?_) (.mk' ?_ ?_ ?_ ?_ ?_ ?q0 ?n0) (.mk' ?_ ?_ ?_ ?_) (.mk' ?_ ?_ ?_ ?_) (.mk' ?_ ?_ ?_ ?_) (.mk' ?_ ?_ ?_ ?_) (.mk' ?_ ?_ ?_ ?_) (.mk' ?_ ?_ ?_ ?_) (.mk' ?_ ?_ ?_ ?_) (.mk' ?_ ?_ ?_ ?_) (.mk' ?_ ?_ ?_ ?_) (.mk' ?_ ?_ ?_ ?_) ?l0  ?nd ?_ ?_ ?_ ?_ ?_ ?_ ?_ ?_ ?_ ?_ ?_
  all_goals (try k_is)
  case q0=>rfl
  case n0=>decide
  case l0=>kernel_rfl
  case nd=>decide

